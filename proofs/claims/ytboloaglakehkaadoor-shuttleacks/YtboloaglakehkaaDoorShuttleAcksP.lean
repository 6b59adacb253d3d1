/-
  For every base and all numbers that have come, ShuttleAcks answers true: what has come, told by a frame, is what has not come less. The package-level errors hold what the program lays into them.
-/
import Derived.Test.YtboloaglakehkaaDoorRows
import Derived.WalkKit
import Derived.Test.YtboloaglakehkaaDoorBm
import Derived.Test.YtboloaglakehkaaDoorMem
import Derived.Test.YtboloaglakehkaaDoorZa
import Derived.Test.YtboloaglakehkaaDoorBk
import Derived.Test.YtboloaglakehkaaDoorZc
import Derived.Test.YtboloaglakehkaaDoorMc
import Derived.Test.YtboloaglakehkaaDoorMg
import Derived.Test.YtboloaglakehkaaDoorMh
import Derived.Test.YtboloaglakehkaaDoorZd
import Derived.Test.YtboloaglakehkaaDoorZe
import Derived.Test.YtboloaglakehkaaDoorZm
import Derived.Test.YtboloaglakehkaaDoorPoly
import Derived.Test.YtboloaglakehkaaDoorBn
import Derived.Test.YtboloaglakehkaaDoorCm
import Derived.Test.YtboloaglakehkaaDoorCn
import Derived.Test.YtboloaglakehkaaDoorXb
import Derived.Test.YtboloaglakehkaaDoorRr
import Derived.Test.YtboloaglakehkaaDoorRs
import Derived.Test.YtboloaglakehkaaDoorXa
import Derived.Test.YtboloaglakehkaaDoorXc
import Derived.Test.YtboloaglakehkaaDoorFa
import Derived.Test.YtboloaglakehkaaDoorFb
import Derived.Test.YtboloaglakehkaaDoorFe
import Derived.Test.YtboloaglakehkaaDoorFf
import Derived.Test.YtboloaglakehkaaDoorFg
import Derived.Test.YtboloaglakehkaaDoorFn
import Derived.Test.YtboloaglakehkaaDoorFc
import Derived.Test.YtboloaglakehkaaDoorFd
import Derived.Test.YtboloaglakehkaaDoorFh
import Derived.Test.YtboloaglakehkaaDoorFi
import Derived.Test.YtboloaglakehkaaDoorFm
import Derived.Test.YtboloaglakehkaaDoorFq
import Derived.Test.YtboloaglakehkaaDoorFs
import Derived.Test.YtboloaglakehkaaDoorFl
import Derived.Test.YtboloaglakehkaaDoorArg
import Derived.ProofKit
import Derived.OpenShut
import Derived.ShutString
import Derived.ChangeOld
import Derived.Below
import Derived.Test.YtboloaglakehkaaDoorCards
import Derived.Test.YtboloaglakehkaaDoorTie
import Derived.LaidMore
import Derived.Stop.Joined
import Derived.SevenTiedAt
namespace Go.Proofs.YtboloaglakehkaaDoor.shuttleAcks
open Go.ChangeShapes Go.WideShapes Go.ChangeAt Go.RowKit
set_option linter.unusedVariables false

theorem own : ownKnob Tryd.prog.godebug = none := by kernel_rfl
theorem laidOut : laidOutB Tryd.prog = true := by kernel_rfl

/-- The walk. -/
theorem walk (a0 : Int) (a1 : Option Addr) (len1 cap1 : Nat) (z1 : List Int) (w : World) (w0 : (Lit.int .u16 a0).wf = true) (w1 : Came .i64 w a1 len1 cap1 z1) (hE : ∃ a, ErrsAt w a) :
    Calls Tryd.prog 8 #[.int .u16 a0, .slice a1 len1 cap1] w fun e w' => e = .returned (.bool true) ∧ Below w.heap.size w w' := by
  have h0 := bounds_u16 w0
  obtain ⟨q, rfl⟩ : ∃ q : Nat, a0 = (q : Int) := ⟨a0.toNat, by omega⟩
  obtain ⟨ys, r1, _, hl, hc, _⟩ := came64 w1
  obtain ⟨a, hA⟩ := hE
  exact shuttleAcks q a1 len1 cap1 ys a w (by omega) r1 (by omega) hA

set_option maxRecDepth 100000 in
theorem lifted (os : Os) (started : os.Started) (H : Type) (enc : TypeId × Value → H) :
    ReturnsInHanded {} Tryd.checked os 8 .any (fun w args => (Rows.shuttleAcksSpec.pre enc Tryd.prog Tryd.f8 [] false w args ∧ laidMetH Tryd.prog Rows.shuttleAcksRow.laid w) ∧ sizedMet enc Tryd.prog Tryd.f8 (OpenSpec.ofChange Rows.shuttleAcksSpec) false w args)
      (Rows.shuttleAcksSpec.post enc Tryd.prog Tryd.f8 false true false false) := by
  refine returnsInHanded_of_change_and (C := Tryd.checked) (X := fun w _ => laidMetH Tryd.prog Rows.shuttleAcksRow.laid w) (fun _ _ _ hh h => h.of_heap hh) own started (by kernel_rfl) Tryd.func8
    (ChangeSpec.witness_shaped (enc := enc) (C := Tryd.checked) (os := os) (X := fun w _ => laidMetH Tryd.prog Rows.shuttleAcksRow.laid w) false (World.doorLaid Tryd.prog 400 os) #[.int .u16 0, .slice none 0 0] 8 rfl (World.shaped_of_RefB (by kernel_rfl) (by kernel_rfl)) (by kernel_rfl) (by kernel_rfl) (by kernel_rfl) (door_met os _)) ?_
  intro W base args ds gs before hval0 hW _ _ hL _
  have hval : ∀ (j : Nat) t v, Tryd.f8.params[j]? = some t → args[j]? = some v → Value.okWide Tryd.prog W .any base t v := hval0
  have hW' := hW
  obtain ⟨p, q, hA0, hV, rfl, hfz, hnd⟩ := hW
  have hA : DataW.TrodAll enc Tryd.prog W 0 (fun _ => true) true Tryd.f8.params.toList args.toList ds p := hA0
  rw [Tryd.params8] at hA hval
  obtain ⟨v0, vs0, d0, ds0, p0, q0, hargs, rfl, rfl, h0, r0⟩ := trodAll_cons hA
  obtain ⟨v1, vs1, d1, ds1, p1, q1, rfl, rfl, rfl, h1, r1⟩ := trodAll_cons r0
  obtain ⟨rfl, rfl, rfl⟩ := trodAll_nil r1
  obtain rfl : args = #[v0, v1] := by cases args; simp_all
  obtain ⟨rfl, rfl⟩ := trodVars_none hV
  obtain ⟨a0, rfl, rfl, rfl, w0⟩ := open_int Tryd.underlying27 (hval 0 27 v0 rfl rfl) h0
  obtain ⟨a1, len1, cap1, rfl⟩ := okWide_slice Tryd.underlying53 (hval 1 53 v1 rfl rfl)
  have k1 := h1
  have lt1 : ∀ x ∈ p1, x.block < W.heap.size := by obtain ⟨m, hm⟩ := k1; exact DataW.trod_lt m _ _ _ hm
  obtain ⟨z1, w1⟩ : ∃ zs, Came .i64 W a1 len1 cap1 zs := by
    obtain ⟨fuel, hf⟩ := h1
    rcases open_ints Tryd.underlying53 Tryd.underlying3 (by kernel_rfl) hf with ⟨hcs, _⟩ | ⟨x, l, c, zs, hcs, _, hl, hm, hz, _, hcell, hwz⟩
    · simp [Value.cells] at hcs
      obtain ⟨rfl, rfl, rfl⟩ := hcs
      exact ⟨[], .inl ⟨rfl, rfl, rfl, rfl⟩⟩
    · simp [Value.cells] at hcs
      obtain ⟨rfl, rfl, rfl⟩ := hcs
      exact ⟨zs, .inr ⟨_, rfl, hl, hm, by simpa using hz, hcell, hwz⟩⟩
  clear hA0 hval0
  refine (walk a0 a1 len1 cap1 z1 W w0 w1 (of_laid hL)).mono fun e W' ⟨he, bel⟩ => ?_
  subst he
  exact ⟨_, rfl, _, _, _, [], _, [], hW', trodAll_mk1 (shut_bool Tryd.underlying4 _), (trodAll_cons_mk (shut_int Tryd.underlying27 w0) (trodAll_cons_mk (Below.trod laidOut (by kernel_rfl) (of_decide_eq_true (by kernel_rfl)) k1 bel lt1) trodAll_mk0)), rfl, bel.frame _, fun h => by cases h⟩

theorem over : Rows.shuttleAcksRow.holds Tryd.pinned (OpenSpec.ofChange Rows.shuttleAcksSpec) :=
  OpenClaim.holds_of_wide 8 Tryd.f8 rfl rfl rfl rfl rfl rfl rfl ⟨rfl, rfl, rfl, rfl, rfl⟩ rfl rfl rfl rfl rfl (by kernel_rfl) Tryd.func8 (by kernel_rfl)
    (of_decide_eq_true (by kernel_rfl)) (by unfold Func.isWrapper; first | (rw [if_pos (by decide +kernel)]; kernel_rfl) | (rw [if_neg (by decide +kernel)]; exact ⟨rfl, rfl⟩))
    (fun os started H enc _ => lifted os started H enc)
end Go.Proofs.YtboloaglakehkaaDoor.shuttleAcks

namespace Go.Proofs.YtboloaglakehkaaDoor
/-- THE STATEMENT: the card. -/
theorem shuttleAcks_holds : Rows.ShuttleAcksCardSaid :=
  Claim7.holds_tied_plain_at .later [] [.handle, .sentinel, .sentinel, .sentinel, .sentinel, .sentinel] true (true, "f3f43532ce6035f4b677cdf91434cfde04625d4a820ccbe2ec673df834dc3089") true
    shuttleAcks.over (fun _ h => by cases h) (by kernel_rfl) (fun _ h => by cases h) shuttleAcks_row_tie rfl ⟨rfl, rfl⟩ (by kernel_rfl) rfl
    (fun f fn hf hfn => by
      obtain rfl : f = 8 := Option.some.inj ((show Tryd.prog.funcNamed "shuttle/shuttletop.ShuttleAcks" = some 8 by kernel_rfl).symm.trans hf) |>.symm
      obtain rfl : fn = Tryd.f8 := (Option.some.inj (Tryd.func8.symm.trans hfn)).symm
      exact ⟨by kernel_rfl, fun j t ht => by
        rw [Tryd.params8] at ht
        have hm : t ∈ [27, 53] := by simpa using Array.mem_of_getElem? ht
        have hall : ([27, 53].all fun u => !Tryd.prog.wantsStandIn u) = true := by kernel_rfl
        exact (show Tryd.prog.wantsStandIn t = false by simpa using List.all_eq_true.1 hall t hm)⟩)
    (by kernel_rfl)
#print axioms shuttleAcks_holds
end Go.Proofs.YtboloaglakehkaaDoor
