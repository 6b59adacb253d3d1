/-
  The Go function TrellisPaths returns true for every list of bytes: the path of a list is told, or that it is none; it ends where it began, and tells the code. Condition: the package variable conv.taps holds what its initialiser lays (tied by the card).
-/
import Derived.Test.YtlnjealhiikmeaaDoorRows
import Derived.WalkKit
import Derived.Test.YtlnjealhiikmeaaDoorBm
import Derived.Test.YtlnjealhiikmeaaDoorBn
import Derived.Test.YtlnjealhiikmeaaDoorPoly
import Derived.Test.YtlnjealhiikmeaaDoorMem
import Derived.Test.YtlnjealhiikmeaaDoorCm
import Derived.Test.YtlnjealhiikmeaaDoorKm
import Derived.Test.YtlnjealhiikmeaaDoorRr
import Derived.Test.YtlnjealhiikmeaaDoorArg
import Derived.Test.YtlnjealhiikmeaaDoorKa
import Derived.Test.YtlnjealhiikmeaaDoorKb
import Derived.Test.YtlnjealhiikmeaaDoorBk
import Derived.Test.YtlnjealhiikmeaaDoorKc
import Derived.Test.YtlnjealhiikmeaaDoorKd
import Derived.Test.YtlnjealhiikmeaaDoorKe
import Derived.Test.YtlnjealhiikmeaaDoorKf
import Derived.Test.YtlnjealhiikmeaaDoorKg
import Derived.Test.YtlnjealhiikmeaaDoorLd
import Derived.Test.YtlnjealhiikmeaaDoorTa
import Derived.Test.YtlnjealhiikmeaaDoorTb
import Derived.Test.YtlnjealhiikmeaaDoorTc
import Derived.Test.YtlnjealhiikmeaaDoorMc
import Derived.Test.YtlnjealhiikmeaaDoorMr
import Derived.Test.YtlnjealhiikmeaaDoorMg
import Derived.Test.YtlnjealhiikmeaaDoorTs
import Derived.Test.YtlnjealhiikmeaaDoorTe
import Derived.Test.YtlnjealhiikmeaaDoorTf
import Derived.Test.YtlnjealhiikmeaaDoorTp
import Derived.Test.YtlnjealhiikmeaaDoorTq
import Derived.Test.YtlnjealhiikmeaaDoorTh
import Derived.ProofKit
import Derived.OpenShut
import Derived.ShutString
import Derived.ChangeOld
import Derived.Below
import Derived.Test.YtlnjealhiikmeaaDoorCards
import Derived.Test.YtlnjealhiikmeaaDoorTie
import Derived.LaidMore
import Derived.Stop.Joined
import Derived.SevenTiedAt
namespace Go.Proofs.YtlnjealhiikmeaaDoor.trellisPaths
open Go.ChangeShapes Go.WideShapes Go.ChangeAt Go.RowKit
set_option linter.unusedVariables false

theorem own : ownKnob Tryd.prog.godebug = none := by kernel_rfl
theorem laidOut : laidOutB Tryd.prog = true := by kernel_rfl

/-- The walk. -/
theorem walk (a0 : Option Addr) (len0 cap0 : Nat) (z0 : List Int) (w : World) (w0 : Came .u8 w a0 len0 cap0 z0) (hT : Taps w) :
    Calls Tryd.prog 9 #[.slice a0 len0 cap0] w fun e w' => e = .returned (.bool true) ∧ Below w.heap.size w w' := by
  obtain ⟨xs, r1, b1, l1, m1, hnone⟩ := came8 (w := w) w0
  exact walkTrellisPaths a0 len0 cap0 xs w r1 b1 l1 m1 hnone hT

set_option maxRecDepth 100000 in
theorem lifted (os : Os) (started : os.Started) (H : Type) (enc : TypeId × Value → H) :
    ReturnsInHanded {} Tryd.checked os 9 .any (fun w args => (Rows.trellisPathsSpec.pre enc Tryd.prog Tryd.f9 [] false w args ∧ laidMetH Tryd.prog Rows.trellisPathsRow.laid w) ∧ sizedMet enc Tryd.prog Tryd.f9 (OpenSpec.ofChange Rows.trellisPathsSpec) false w args)
      (Rows.trellisPathsSpec.post enc Tryd.prog Tryd.f9 false true false false) := by
  refine returnsInHanded_of_change_and (C := Tryd.checked) (X := fun w _ => laidMetH Tryd.prog Rows.trellisPathsRow.laid w) (fun _ _ _ hh h => h.of_heap hh) own started (by kernel_rfl) Tryd.func9
    (ChangeSpec.witness_shaped (enc := enc) (C := Tryd.checked) (os := os) (X := fun w _ => laidMetH Tryd.prog Rows.trellisPathsRow.laid w) false (World.doorLaid Tryd.prog 400 os) #[.slice none 0 0] 8 rfl (World.shaped_of_RefB (by kernel_rfl) (by kernel_rfl)) (by kernel_rfl) (by kernel_rfl) (by kernel_rfl) (door_met os _)) ?_
  intro W base args ds gs before hval0 hW _ _ hL _
  have hval : ∀ (j : Nat) t v, Tryd.f9.params[j]? = some t → args[j]? = some v → Value.okWide Tryd.prog W .any base t v := hval0
  have hW' := hW
  obtain ⟨p, q, hA0, hV, rfl, hfz, hnd⟩ := hW
  have hA : DataW.TrodAll enc Tryd.prog W 0 (fun _ => true) true Tryd.f9.params.toList args.toList ds p := hA0
  rw [Tryd.params9] at hA hval
  obtain ⟨v0, vs0, d0, ds0, p0, q0, hargs, rfl, rfl, h0, r0⟩ := trodAll_cons hA
  obtain ⟨rfl, rfl, rfl⟩ := trodAll_nil r0
  obtain rfl : args = #[v0] := by cases args; simp_all
  obtain ⟨rfl, rfl⟩ := trodVars_none hV
  obtain ⟨a0, len0, cap0, rfl⟩ := okWide_slice Tryd.underlying30 (hval 0 30 v0 rfl rfl)
  have k0 := h0
  have lt0 : ∀ x ∈ p0, x.block < W.heap.size := by obtain ⟨m, hm⟩ := k0; exact DataW.trod_lt m _ _ _ hm
  obtain ⟨z0, w0⟩ : ∃ zs, Came .u8 W a0 len0 cap0 zs := by
    obtain ⟨fuel, hf⟩ := h0
    rcases open_ints Tryd.underlying30 Tryd.underlying5 (by kernel_rfl) hf with ⟨hcs, _⟩ | ⟨x, l, c, zs, hcs, _, hl, hm, hz, _, hcell, hwz⟩
    · simp [Value.cells] at hcs
      obtain ⟨rfl, rfl, rfl⟩ := hcs
      exact ⟨[], .inl ⟨rfl, rfl, rfl, rfl⟩⟩
    · simp [Value.cells] at hcs
      obtain ⟨rfl, rfl, rfl⟩ := hcs
      exact ⟨zs, .inr ⟨_, rfl, hl, hm, by simpa using hz, hcell, hwz⟩⟩
  clear hA0 hval0
  refine (walk a0 len0 cap0 z0 W w0 (of_laid hL)).mono fun e W' ⟨he, bel⟩ => ?_
  subst he
  exact ⟨_, rfl, _, _, _, [], _, [], hW', trodAll_mk1 (shut_bool Tryd.underlying4 _), (trodAll_cons_mk (Below.trod laidOut (by kernel_rfl) (of_decide_eq_true (by kernel_rfl)) k0 bel lt0) trodAll_mk0), rfl, bel.frame _, fun h => by cases h⟩

theorem over : Rows.trellisPathsRow.holds Tryd.pinned (OpenSpec.ofChange Rows.trellisPathsSpec) :=
  OpenClaim.holds_of_wide 9 Tryd.f9 rfl rfl rfl rfl rfl rfl rfl ⟨rfl, rfl, rfl, rfl, rfl⟩ rfl rfl rfl rfl rfl (by kernel_rfl) Tryd.func9 (by kernel_rfl)
    (of_decide_eq_true (by kernel_rfl)) (by unfold Func.isWrapper; first | (rw [if_pos (by decide +kernel)]; kernel_rfl) | (rw [if_neg (by decide +kernel)]; exact ⟨rfl, rfl⟩))
    (fun os started H enc _ => lifted os started H enc)
end Go.Proofs.YtlnjealhiikmeaaDoor.trellisPaths

namespace Go.Proofs.YtlnjealhiikmeaaDoor
/-- THE STATEMENT: the card. -/
theorem trellisPaths_holds : Rows.TrellisPathsCardSaid :=
  Claim7.holds_tied_plain_at .later [] [.data] true (true, "19f39bb74d2967923223dcdcd7fc19cad53663ab37642eece90a60419d5895b9") false
    trellisPaths.over (fun _ h => by cases h) (by kernel_rfl) (fun _ h => by cases h) trellisPaths_row_tie rfl ⟨rfl, rfl⟩ (by kernel_rfl) rfl
    (fun f fn hf hfn => by
      obtain rfl : f = 9 := Option.some.inj ((show Tryd.prog.funcNamed "shuttle/shuttlelaw07.TrellisPaths" = some 9 by kernel_rfl).symm.trans hf) |>.symm
      obtain rfl : fn = Tryd.f9 := (Option.some.inj (Tryd.func9.symm.trans hfn)).symm
      exact ⟨by kernel_rfl, fun j t ht => by
        rw [Tryd.params9] at ht
        have hm : t ∈ [30] := by simpa using Array.mem_of_getElem? ht
        have hall : ([30].all fun u => !Tryd.prog.wantsStandIn u) = true := by kernel_rfl
        exact (show Tryd.prog.wantsStandIn t = false by simpa using List.all_eq_true.1 hall t hm)⟩)
    (by kernel_rfl)
#print axioms trellisPaths_holds
end Go.Proofs.YtlnjealhiikmeaaDoor
