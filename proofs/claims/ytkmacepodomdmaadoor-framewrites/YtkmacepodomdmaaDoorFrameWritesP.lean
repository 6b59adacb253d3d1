/-
  For every frame, FrameWrites answers true: Write makes what the document says, and Read gives the same frame back. The package-level errors hold what the program lays into them.
-/
import Derived.Test.YtkmacepodomdmaaDoorRows
import Derived.WalkKit
import Derived.Test.YtkmacepodomdmaaDoorBm
import Derived.Test.YtkmacepodomdmaaDoorMem
import Derived.Test.YtkmacepodomdmaaDoorZa
import Derived.Test.YtkmacepodomdmaaDoorPoly
import Derived.Test.YtkmacepodomdmaaDoorBn
import Derived.Test.YtkmacepodomdmaaDoorCm
import Derived.Test.YtkmacepodomdmaaDoorCn
import Derived.Test.YtkmacepodomdmaaDoorXb
import Derived.Test.YtkmacepodomdmaaDoorRr
import Derived.Test.YtkmacepodomdmaaDoorRs
import Derived.Test.YtkmacepodomdmaaDoorXa
import Derived.Test.YtkmacepodomdmaaDoorXc
import Derived.Test.YtkmacepodomdmaaDoorBk
import Derived.Test.YtkmacepodomdmaaDoorZc
import Derived.Test.YtkmacepodomdmaaDoorNu
import Derived.Test.YtkmacepodomdmaaDoorMc
import Derived.Test.YtkmacepodomdmaaDoorMg
import Derived.Test.YtkmacepodomdmaaDoorMh
import Derived.Test.YtkmacepodomdmaaDoorZd
import Derived.Test.YtkmacepodomdmaaDoorFa
import Derived.Test.YtkmacepodomdmaaDoorFb
import Derived.Test.YtkmacepodomdmaaDoorFe
import Derived.Test.YtkmacepodomdmaaDoorFf
import Derived.Test.YtkmacepodomdmaaDoorFg
import Derived.Test.YtkmacepodomdmaaDoorFn
import Derived.Test.YtkmacepodomdmaaDoorFc
import Derived.Test.YtkmacepodomdmaaDoorFd
import Derived.Test.YtkmacepodomdmaaDoorFh
import Derived.Test.YtkmacepodomdmaaDoorFi
import Derived.Test.YtkmacepodomdmaaDoorFj
import Derived.Test.YtkmacepodomdmaaDoorFt
import Derived.Test.YtkmacepodomdmaaDoorGa
import Derived.Test.YtkmacepodomdmaaDoorGl
import Derived.Test.YtkmacepodomdmaaDoorGm
import Derived.Test.YtkmacepodomdmaaDoorFm
import Derived.Test.YtkmacepodomdmaaDoorFq
import Derived.Test.YtkmacepodomdmaaDoorFu
import Derived.Test.YtkmacepodomdmaaDoorGh
import Derived.Test.YtkmacepodomdmaaDoorRc
import Derived.Test.YtkmacepodomdmaaDoorGb
import Derived.Test.YtkmacepodomdmaaDoorGc
import Derived.Test.YtkmacepodomdmaaDoorGd
import Derived.Test.YtkmacepodomdmaaDoorGe
import Derived.Test.YtkmacepodomdmaaDoorGf
import Derived.Test.YtkmacepodomdmaaDoorGi
import Derived.Test.YtkmacepodomdmaaDoorGk
import Derived.Test.YtkmacepodomdmaaDoorGq
import Derived.Test.YtkmacepodomdmaaDoorFv
import Derived.Test.YtkmacepodomdmaaDoorGr
import Derived.Test.YtkmacepodomdmaaDoorFl
import Derived.Test.YtkmacepodomdmaaDoorArg
import Derived.Test.YtkmacepodomdmaaDoorSq
import Derived.ProofKit
import Derived.OpenShut
import Derived.ShutString
import Derived.ChangeOld
import Derived.Below
import Derived.Test.YtkmacepodomdmaaDoorCards
import Derived.Test.YtkmacepodomdmaaDoorTie
import Derived.LaidMore
import Derived.Stop.Joined
import Derived.SevenTiedAt
namespace Go.Proofs.YtkmacepodomdmaaDoor.frameWrites
open Go.ChangeShapes Go.WideShapes Go.ChangeAt Go.RowKit
set_option linter.unusedVariables false

theorem own : ownKnob Tryd.prog.godebug = none := by kernel_rfl
theorem laidOut : laidOutB Tryd.prog = true := by kernel_rfl

/-- The walk. -/
theorem walk (a0 b0 c0 d0 : Int) (s0 : Option Addr) (len0 cap0 : Nat) (z0 : List Int) (e0 f0 : Int) (w : World) (w0 : Came .u8 w s0 len0 cap0 z0 ∧ (Lit.int .i64 c0).wf = true ∧ (Lit.int .u32 f0).wf = true) (hE : ∃ a, ErrsAt w a) :
    Calls Tryd.prog 3 #[.agg #[.int .i64 a0, .int .i64 b0, .int .i64 c0, .int .i64 d0, .slice s0 len0 cap0, .int .i64 e0, .int .u32 f0]] w fun e w' => e = .returned (.bool true) ∧ Below w.heap.size w w' := by
  obtain ⟨hc0, hv, hm⟩ := w0
  obtain ⟨bs, r0, hb, hl, hc, hnn⟩ := came8 hc0
  have h2 := bounds_i64 hv
  have h3 := bounds_u32 hm
  obtain ⟨m, rfl⟩ : ∃ m : Nat, f0 = (m : Int) := ⟨f0.toNat, by omega⟩
  obtain ⟨a, hA⟩ := hE
  exact frameWrites a0 b0 c0 d0 s0 len0 cap0 e0 m bs a w r0 hb hl hc hnn h2 (by omega) hA

set_option maxRecDepth 100000 in
theorem lifted (os : Os) (started : os.Started) (H : Type) (enc : TypeId × Value → H) :
    ReturnsInHanded {} Tryd.checked os 3 .any (fun w args => (Rows.frameWritesSpec.pre enc Tryd.prog Tryd.f3 [] false w args ∧ laidMetH Tryd.prog Rows.frameWritesRow.laid w) ∧ sizedMet enc Tryd.prog Tryd.f3 (OpenSpec.ofChange Rows.frameWritesSpec) false w args)
      (Rows.frameWritesSpec.post enc Tryd.prog Tryd.f3 false true false false) := by
  refine returnsInHanded_of_change_and (C := Tryd.checked) (X := fun w _ => laidMetH Tryd.prog Rows.frameWritesRow.laid w) (fun _ _ _ hh h => h.of_heap hh) own started (by kernel_rfl) Tryd.func3
    (ChangeSpec.witness_shaped (enc := enc) (C := Tryd.checked) (os := os) (X := fun w _ => laidMetH Tryd.prog Rows.frameWritesRow.laid w) false (World.doorLaid Tryd.prog 400 os) #[.agg #[.int .i64 0, .int .i64 0, .int .i64 0, .int .i64 0, .slice none 0 0, .int .i64 0, .int .u32 0]] 8 rfl (World.shaped_of_RefB (by kernel_rfl) (by kernel_rfl)) (by kernel_rfl) (by kernel_rfl) (by kernel_rfl) (door_met os _)) ?_
  intro W base args ds gs before hval0 hW _ _ hL _
  have hval : ∀ (j : Nat) t v, Tryd.f3.params[j]? = some t → args[j]? = some v → Value.okWide Tryd.prog W .any base t v := hval0
  have hW' := hW
  obtain ⟨p, q, hA0, hV, rfl, hfz, hnd⟩ := hW
  have hA : DataW.TrodAll enc Tryd.prog W 0 (fun _ => true) true Tryd.f3.params.toList args.toList ds p := hA0
  rw [Tryd.params3] at hA hval
  obtain ⟨v0, vs0, d0, ds0, p0, q0, hargs, rfl, rfl, h0, r0⟩ := trodAll_cons hA
  obtain ⟨rfl, rfl, rfl⟩ := trodAll_nil r0
  obtain rfl : args = #[v0] := by cases args; simp_all
  obtain ⟨rfl, rfl⟩ := trodVars_none hV
  obtain ⟨y0, rfl, x0⟩ := okWide_st Tryd.underlying25 (hval 0 25 v0 rfl rfl)
  have k0 := h0
  have lt0 : ∀ x ∈ p0, x.block < W.heap.size := by obtain ⟨m, hm⟩ := k0; exact DataW.trod_lt m _ _ _ hm
  obtain ⟨a0, b0, c0, d0, s0, len0, cap0, z0, e0, f0, u0, w0⟩ : ∃ (k q v l : Int) (a : Option Addr) (len cap : Nat) (zs : List Int) (b m : Int), y0 = #[.int .i64 k, .int .i64 q, .int .i64 v, .int .i64 l, .slice a len cap, .int .i64 b, .int .u32 m] ∧ (Came .u8 W a len cap zs ∧ (Lit.int .i64 v).wf = true ∧ (Lit.int .u32 m).wf = true) := by
    obtain ⟨fuel, hf⟩ := h0
    exact cameFrame x0 hf
  subst u0
  clear hA0 hval0
  refine (walk a0 b0 c0 d0 s0 len0 cap0 z0 e0 f0 W w0 (of_laid hL)).mono fun e W' ⟨he, bel⟩ => ?_
  subst he
  exact ⟨_, rfl, _, _, _, [], _, [], hW', trodAll_mk1 (shut_bool Tryd.underlying4 _), (trodAll_cons_mk (Below.trod laidOut (by kernel_rfl) (of_decide_eq_true (by kernel_rfl)) k0 bel lt0) trodAll_mk0), rfl, bel.frame _, fun h => by cases h⟩

theorem over : Rows.frameWritesRow.holds Tryd.pinned (OpenSpec.ofChange Rows.frameWritesSpec) :=
  OpenClaim.holds_of_wide 3 Tryd.f3 rfl rfl rfl rfl rfl rfl rfl ⟨rfl, rfl, rfl, rfl, rfl⟩ rfl rfl rfl rfl rfl (by kernel_rfl) Tryd.func3 (by kernel_rfl)
    (of_decide_eq_true (by kernel_rfl)) (by unfold Func.isWrapper; first | (rw [if_pos (by decide +kernel)]; kernel_rfl) | (rw [if_neg (by decide +kernel)]; exact ⟨rfl, rfl⟩))
    (fun os started H enc _ => lifted os started H enc)
end Go.Proofs.YtkmacepodomdmaaDoor.frameWrites

namespace Go.Proofs.YtkmacepodomdmaaDoor
/-- THE STATEMENT: the card. -/
theorem frameWrites_holds : Rows.FrameWritesCardSaid :=
  Claim7.holds_tied_plain_at .later [] [.handle, .sentinel, .sentinel, .sentinel, .sentinel, .sentinel] true (true, "d6a012151fec5f3ad2492196efb9ae391feb8c7809995e5977f23c263d82e400") true
    frameWrites.over (fun _ h => by cases h) (by kernel_rfl) (fun _ h => by cases h) frameWrites_row_tie rfl ⟨rfl, rfl⟩ (by kernel_rfl) rfl
    (fun f fn hf hfn => by
      obtain rfl : f = 3 := Option.some.inj ((show Tryd.prog.funcNamed "shuttle/shuttlelaw16.FrameWrites" = some 3 by kernel_rfl).symm.trans hf) |>.symm
      obtain rfl : fn = Tryd.f3 := (Option.some.inj (Tryd.func3.symm.trans hfn)).symm
      exact ⟨by kernel_rfl, fun j t ht => by
        rw [Tryd.params3] at ht
        have hm : t ∈ [25] := by simpa using Array.mem_of_getElem? ht
        have hall : ([25].all fun u => !Tryd.prog.wantsStandIn u) = true := by kernel_rfl
        exact (show Tryd.prog.wantsStandIn t = false by simpa using List.all_eq_true.1 hall t hm)⟩)
    (by kernel_rfl)
#print axioms frameWrites_holds
end Go.Proofs.YtkmacepodomdmaaDoor
