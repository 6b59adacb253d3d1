/-
  DistanceLeast holds for every input: of all weights the least that codes are apart is told, and how much is mended, or that there are no such weights. Conditions: the variable conv.taps holds what its initialiser lays.
-/
import Derived.Test.YtibddlldgmidlaaDoorRows
import Derived.WalkKit
import Derived.Test.YtibddlldgmidlaaDoorBm
import Derived.Test.YtibddlldgmidlaaDoorMem
import Derived.Test.YtibddlldgmidlaaDoorPoly
import Derived.Test.YtibddlldgmidlaaDoorBn
import Derived.Test.YtibddlldgmidlaaDoorCm
import Derived.Test.YtibddlldgmidlaaDoorKm
import Derived.Test.YtibddlldgmidlaaDoorVm
import Derived.Test.YtibddlldgmidlaaDoorVn
import Derived.Test.YtibddlldgmidlaaDoorDm
import Derived.Test.YtibddlldgmidlaaDoorDn
import Derived.Test.YtibddlldgmidlaaDoorPa
import Derived.Test.YtibddlldgmidlaaDoorBk
import Derived.Test.YtibddlldgmidlaaDoorTz
import Derived.Test.YtibddlldgmidlaaDoorPb
import Derived.Test.YtibddlldgmidlaaDoorPt
import Derived.Test.YtibddlldgmidlaaDoorQa
import Derived.Test.YtibddlldgmidlaaDoorMw
import Derived.Test.YtibddlldgmidlaaDoorPi
import Derived.Test.YtibddlldgmidlaaDoorIx
import Derived.Test.YtibddlldgmidlaaDoorMc
import Derived.Test.YtibddlldgmidlaaDoorMg
import Derived.Test.YtibddlldgmidlaaDoorMh
import Derived.Test.YtibddlldgmidlaaDoorRr
import Derived.Test.YtibddlldgmidlaaDoorKd
import Derived.Test.YtibddlldgmidlaaDoorKe
import Derived.Test.YtibddlldgmidlaaDoorKa
import Derived.Test.YtibddlldgmidlaaDoorKb
import Derived.Test.YtibddlldgmidlaaDoorKc
import Derived.Test.YtibddlldgmidlaaDoorKf
import Derived.Test.YtibddlldgmidlaaDoorTa
import Derived.Test.YtibddlldgmidlaaDoorQb
import Derived.Test.YtibddlldgmidlaaDoorQc
import Derived.Test.YtibddlldgmidlaaDoorMr
import Derived.Test.YtibddlldgmidlaaDoorQd
import Derived.Test.YtibddlldgmidlaaDoorQe
import Derived.Test.YtibddlldgmidlaaDoorQf
import Derived.Test.YtibddlldgmidlaaDoorTs
import Derived.Test.YtibddlldgmidlaaDoorPc
import Derived.Test.YtibddlldgmidlaaDoorQg
import Derived.Test.YtibddlldgmidlaaDoorLd
import Derived.Test.YtibddlldgmidlaaDoorArg
import Derived.Test.YtibddlldgmidlaaDoorAr
import Derived.ProofKit
import Derived.OpenShut
import Derived.ShutString
import Derived.ChangeOld
import Derived.Below
import Derived.Test.YtibddlldgmidlaaDoorCards
import Derived.Test.YtibddlldgmidlaaDoorTie
import Derived.LaidMore
import Derived.Stop.Joined
import Derived.SevenTiedAt
namespace Go.Proofs.YtibddlldgmidlaaDoor.distanceLeast
open Go.ChangeShapes Go.WideShapes Go.ChangeAt Go.RowKit
set_option linter.unusedVariables false

theorem own : ownKnob Tryd.prog.godebug = none := by kernel_rfl
theorem laidOut : laidOutB Tryd.prog = true := by kernel_rfl

/-- The walk. -/
theorem walk (z0 : List Int) (w : World) (w0 : z0.length = 4) (hT : Taps w) :
    Calls Tryd.prog 6 #[.agg (W4 z0)] w fun e w' => e = .returned (.bool true) ∧ Below w.heap.size w w' := by
  exact walkDistanceLeast z0 w w0 hT

set_option maxRecDepth 100000 in
theorem lifted (os : Os) (started : os.Started) (H : Type) (enc : TypeId × Value → H) :
    ReturnsInHanded {} Tryd.checked os 6 .any (fun w args => (Rows.distanceLeastSpec.pre enc Tryd.prog Tryd.f6 [] false w args ∧ laidMetH Tryd.prog Rows.distanceLeastRow.laid w) ∧ sizedMet enc Tryd.prog Tryd.f6 (OpenSpec.ofChange Rows.distanceLeastSpec) false w args)
      (Rows.distanceLeastSpec.post enc Tryd.prog Tryd.f6 false true false false) := by
  refine returnsInHanded_of_change_and (C := Tryd.checked) (X := fun w _ => laidMetH Tryd.prog Rows.distanceLeastRow.laid w) (fun _ _ _ hh h => h.of_heap hh) own started (by kernel_rfl) Tryd.func6
    (ChangeSpec.witness_shaped (enc := enc) (C := Tryd.checked) (os := os) (X := fun w _ => laidMetH Tryd.prog Rows.distanceLeastRow.laid w) false (World.doorLaid Tryd.prog 400 os) #[.agg #[.int .i64 0, .int .i64 0, .int .i64 0, .int .i64 0]] 8 rfl (World.shaped_of_RefB (by kernel_rfl) (by kernel_rfl)) (by kernel_rfl) (by kernel_rfl) (by kernel_rfl) (door_met os _)) ?_
  intro W base args ds gs before hval0 hW _ _ hL _
  have hval : ∀ (j : Nat) t v, Tryd.f6.params[j]? = some t → args[j]? = some v → Value.okWide Tryd.prog W .any base t v := hval0
  have hW' := hW
  obtain ⟨p, q, hA0, hV, rfl, hfz, hnd⟩ := hW
  have hA : DataW.TrodAll enc Tryd.prog W 0 (fun _ => true) true Tryd.f6.params.toList args.toList ds p := hA0
  rw [Tryd.params6] at hA hval
  obtain ⟨v0, vs0, d0, ds0, p0, q0, hargs, rfl, rfl, h0, r0⟩ := trodAll_cons hA
  obtain ⟨rfl, rfl, rfl⟩ := trodAll_nil r0
  obtain rfl : args = #[v0] := by cases args; simp_all
  obtain ⟨rfl, rfl⟩ := trodVars_none hV
  obtain ⟨c0, rfl, s0⟩ := okWide_row Tryd.underlying36 (hval 0 36 v0 rfl rfl)
  have k0 := h0
  have lt0 : ∀ x ∈ p0, x.block < W.heap.size := by obtain ⟨m, hm⟩ := k0; exact DataW.trod_lt m _ _ _ hm
  obtain ⟨z0, w0, e0⟩ : ∃ zs : List Int, zs.length = 4 ∧ c0 = W4 zs := by
    obtain ⟨fuel, hf⟩ := h0
    obtain ⟨zs, h1, h2, _⟩ := cameRow Tryd.underlying36 Tryd.underlying3 (by kernel_rfl) (s0.trans (by kernel_rfl)) hf
    exact ⟨zs, h1, h2⟩
  subst e0
  clear hA0 hval0
  refine (walk z0 W w0 (of_laid hL)).mono fun e W' ⟨he, bel⟩ => ?_
  subst he
  exact ⟨_, rfl, _, _, _, [], _, [], hW', trodAll_mk1 (shut_bool Tryd.underlying4 _), (trodAll_cons_mk (Below.trod laidOut (by kernel_rfl) (of_decide_eq_true (by kernel_rfl)) k0 bel lt0) trodAll_mk0), rfl, bel.frame _, fun h => by cases h⟩

theorem over : Rows.distanceLeastRow.holds Tryd.pinned (OpenSpec.ofChange Rows.distanceLeastSpec) :=
  OpenClaim.holds_of_wide 6 Tryd.f6 rfl rfl rfl rfl rfl rfl rfl ⟨rfl, rfl, rfl, rfl, rfl⟩ rfl rfl rfl rfl rfl (by kernel_rfl) Tryd.func6 (by kernel_rfl)
    (of_decide_eq_true (by kernel_rfl)) (by unfold Func.isWrapper; first | (rw [if_pos (by decide +kernel)]; kernel_rfl) | (rw [if_neg (by decide +kernel)]; exact ⟨rfl, rfl⟩))
    (fun os started H enc _ => lifted os started H enc)
end Go.Proofs.YtibddlldgmidlaaDoor.distanceLeast

namespace Go.Proofs.YtibddlldgmidlaaDoor
/-- THE STATEMENT: the card. -/
theorem distanceLeast_holds : Rows.DistanceLeastCardSaid :=
  Claim7.holds_tied_plain_at .later [] [.data] true (true, "1b8e1e54b5c428e301b27f8fc5eee1263024667c84f7628c25f29f9d004a5944") false
    distanceLeast.over (fun _ h => by cases h) (by kernel_rfl) (fun _ h => by cases h) distanceLeast_row_tie rfl ⟨rfl, rfl⟩ (by kernel_rfl) rfl
    (fun f fn hf hfn => by
      obtain rfl : f = 6 := Option.some.inj ((show Tryd.prog.funcNamed "shuttle/shuttlelaw12.DistanceLeast" = some 6 by kernel_rfl).symm.trans hf) |>.symm
      obtain rfl : fn = Tryd.f6 := (Option.some.inj (Tryd.func6.symm.trans hfn)).symm
      exact ⟨by kernel_rfl, fun j t ht => by
        rw [Tryd.params6] at ht
        have hm : t ∈ [36] := by simpa using Array.mem_of_getElem? ht
        have hall : ([36].all fun u => !Tryd.prog.wantsStandIn u) = true := by kernel_rfl
        exact (show Tryd.prog.wantsStandIn t = false by simpa using List.all_eq_true.1 hall t hm)⟩)
    (by kernel_rfl)
#print axioms distanceLeast_holds
end Go.Proofs.YtibddlldgmidlaaDoor
