/-
  DistanceGrows holds for every input: with more weight the least is never less; with each weight as often as twice it is twice as much. Conditions: the variable conv.taps holds what its initialiser lays.
-/
import Derived.Test.YtibddlldgmidlaaDoorRows
import Derived.WalkKit
import Derived.Test.YtibddlldgmidlaaDoorBm
import Derived.Test.YtibddlldgmidlaaDoorMem
import Derived.Test.YtibddlldgmidlaaDoorPoly
import Derived.Test.YtibddlldgmidlaaDoorBn
import Derived.Test.YtibddlldgmidlaaDoorCm
import Derived.Test.YtibddlldgmidlaaDoorKm
import Derived.Test.YtibddlldgmidlaaDoorVm
import Derived.Test.YtibddlldgmidlaaDoorVn
import Derived.Test.YtibddlldgmidlaaDoorDm
import Derived.Test.YtibddlldgmidlaaDoorDn
import Derived.Test.YtibddlldgmidlaaDoorPa
import Derived.Test.YtibddlldgmidlaaDoorBk
import Derived.Test.YtibddlldgmidlaaDoorTz
import Derived.Test.YtibddlldgmidlaaDoorPb
import Derived.Test.YtibddlldgmidlaaDoorPt
import Derived.Test.YtibddlldgmidlaaDoorQa
import Derived.Test.YtibddlldgmidlaaDoorMw
import Derived.Test.YtibddlldgmidlaaDoorPi
import Derived.Test.YtibddlldgmidlaaDoorIx
import Derived.Test.YtibddlldgmidlaaDoorMc
import Derived.Test.YtibddlldgmidlaaDoorMg
import Derived.Test.YtibddlldgmidlaaDoorMh
import Derived.Test.YtibddlldgmidlaaDoorRr
import Derived.Test.YtibddlldgmidlaaDoorKd
import Derived.Test.YtibddlldgmidlaaDoorKe
import Derived.Test.YtibddlldgmidlaaDoorKa
import Derived.Test.YtibddlldgmidlaaDoorKb
import Derived.Test.YtibddlldgmidlaaDoorKc
import Derived.Test.YtibddlldgmidlaaDoorKf
import Derived.Test.YtibddlldgmidlaaDoorTa
import Derived.Test.YtibddlldgmidlaaDoorQb
import Derived.Test.YtibddlldgmidlaaDoorQc
import Derived.Test.YtibddlldgmidlaaDoorMr
import Derived.Test.YtibddlldgmidlaaDoorQd
import Derived.Test.YtibddlldgmidlaaDoorQe
import Derived.Test.YtibddlldgmidlaaDoorQf
import Derived.Test.YtibddlldgmidlaaDoorTs
import Derived.Test.YtibddlldgmidlaaDoorPc
import Derived.Test.YtibddlldgmidlaaDoorQg
import Derived.Test.YtibddlldgmidlaaDoorQh
import Derived.Test.YtibddlldgmidlaaDoorQi
import Derived.Test.YtibddlldgmidlaaDoorLd
import Derived.Test.YtibddlldgmidlaaDoorArg
import Derived.Test.YtibddlldgmidlaaDoorAr
import Derived.ProofKit
import Derived.OpenShut
import Derived.ShutString
import Derived.ChangeOld
import Derived.Below
import Derived.Test.YtibddlldgmidlaaDoorCards
import Derived.Test.YtibddlldgmidlaaDoorTie
import Derived.LaidMore
import Derived.Stop.Joined
import Derived.SevenTiedAt
namespace Go.Proofs.YtibddlldgmidlaaDoor.distanceGrows
open Go.ChangeShapes Go.WideShapes Go.ChangeAt Go.RowKit
set_option linter.unusedVariables false

theorem own : ownKnob Tryd.prog.godebug = none := by kernel_rfl
theorem laidOut : laidOutB Tryd.prog = true := by kernel_rfl

/-- The walk. -/
theorem walk (z0 : List Int) (a1 : Int) (w : World) (w0 : z0.length = 4) (w1 : (Lit.int .i64 a1).wf = true) (hT : Taps w) :
    Calls Tryd.prog 8 #[.agg (W4 z0), .int .i64 a1] w fun e w' => e = .returned (.bool true) ∧ Below w.heap.size w w' := by
  exact walkDistanceGrows z0 a1 w w0 hT

set_option maxRecDepth 100000 in
theorem lifted (os : Os) (started : os.Started) (H : Type) (enc : TypeId × Value → H) :
    ReturnsInHanded {} Tryd.checked os 8 .any (fun w args => (Rows.distanceGrowsSpec.pre enc Tryd.prog Tryd.f8 [] false w args ∧ laidMetH Tryd.prog Rows.distanceGrowsRow.laid w) ∧ sizedMet enc Tryd.prog Tryd.f8 (OpenSpec.ofChange Rows.distanceGrowsSpec) false w args)
      (Rows.distanceGrowsSpec.post enc Tryd.prog Tryd.f8 false true false false) := by
  refine returnsInHanded_of_change_and (C := Tryd.checked) (X := fun w _ => laidMetH Tryd.prog Rows.distanceGrowsRow.laid w) (fun _ _ _ hh h => h.of_heap hh) own started (by kernel_rfl) Tryd.func8
    (ChangeSpec.witness_shaped (enc := enc) (C := Tryd.checked) (os := os) (X := fun w _ => laidMetH Tryd.prog Rows.distanceGrowsRow.laid w) false (World.doorLaid Tryd.prog 400 os) #[.agg #[.int .i64 0, .int .i64 0, .int .i64 0, .int .i64 0], .int .i64 0] 8 rfl (World.shaped_of_RefB (by kernel_rfl) (by kernel_rfl)) (by kernel_rfl) (by kernel_rfl) (by kernel_rfl) (door_met os _)) ?_
  intro W base args ds gs before hval0 hW _ _ hL _
  have hval : ∀ (j : Nat) t v, Tryd.f8.params[j]? = some t → args[j]? = some v → Value.okWide Tryd.prog W .any base t v := hval0
  have hW' := hW
  obtain ⟨p, q, hA0, hV, rfl, hfz, hnd⟩ := hW
  have hA : DataW.TrodAll enc Tryd.prog W 0 (fun _ => true) true Tryd.f8.params.toList args.toList ds p := hA0
  rw [Tryd.params8] at hA hval
  obtain ⟨v0, vs0, d0, ds0, p0, q0, hargs, rfl, rfl, h0, r0⟩ := trodAll_cons hA
  obtain ⟨v1, vs1, d1, ds1, p1, q1, rfl, rfl, rfl, h1, r1⟩ := trodAll_cons r0
  obtain ⟨rfl, rfl, rfl⟩ := trodAll_nil r1
  obtain rfl : args = #[v0, v1] := by cases args; simp_all
  obtain ⟨rfl, rfl⟩ := trodVars_none hV
  obtain ⟨c0, rfl, s0⟩ := okWide_row Tryd.underlying36 (hval 0 36 v0 rfl rfl)
  have k0 := h0
  have lt0 : ∀ x ∈ p0, x.block < W.heap.size := by obtain ⟨m, hm⟩ := k0; exact DataW.trod_lt m _ _ _ hm
  obtain ⟨z0, w0, e0⟩ : ∃ zs : List Int, zs.length = 4 ∧ c0 = W4 zs := by
    obtain ⟨fuel, hf⟩ := h0
    obtain ⟨zs, h1, h2, _⟩ := cameRow Tryd.underlying36 Tryd.underlying3 (by kernel_rfl) (s0.trans (by kernel_rfl)) hf
    exact ⟨zs, h1, h2⟩
  subst e0
  obtain ⟨a1, rfl, rfl, rfl, w1⟩ := open_int Tryd.underlying3 (hval 1 3 v1 rfl rfl) h1
  clear hA0 hval0
  refine (walk z0 a1 W w0 w1 (of_laid hL)).mono fun e W' ⟨he, bel⟩ => ?_
  subst he
  exact ⟨_, rfl, _, _, _, [], _, [], hW', trodAll_mk1 (shut_bool Tryd.underlying4 _), (trodAll_cons_mk (Below.trod laidOut (by kernel_rfl) (of_decide_eq_true (by kernel_rfl)) k0 bel lt0) (trodAll_cons_mk (shut_int Tryd.underlying3 w1) trodAll_mk0)), rfl, bel.frame _, fun h => by cases h⟩

theorem over : Rows.distanceGrowsRow.holds Tryd.pinned (OpenSpec.ofChange Rows.distanceGrowsSpec) :=
  OpenClaim.holds_of_wide 8 Tryd.f8 rfl rfl rfl rfl rfl rfl rfl ⟨rfl, rfl, rfl, rfl, rfl⟩ rfl rfl rfl rfl rfl (by kernel_rfl) Tryd.func8 (by kernel_rfl)
    (of_decide_eq_true (by kernel_rfl)) (by unfold Func.isWrapper; first | (rw [if_pos (by decide +kernel)]; kernel_rfl) | (rw [if_neg (by decide +kernel)]; exact ⟨rfl, rfl⟩))
    (fun os started H enc _ => lifted os started H enc)
end Go.Proofs.YtibddlldgmidlaaDoor.distanceGrows

namespace Go.Proofs.YtibddlldgmidlaaDoor
/-- THE STATEMENT: the card. -/
theorem distanceGrows_holds : Rows.DistanceGrowsCardSaid :=
  Claim7.holds_tied_plain_at .later [] [.data] true (true, "1b8e1e54b5c428e301b27f8fc5eee1263024667c84f7628c25f29f9d004a5944") false
    distanceGrows.over (fun _ h => by cases h) (by kernel_rfl) (fun _ h => by cases h) distanceGrows_row_tie rfl ⟨rfl, rfl⟩ (by kernel_rfl) rfl
    (fun f fn hf hfn => by
      obtain rfl : f = 8 := Option.some.inj ((show Tryd.prog.funcNamed "shuttle/shuttlelaw12.DistanceGrows" = some 8 by kernel_rfl).symm.trans hf) |>.symm
      obtain rfl : fn = Tryd.f8 := (Option.some.inj (Tryd.func8.symm.trans hfn)).symm
      exact ⟨by kernel_rfl, fun j t ht => by
        rw [Tryd.params8] at ht
        have hm : t ∈ [36, 3] := by simpa using Array.mem_of_getElem? ht
        have hall : ([36, 3].all fun u => !Tryd.prog.wantsStandIn u) = true := by kernel_rfl
        exact (show Tryd.prog.wantsStandIn t = false by simpa using List.all_eq_true.1 hall t hm)⟩)
    (by kernel_rfl)
#print axioms distanceGrows_holds
end Go.Proofs.YtibddlldgmidlaaDoor
