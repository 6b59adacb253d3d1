/-
  ShuttleMends holds for every input: through the layers 1 to 13, of versions that came, each as often as it did (eight at most), with no more bits turned than Mends of these counts says (one in each part at most), Decode tells the list wherever Least is above 0. Conditions: the variable conv.taps holds what its initialiser lays.
-/
import Derived.Test.YtibddlldgmidlabDoorRows
import Derived.WalkKit
import Derived.Test.YtibddlldgmidlabDoorBm
import Derived.Test.YtibddlldgmidlabDoorMem
import Derived.Test.YtibddlldgmidlabDoorBk
import Derived.Test.YtibddlldgmidlabDoorPoly
import Derived.Test.YtibddlldgmidlabDoorBn
import Derived.Test.YtibddlldgmidlabDoorCm
import Derived.Test.YtibddlldgmidlabDoorKm
import Derived.Test.YtibddlldgmidlabDoorRr
import Derived.Test.YtibddlldgmidlabDoorKd
import Derived.Test.YtibddlldgmidlabDoorMw
import Derived.Test.YtibddlldgmidlabDoorKe
import Derived.Test.YtibddlldgmidlabDoorKa
import Derived.Test.YtibddlldgmidlabDoorKb
import Derived.Test.YtibddlldgmidlabDoorKc
import Derived.Test.YtibddlldgmidlabDoorKf
import Derived.Test.YtibddlldgmidlabDoorTz
import Derived.Test.YtibddlldgmidlabDoorTa
import Derived.Test.YtibddlldgmidlabDoorMc
import Derived.Test.YtibddlldgmidlabDoorMg
import Derived.Test.YtibddlldgmidlabDoorMh
import Derived.Test.YtibddlldgmidlabDoorVa
import Derived.Test.YtibddlldgmidlabDoorVm
import Derived.Test.YtibddlldgmidlabDoorVn
import Derived.Test.YtibddlldgmidlabDoorSm
import Derived.Test.YtibddlldgmidlabDoorSa
import Derived.Test.YtibddlldgmidlabDoorSb
import Derived.Test.YtibddlldgmidlabDoorVb
import Derived.Test.YtibddlldgmidlabDoorVc
import Derived.Test.YtibddlldgmidlabDoorVd
import Derived.Test.YtibddlldgmidlabDoorVe
import Derived.Test.YtibddlldgmidlabDoorVf
import Derived.Test.YtibddlldgmidlabDoorVg
import Derived.Test.YtibddlldgmidlabDoorVh
import Derived.Test.YtibddlldgmidlabDoorSc
import Derived.Test.YtibddlldgmidlabDoorVi
import Derived.Test.YtibddlldgmidlabDoorDm
import Derived.Test.YtibddlldgmidlabDoorDn
import Derived.Test.YtibddlldgmidlabDoorPa
import Derived.Test.YtibddlldgmidlabDoorPb
import Derived.Test.YtibddlldgmidlabDoorPi
import Derived.Test.YtibddlldgmidlabDoorNa
import Derived.Test.YtibddlldgmidlabDoorRt
import Derived.Test.YtibddlldgmidlabDoorRc
import Derived.Test.YtibddlldgmidlabDoorArg
import Derived.Test.YtibddlldgmidlabDoorUz
import Derived.Test.YtibddlldgmidlabDoorRs
import Derived.Test.YtibddlldgmidlabDoorNb
import Derived.Test.YtibddlldgmidlabDoorPt
import Derived.Test.YtibddlldgmidlabDoorQz
import Derived.Test.YtibddlldgmidlabDoorUh
import Derived.Test.YtibddlldgmidlabDoorUi
import Derived.Test.YtibddlldgmidlabDoorLd
import Derived.ProofKit
import Derived.OpenShut
import Derived.ShutString
import Derived.ChangeOld
import Derived.Below
import Derived.Test.YtibddlldgmidlabDoorCards
import Derived.Test.YtibddlldgmidlabDoorTie
import Derived.LaidMore
import Derived.Stop.Joined
import Derived.SevenTiedAt
namespace Go.Proofs.YtibddlldgmidlabDoor.shuttleMends
open Go.ChangeShapes Go.WideShapes Go.ChangeAt Go.RowKit
set_option linter.unusedVariables false

theorem own : ownKnob Tryd.prog.godebug = none := by kernel_rfl
theorem laidOut : laidOutB Tryd.prog = true := by kernel_rfl

/-- The walk. -/
theorem walk (a0 : Option Addr) (len0 cap0 : Nat) (z0 : List Int) (a1 : Option Addr) (len1 cap1 : Nat) (z1 : List Int) (a2 : Option Addr) (len2 cap2 : Nat) (z2 : List Int) (w : World) (w0 : Came .u8 w a0 len0 cap0 z0) (w1 : Came .u8 w a1 len1 cap1 z1) (w2 : Came .i64 w a2 len2 cap2 z2) (hT : Taps w) :
    Calls Tryd.prog 7 #[.slice a0 len0 cap0, .slice a1 len1 cap1, .slice a2 len2 cap2] w fun e w' => e = .returned (.bool true) ∧ Below w.heap.size w w' := by
  obtain ⟨xs, r1, b1, l1, m1, hnone⟩ := came8 (w := w) w0
  obtain ⟨ys, r2, b2, l2, m2, hnone2⟩ := came8 (w := w) w1
  obtain ⟨zs, r3, b3, l3, m3, hnone3⟩ := came64 (w := w) w2
  exact walkShuttleMends a0 len0 cap0 xs a1 len1 cap1 ys a2 len2 cap2 zs w r1 b1 l1 m1 hnone r2 b2 (Nat.le_trans l2 m2) r3 l3 m3 hT

set_option maxRecDepth 100000 in
theorem lifted (os : Os) (started : os.Started) (H : Type) (enc : TypeId × Value → H) :
    ReturnsInHanded {} Tryd.checked os 7 .any (fun w args => (Rows.shuttleMendsSpec.pre enc Tryd.prog Tryd.f7 [] false w args ∧ laidMetH Tryd.prog Rows.shuttleMendsRow.laid w) ∧ sizedMet enc Tryd.prog Tryd.f7 (OpenSpec.ofChange Rows.shuttleMendsSpec) false w args)
      (Rows.shuttleMendsSpec.post enc Tryd.prog Tryd.f7 false true false false) := by
  refine returnsInHanded_of_change_and (C := Tryd.checked) (X := fun w _ => laidMetH Tryd.prog Rows.shuttleMendsRow.laid w) (fun _ _ _ hh h => h.of_heap hh) own started (by kernel_rfl) Tryd.func7
    (ChangeSpec.witness_shaped (enc := enc) (C := Tryd.checked) (os := os) (X := fun w _ => laidMetH Tryd.prog Rows.shuttleMendsRow.laid w) false (World.doorLaid Tryd.prog 400 os) #[.slice none 0 0, .slice none 0 0, .slice none 0 0] 8 rfl (World.shaped_of_RefB (by kernel_rfl) (by kernel_rfl)) (by kernel_rfl) (by kernel_rfl) (by kernel_rfl) (door_met os _)) ?_
  intro W base args ds gs before hval0 hW _ _ hL _
  have hval : ∀ (j : Nat) t v, Tryd.f7.params[j]? = some t → args[j]? = some v → Value.okWide Tryd.prog W .any base t v := hval0
  have hW' := hW
  obtain ⟨p, q, hA0, hV, rfl, hfz, hnd⟩ := hW
  have hA : DataW.TrodAll enc Tryd.prog W 0 (fun _ => true) true Tryd.f7.params.toList args.toList ds p := hA0
  rw [Tryd.params7] at hA hval
  obtain ⟨v0, vs0, d0, ds0, p0, q0, hargs, rfl, rfl, h0, r0⟩ := trodAll_cons hA
  obtain ⟨v1, vs1, d1, ds1, p1, q1, rfl, rfl, rfl, h1, r1⟩ := trodAll_cons r0
  obtain ⟨v2, vs2, d2, ds2, p2, q2, rfl, rfl, rfl, h2, r2⟩ := trodAll_cons r1
  obtain ⟨rfl, rfl, rfl⟩ := trodAll_nil r2
  obtain rfl : args = #[v0, v1, v2] := by cases args; simp_all
  obtain ⟨rfl, rfl⟩ := trodVars_none hV
  obtain ⟨a0, len0, cap0, rfl⟩ := okWide_slice Tryd.underlying22 (hval 0 22 v0 rfl rfl)
  have k0 := h0
  have lt0 : ∀ x ∈ p0, x.block < W.heap.size := by obtain ⟨m, hm⟩ := k0; exact DataW.trod_lt m _ _ _ hm
  obtain ⟨z0, w0⟩ : ∃ zs, Came .u8 W a0 len0 cap0 zs := by
    obtain ⟨fuel, hf⟩ := h0
    rcases open_ints Tryd.underlying22 Tryd.underlying5 (by kernel_rfl) hf with ⟨hcs, _⟩ | ⟨x, l, c, zs, hcs, _, hl, hm, hz, _, hcell, hwz⟩
    · simp [Value.cells] at hcs
      obtain ⟨rfl, rfl, rfl⟩ := hcs
      exact ⟨[], .inl ⟨rfl, rfl, rfl, rfl⟩⟩
    · simp [Value.cells] at hcs
      obtain ⟨rfl, rfl, rfl⟩ := hcs
      exact ⟨zs, .inr ⟨_, rfl, hl, hm, by simpa using hz, hcell, hwz⟩⟩
  obtain ⟨a1, len1, cap1, rfl⟩ := okWide_slice Tryd.underlying22 (hval 1 22 v1 rfl rfl)
  have k1 := h1
  have lt1 : ∀ x ∈ p1, x.block < W.heap.size := by obtain ⟨m, hm⟩ := k1; exact DataW.trod_lt m _ _ _ hm
  obtain ⟨z1, w1⟩ : ∃ zs, Came .u8 W a1 len1 cap1 zs := by
    obtain ⟨fuel, hf⟩ := h1
    rcases open_ints Tryd.underlying22 Tryd.underlying5 (by kernel_rfl) hf with ⟨hcs, _⟩ | ⟨x, l, c, zs, hcs, _, hl, hm, hz, _, hcell, hwz⟩
    · simp [Value.cells] at hcs
      obtain ⟨rfl, rfl, rfl⟩ := hcs
      exact ⟨[], .inl ⟨rfl, rfl, rfl, rfl⟩⟩
    · simp [Value.cells] at hcs
      obtain ⟨rfl, rfl, rfl⟩ := hcs
      exact ⟨zs, .inr ⟨_, rfl, hl, hm, by simpa using hz, hcell, hwz⟩⟩
  obtain ⟨a2, len2, cap2, rfl⟩ := okWide_slice Tryd.underlying31 (hval 2 31 v2 rfl rfl)
  have k2 := h2
  have lt2 : ∀ x ∈ p2, x.block < W.heap.size := by obtain ⟨m, hm⟩ := k2; exact DataW.trod_lt m _ _ _ hm
  obtain ⟨z2, w2⟩ : ∃ zs, Came .i64 W a2 len2 cap2 zs := by
    obtain ⟨fuel, hf⟩ := h2
    rcases open_ints Tryd.underlying31 Tryd.underlying3 (by kernel_rfl) hf with ⟨hcs, _⟩ | ⟨x, l, c, zs, hcs, _, hl, hm, hz, _, hcell, hwz⟩
    · simp [Value.cells] at hcs
      obtain ⟨rfl, rfl, rfl⟩ := hcs
      exact ⟨[], .inl ⟨rfl, rfl, rfl, rfl⟩⟩
    · simp [Value.cells] at hcs
      obtain ⟨rfl, rfl, rfl⟩ := hcs
      exact ⟨zs, .inr ⟨_, rfl, hl, hm, by simpa using hz, hcell, hwz⟩⟩
  clear hA0 hval0
  refine (walk a0 len0 cap0 z0 a1 len1 cap1 z1 a2 len2 cap2 z2 W w0 w1 w2 (of_laid hL)).mono fun e W' ⟨he, bel⟩ => ?_
  subst he
  exact ⟨_, rfl, _, _, _, [], _, [], hW', trodAll_mk1 (shut_bool Tryd.underlying4 _), (trodAll_cons_mk (Below.trod laidOut (by kernel_rfl) (of_decide_eq_true (by kernel_rfl)) k0 bel lt0) (trodAll_cons_mk (Below.trod laidOut (by kernel_rfl) (of_decide_eq_true (by kernel_rfl)) k1 bel lt1) (trodAll_cons_mk (Below.trod laidOut (by kernel_rfl) (of_decide_eq_true (by kernel_rfl)) k2 bel lt2) trodAll_mk0))), rfl, bel.frame _, fun h => by cases h⟩

theorem over : Rows.shuttleMendsRow.holds Tryd.pinned (OpenSpec.ofChange Rows.shuttleMendsSpec) :=
  OpenClaim.holds_of_wide 7 Tryd.f7 rfl rfl rfl rfl rfl rfl rfl ⟨rfl, rfl, rfl, rfl, rfl⟩ rfl rfl rfl rfl rfl (by kernel_rfl) Tryd.func7 (by kernel_rfl)
    (of_decide_eq_true (by kernel_rfl)) (by unfold Func.isWrapper; first | (rw [if_pos (by decide +kernel)]; kernel_rfl) | (rw [if_neg (by decide +kernel)]; exact ⟨rfl, rfl⟩))
    (fun os started H enc _ => lifted os started H enc)
end Go.Proofs.YtibddlldgmidlabDoor.shuttleMends

namespace Go.Proofs.YtibddlldgmidlabDoor
/-- THE STATEMENT: the card. -/
theorem shuttleMends_holds : Rows.ShuttleMendsCardSaid :=
  Claim7.holds_tied_plain_at .later [] [.data] true (true, "f87c79d0659c632a1dc0e2fad01183390dff09b838086def37f879422343d85f") false
    shuttleMends.over (fun _ h => by cases h) (by kernel_rfl) (fun _ h => by cases h) shuttleMends_row_tie rfl ⟨rfl, rfl⟩ (by kernel_rfl) rfl
    (fun f fn hf hfn => by
      obtain rfl : f = 7 := Option.some.inj ((show Tryd.prog.funcNamed "shuttle/shuttletop.ShuttleMends" = some 7 by kernel_rfl).symm.trans hf) |>.symm
      obtain rfl : fn = Tryd.f7 := (Option.some.inj (Tryd.func7.symm.trans hfn)).symm
      exact ⟨by kernel_rfl, fun j t ht => by
        rw [Tryd.params7] at ht
        have hm : t ∈ [22, 22, 31] := by simpa using Array.mem_of_getElem? ht
        have hall : ([22, 22, 31].all fun u => !Tryd.prog.wantsStandIn u) = true := by kernel_rfl
        exact (show Tryd.prog.wantsStandIn t = false by simpa using List.all_eq_true.1 hall t hm)⟩)
    (by kernel_rfl)
#print axioms shuttleMends_holds
end Go.Proofs.YtibddlldgmidlabDoor
