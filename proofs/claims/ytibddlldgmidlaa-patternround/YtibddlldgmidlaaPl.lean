/-
  The walk of PatternRound.
-/
import Derived.Test.YtibddlldgmidlaaPk
import Derived.Deep.DeepCutAuto
namespace Go.Proofs.Ytibddlldgmidlaa
open Go.RowKit
set_option linter.unusedVariables false
set_option linter.unusedSimpArgs false

set_option maxHeartbeats 1000000 in
/-- PatternRound. -/
theorem walkPatternRound (z0 z1 : Int) (w : World) : Calls Try.prog 5 #[.int .i64 z0, .int .i64 z1] w fun e w' => e = .returned (.bool true) ∧ Below w.heap.size w w' := by
  have CS := Lib.hid stands10
  obtain ⟨u, hu, hu2⟩ := wrap_u64 z0
  obtain ⟨s, hs, hs2⟩ : ∃ s : Nat, s < 4 ∧ (u : Int) % 4 = (s : Int) := ⟨u % 4, by omega, by omega⟩
  obtain ⟨x, hx, hx2⟩ := wrap_u64 z1
  obtain ⟨t, ht, ht2⟩ : ∃ t : Nat, t < 1099511627776 ∧ (x : Int) % 1099511627776 = (t : Int) := ⟨x % 1099511627776, by omega, by omega⟩
  have CV : ∀ i : Nat, i ≤ 4 → ∀ W, Calls Try.prog 9 #[.int .i64 (s : Int), .int .i64 ((t : Int) + (i : Int))] W fun e w' => e = .returned (.tuple #[.int .i64 ((Cv.vr s (t + i) : Nat) : Int), .int .i64 0]) ∧ W = w' := fun i hi W => by
    have := patVersion s (t + i) W hs (by omega)
    rw [show (((t + i : Nat)) : Int) = (t : Int) + (i : Int) by omega] at this
    exact this
  have CT : ∀ i : Nat, i ≤ 4 → ∀ W, Calls Try.prog 8 #[.int .i64 ((Cv.vr s (t + i) : Nat) : Int), .int .i64 ((t : Int) + (i : Int))] W fun e w' => e = .returned (.tuple #[.int .i64 (s : Int), .int .i64 0]) ∧ W = w' := fun i hi W => by
    have := patStream (Cv.vr s (t + i)) (t + i) W (Cv.vr_lt _ _) (by omega)
    rw [show (((t + i : Nat)) : Int) = (t : Int) + (i : Int) by omega, Cv.st_vr s (t + i) hs] at this
    exact this
  have h0 := Cv.vr_lt s t
  have r1 : Cv.vr s (t + 1) = (Cv.vr s t + 3) % 4 := by unfold Cv.vr; omega
  have r2 : Cv.vr s (t + 2) = (Cv.vr s t + 2) % 4 := by unfold Cv.vr; omega
  have r3 : Cv.vr s (t + 3) = (Cv.vr s t + 1) % 4 := by unfold Cv.vr; omega
  have r4 : Cv.vr s (t + 4) = Cv.vr s t := by unfold Cv.vr; omega
  have V0 := Lib.hid (CV 0 (by omega))
  have V1 := Lib.hid (CV 1 (by omega))
  have V2 := Lib.hid (CV 2 (by omega))
  have V3 := Lib.hid (CV 3 (by omega))
  have V4 := Lib.hid (CV 4 (by omega))
  have T0 := Lib.hid (CT 0 (by omega))
  have T1 := Lib.hid (CT 1 (by omega))
  have T2 := Lib.hid (CT 2 (by omega))
  have T3 := Lib.hid (CT 3 (by omega))
  rw [Nat.add_zero] at V0 T0
  rw [r1] at V1 T1
  rw [r2] at V2 T2
  rw [r3] at V3 T3
  rw [r4] at V4
  rw [show ((0 : Nat) : Int) = 0 from rfl, Int.add_zero] at V0 T0
  rw [show ((1 : Nat) : Int) = 1 from rfl] at V1 T1
  rw [show ((2 : Nat) : Int) = 2 from rfl] at V2 T2
  rw [show ((3 : Nat) : Int) = 3 from rfl] at V3 T3
  rw [show ((4 : Nat) : Int) = 4 from rfl] at V4
  clear CV CT r1 r2 r3 r4
  generalize Cv.vr s t = v at *
  have hv : v = 0 ∨ v = 1 ∨ v = 2 ∨ v = 3 := by omega
  rcases hv with rfl | rfl | rfl | rfl
  all_goals
    simp only [Nat.reduceAdd, Nat.reduceMod, Int.cast_ofNat_Int] at V0 V1 V2 V3 V4 T0 T1 T2 T3
    go_enter Try.func5, Try.ntmps5
    go_upto_region 4 with (go_at_call 9; refine (V0.out _).mono ?_; rintro e w' ⟨rfl, rfl⟩)
    go_wp2_with (go_at_call 9; refine (V4.out _).mono ?_; rintro e w' ⟨rfl, rfl⟩)
    refine wp_loop_rounds 5 ?_
    rw [rounds_succ]
    go_wp2_with (first | (go_at_call 9; refine (V0.out _).mono ?_; rintro e w' ⟨rfl, rfl⟩) | (go_at_call 8; refine (T0.out _).mono ?_; rintro e w' ⟨rfl, rfl⟩))
    rw [rounds_succ]
    go_wp2_with (first | (go_at_call 9; refine (V1.out _).mono ?_; rintro e w' ⟨rfl, rfl⟩) | (go_at_call 8; refine (T1.out _).mono ?_; rintro e w' ⟨rfl, rfl⟩))
    rw [rounds_succ]
    go_wp2_with (first | (go_at_call 9; refine (V2.out _).mono ?_; rintro e w' ⟨rfl, rfl⟩) | (go_at_call 8; refine (T2.out _).mono ?_; rintro e w' ⟨rfl, rfl⟩))
    rw [rounds_succ]
    go_wp2_with (first | (go_at_call 9; refine (V3.out _).mono ?_; rintro e w' ⟨rfl, rfl⟩) | (go_at_call 8; refine (T3.out _).mono ?_; rintro e w' ⟨rfl, rfl⟩))
    rw [rounds_succ]
    go_wp2_with (go_at_call 11; refine (CS.out _).mono ?_; rintro e w' ⟨rfl, hb⟩)
    go_ret
    exact ⟨rfl, Below.then_ ((Below.refl _ _).alloc (Nat.le_refl _) _) hb⟩
end Go.Proofs.Ytibddlldgmidlaa
