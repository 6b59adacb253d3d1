/-
  Layer 10: the statements' first test; the walks of PatternTells and PatternRound.
-/
import Derived.Test.YtibddlldgmidlaaPj
namespace Go.Proofs.Ytibddlldgmidlaa
open Go.RowKit
set_option linter.unusedVariables false
set_option linter.unusedSimpArgs false

theorem i64_and1 (n : Int) : bits .and .i64 n 1 = n % 2 := by
  have h1 : (BitVec.ofInt 64 1).toNat = 2 ^ 1 - 1 := by decide
  have key : (BitVec.ofInt 64 n &&& BitVec.ofInt 64 1).toNat = (n % ((2 ^ 64 : Nat) : Int)).toNat % 2 ^ 1 := by
    rw [BitVec.toNat_and, BitVec.toNat_ofInt, h1, Nat.and_two_pow_sub_one_eq_mod]
  show IntKind.i64.wrap ((BitVec.ofInt 64 n &&& BitVec.ofInt 64 1).toNat : Nat) = n % 2
  rw [key, IntKind.wrap_i64]
  omega
set_option maxHeartbeats 400000 in
/-- The statements' first test. -/
theorem stands10 (w : World) : Calls Try.prog 11 #[] w fun e w' => e = .returned (.bool true) ∧ Below w.heap.size w w' := by
  have C1 : Hid (Calls Try.prog 14 #[.int .i64 0, .int .i64 3] w (PlacesOk w 0 3)) := patPlaces 0 3 w (by omega) (by omega)
  have C2 : Hid (∀ W, Calls Try.prog 8 #[.int .i64 1, .int .i64 3] W fun e w' => e = .returned (.tuple #[.int .i64 0, .int .i64 0]) ∧ W = w') := fun W => patStream 1 3 W (by omega) (by omega)
  have p1 : (plc 0 3).getD 1 0 = 5 := by decide
  have p2 : (plc 0 3).getD 2 0 = 10 := by decide
  go_enter Try.func11, Try.ntmps11
  go_wp2_with fail
  refine C1.out.mono ?_
  rintro e w1 ⟨A, c, rfl, hown, hb⟩
  obtain ⟨b, off, rfl, hlt, k1⟩ := hown.rd.cell64 1 (by omega)
  obtain ⟨b', off', he, hlt', k2⟩ := hown.rd.cell64 2 (by omega)
  injection he with he
  injection he with he1 he2
  subst he1 he2
  rw [p1] at k1
  rw [p2] at k2
  go_wp2_with (go_at_call 8; refine (C2.out _).mono ?_; rintro e w' ⟨rfl, rfl⟩)
  go_ret
  exact ⟨rfl, hb⟩

/-- What pattern.Stream and pattern.Version give of whatever. -/
theorem tellsEither (v t : Int) (h63 : t ≤ 9223372036854775807) : ((v < 0 ∨ 3 < v ∨ t < 0) ∧ ∀ W, (Calls Try.prog 8 #[.int .i64 v, .int .i64 t] W fun e w' => e = .returned (.tuple #[.int .i64 0, .int .i64 1]) ∧ W = w') ∧ (Calls Try.prog 9 #[.int .i64 v, .int .i64 t] W fun e w' => e = .returned (.tuple #[.int .i64 0, .int .i64 1]) ∧ W = w')) ∨
    ((0 ≤ v ∧ v ≤ 3 ∧ 0 ≤ t) ∧ ∃ s r : Nat, ∀ W, (Calls Try.prog 8 #[.int .i64 v, .int .i64 t] W fun e w' => e = .returned (.tuple #[.int .i64 (s : Int), .int .i64 0]) ∧ W = w') ∧ (Calls Try.prog 9 #[.int .i64 v, .int .i64 t] W fun e w' => e = .returned (.tuple #[.int .i64 (r : Int), .int .i64 0]) ∧ W = w') ∧
      (Calls Try.prog 12 #[.int .i64 v, .int .i64 t] W fun e w' => e = .returned (.int .i64 (s : Int)) ∧ W = w') ∧ (Calls Try.prog 13 #[.int .i64 v, .int .i64 t] W fun e w' => e = .returned (.int .i64 (r : Int)) ∧ W = w')) := by
  by_cases h : v < 0 ∨ 3 < v ∨ t < 0
  · exact .inl ⟨h, fun W => ⟨patStreamNo v t W h, patVersionNo v t W h⟩⟩
  · obtain ⟨a, ha⟩ : ∃ a : Nat, v = (a : Int) := ⟨v.toNat, by omega⟩
    obtain ⟨b, hb⟩ : ∃ b : Nat, t = (b : Int) := ⟨t.toNat, by omega⟩
    subst ha hb
    exact .inr ⟨by omega, Cv.st a b, Cv.vr a b, fun W => ⟨patStream a b W (by omega) (by omega), patVersion a b W (by omega) (by omega), refStream a b W (by omega) (by omega), refVersion a b W (by omega) (by omega)⟩⟩
/-- What pattern.Rate gives of whatever. -/
theorem rateEither (z : Int) : ((z < 0 ∨ 15 < z) ∧ ∀ W, Calls Try.prog 10 #[.int .i64 z] W fun e w' => e = .returned (.tuple #[.int .i64 0, .int .i64 1]) ∧ W = w') ∨
    ((0 ≤ z ∧ z ≤ 15) ∧ ∀ W, Calls Try.prog 10 #[.int .i64 z] W fun e w' => e = .returned (.tuple #[.int .i64 (z % 2 + z / 2 % 2 + z / 4 % 2 + z / 8 % 2), .int .i64 0]) ∧ W = w') := by
  by_cases h : z < 0 ∨ 15 < z
  · exact .inl ⟨h, fun W => patRateNo z W h⟩
  · obtain ⟨a, ha⟩ : ∃ a : Nat, z = (a : Int) := ⟨z.toNat, by omega⟩
    subst ha
    refine .inr ⟨by omega, fun W => ?_⟩
    have := patRate a W (by omega)
    rw [show ((pc4 a : Nat) : Int) = (a : Int) % 2 + (a : Int) / 2 % 2 + (a : Int) / 4 % 2 + (a : Int) / 8 % 2 by unfold pc4; omega] at this
    exact this
set_option maxHeartbeats 1000000 in
/-- PatternTells. -/
theorem walkPatternTells (v t z : Int) (w : World) (h63 : t ≤ 9223372036854775807) : Calls Try.prog 3 #[.int .i64 v, .int .i64 t, .int .i64 z] w fun e w' => e = .returned (.bool true) ∧ Below w.heap.size w w' := by
  have CS := Lib.hid stands10
  have a0 := i64_and1 z
  have a1 := i64_and1 (z / 2)
  have a2 := i64_and1 (z / 4)
  have a3 := i64_and1 (z / 8)
  obtain ⟨y0, hy0⟩ : ∃ y : Nat, z % 2 = (y : Int) := ⟨(z % 2).toNat, by omega⟩
  obtain ⟨y1, hy1⟩ : ∃ y : Nat, z / 2 % 2 = (y : Int) := ⟨(z / 2 % 2).toNat, by omega⟩
  obtain ⟨y2, hy2⟩ : ∃ y : Nat, z / 4 % 2 = (y : Int) := ⟨(z / 4 % 2).toNat, by omega⟩
  obtain ⟨y3, hy3⟩ : ∃ y : Nat, z / 8 % 2 = (y : Int) := ⟨(z / 8 % 2).toNat, by omega⟩
  have b0 : y0 ≤ 1 := by omega
  have b1 : y1 ≤ 1 := by omega
  have b2 : y2 ≤ 1 := by omega
  have b3 : y3 ≤ 1 := by omega
  have RE := rateEither z
  rw [hy0, hy1, hy2, hy3] at RE
  rw [hy0] at a0
  rw [hy1] at a1
  rw [hy2] at a2
  rw [hy3] at a3
  clear hy0 hy1 hy2 hy3
  rcases RE with ⟨hz, C3⟩ | ⟨hz, C3⟩ <;> rcases tellsEither v t h63 with ⟨hv, C12⟩ | ⟨hv, s, r, C12⟩
  all_goals
    have C3 := Lib.hid C3
    have C12 := Lib.hid C12
  · rcases hz with hz | hz
    · rcases hv with hv | hv
      · go_enter Try.func3, Try.ntmps3
        go_wp2_with (first | (go_at_call 8; refine (C12.out _).1.mono ?_; rintro e w' ⟨rfl, rfl⟩) | (go_at_call 9; refine (C12.out _).2.mono ?_; rintro e w' ⟨rfl, rfl⟩) | (go_at_call 10; refine (C3.out _).mono ?_; rintro e w' ⟨rfl, rfl⟩) | (go_at_call 11; refine (CS.out _).mono ?_; rintro e w' ⟨rfl, hb⟩))
        refine wp_loop_rounds 5 ?_
        rw [rounds_succ]
        go_wp2
        rw [rounds_succ]
        go_wp2
        rw [rounds_succ]
        go_wp2
        rw [rounds_succ]
        go_wp2
        rw [rounds_succ]
        go_wp2
        go_ret
        exact ⟨rfl, hb⟩
      · by_cases hv0 : v < 0
        · go_enter Try.func3, Try.ntmps3
          go_wp2_with (first | (go_at_call 8; refine (C12.out _).1.mono ?_; rintro e w' ⟨rfl, rfl⟩) | (go_at_call 9; refine (C12.out _).2.mono ?_; rintro e w' ⟨rfl, rfl⟩) | (go_at_call 10; refine (C3.out _).mono ?_; rintro e w' ⟨rfl, rfl⟩) | (go_at_call 11; refine (CS.out _).mono ?_; rintro e w' ⟨rfl, hb⟩))
          refine wp_loop_rounds 5 ?_
          rw [rounds_succ]
          go_wp2
          rw [rounds_succ]
          go_wp2
          rw [rounds_succ]
          go_wp2
          rw [rounds_succ]
          go_wp2
          rw [rounds_succ]
          go_wp2
          go_ret
          exact ⟨rfl, hb⟩
        · rcases hv with hv | hv
          · go_enter Try.func3, Try.ntmps3
            go_wp2_with (first | (go_at_call 8; refine (C12.out _).1.mono ?_; rintro e w' ⟨rfl, rfl⟩) | (go_at_call 9; refine (C12.out _).2.mono ?_; rintro e w' ⟨rfl, rfl⟩) | (go_at_call 10; refine (C3.out _).mono ?_; rintro e w' ⟨rfl, rfl⟩) | (go_at_call 11; refine (CS.out _).mono ?_; rintro e w' ⟨rfl, hb⟩))
            refine wp_loop_rounds 5 ?_
            rw [rounds_succ]
            go_wp2
            rw [rounds_succ]
            go_wp2
            rw [rounds_succ]
            go_wp2
            rw [rounds_succ]
            go_wp2
            rw [rounds_succ]
            go_wp2
            go_ret
            exact ⟨rfl, hb⟩
          · by_cases hv3 : 3 < v
            · go_enter Try.func3, Try.ntmps3
              go_wp2_with (first | (go_at_call 8; refine (C12.out _).1.mono ?_; rintro e w' ⟨rfl, rfl⟩) | (go_at_call 9; refine (C12.out _).2.mono ?_; rintro e w' ⟨rfl, rfl⟩) | (go_at_call 10; refine (C3.out _).mono ?_; rintro e w' ⟨rfl, rfl⟩) | (go_at_call 11; refine (CS.out _).mono ?_; rintro e w' ⟨rfl, hb⟩))
              refine wp_loop_rounds 5 ?_
              rw [rounds_succ]
              go_wp2
              rw [rounds_succ]
              go_wp2
              rw [rounds_succ]
              go_wp2
              rw [rounds_succ]
              go_wp2
              rw [rounds_succ]
              go_wp2
              go_ret
              exact ⟨rfl, hb⟩
            · go_enter Try.func3, Try.ntmps3
              go_wp2_with (first | (go_at_call 8; refine (C12.out _).1.mono ?_; rintro e w' ⟨rfl, rfl⟩) | (go_at_call 9; refine (C12.out _).2.mono ?_; rintro e w' ⟨rfl, rfl⟩) | (go_at_call 10; refine (C3.out _).mono ?_; rintro e w' ⟨rfl, rfl⟩) | (go_at_call 11; refine (CS.out _).mono ?_; rintro e w' ⟨rfl, hb⟩))
              refine wp_loop_rounds 5 ?_
              rw [rounds_succ]
              go_wp2
              rw [rounds_succ]
              go_wp2
              rw [rounds_succ]
              go_wp2
              rw [rounds_succ]
              go_wp2
              rw [rounds_succ]
              go_wp2
              go_ret
              exact ⟨rfl, hb⟩
    · have hz0 : ¬ z < 0 := by omega
      rcases hv with hv | hv
      · go_enter Try.func3, Try.ntmps3
        go_wp2_with (first | (go_at_call 8; refine (C12.out _).1.mono ?_; rintro e w' ⟨rfl, rfl⟩) | (go_at_call 9; refine (C12.out _).2.mono ?_; rintro e w' ⟨rfl, rfl⟩) | (go_at_call 10; refine (C3.out _).mono ?_; rintro e w' ⟨rfl, rfl⟩) | (go_at_call 11; refine (CS.out _).mono ?_; rintro e w' ⟨rfl, hb⟩))
        refine wp_loop_rounds 5 ?_
        rw [rounds_succ]
        go_wp2
        rw [rounds_succ]
        go_wp2
        rw [rounds_succ]
        go_wp2
        rw [rounds_succ]
        go_wp2
        rw [rounds_succ]
        go_wp2
        go_ret
        exact ⟨rfl, hb⟩
      · by_cases hv0 : v < 0
        · go_enter Try.func3, Try.ntmps3
          go_wp2_with (first | (go_at_call 8; refine (C12.out _).1.mono ?_; rintro e w' ⟨rfl, rfl⟩) | (go_at_call 9; refine (C12.out _).2.mono ?_; rintro e w' ⟨rfl, rfl⟩) | (go_at_call 10; refine (C3.out _).mono ?_; rintro e w' ⟨rfl, rfl⟩) | (go_at_call 11; refine (CS.out _).mono ?_; rintro e w' ⟨rfl, hb⟩))
          refine wp_loop_rounds 5 ?_
          rw [rounds_succ]
          go_wp2
          rw [rounds_succ]
          go_wp2
          rw [rounds_succ]
          go_wp2
          rw [rounds_succ]
          go_wp2
          rw [rounds_succ]
          go_wp2
          go_ret
          exact ⟨rfl, hb⟩
        · rcases hv with hv | hv
          · go_enter Try.func3, Try.ntmps3
            go_wp2_with (first | (go_at_call 8; refine (C12.out _).1.mono ?_; rintro e w' ⟨rfl, rfl⟩) | (go_at_call 9; refine (C12.out _).2.mono ?_; rintro e w' ⟨rfl, rfl⟩) | (go_at_call 10; refine (C3.out _).mono ?_; rintro e w' ⟨rfl, rfl⟩) | (go_at_call 11; refine (CS.out _).mono ?_; rintro e w' ⟨rfl, hb⟩))
            refine wp_loop_rounds 5 ?_
            rw [rounds_succ]
            go_wp2
            rw [rounds_succ]
            go_wp2
            rw [rounds_succ]
            go_wp2
            rw [rounds_succ]
            go_wp2
            rw [rounds_succ]
            go_wp2
            go_ret
            exact ⟨rfl, hb⟩
          · by_cases hv3 : 3 < v
            · go_enter Try.func3, Try.ntmps3
              go_wp2_with (first | (go_at_call 8; refine (C12.out _).1.mono ?_; rintro e w' ⟨rfl, rfl⟩) | (go_at_call 9; refine (C12.out _).2.mono ?_; rintro e w' ⟨rfl, rfl⟩) | (go_at_call 10; refine (C3.out _).mono ?_; rintro e w' ⟨rfl, rfl⟩) | (go_at_call 11; refine (CS.out _).mono ?_; rintro e w' ⟨rfl, hb⟩))
              refine wp_loop_rounds 5 ?_
              rw [rounds_succ]
              go_wp2
              rw [rounds_succ]
              go_wp2
              rw [rounds_succ]
              go_wp2
              rw [rounds_succ]
              go_wp2
              rw [rounds_succ]
              go_wp2
              go_ret
              exact ⟨rfl, hb⟩
            · go_enter Try.func3, Try.ntmps3
              go_wp2_with (first | (go_at_call 8; refine (C12.out _).1.mono ?_; rintro e w' ⟨rfl, rfl⟩) | (go_at_call 9; refine (C12.out _).2.mono ?_; rintro e w' ⟨rfl, rfl⟩) | (go_at_call 10; refine (C3.out _).mono ?_; rintro e w' ⟨rfl, rfl⟩) | (go_at_call 11; refine (CS.out _).mono ?_; rintro e w' ⟨rfl, hb⟩))
              refine wp_loop_rounds 5 ?_
              rw [rounds_succ]
              go_wp2
              rw [rounds_succ]
              go_wp2
              rw [rounds_succ]
              go_wp2
              rw [rounds_succ]
              go_wp2
              rw [rounds_succ]
              go_wp2
              go_ret
              exact ⟨rfl, hb⟩
  · obtain ⟨hv1, hv2, hv3⟩ := hv
    rcases hz with hz | hz
    · go_enter Try.func3, Try.ntmps3
      go_wp2_with (first | (go_at_call 8; refine (C12.out _).1.mono ?_; rintro e w' ⟨rfl, rfl⟩) | (go_at_call 9; refine (C12.out _).2.1.mono ?_; rintro e w' ⟨rfl, rfl⟩) | (go_at_call 10; refine (C3.out _).mono ?_; rintro e w' ⟨rfl, rfl⟩) | (go_at_call 11; refine (CS.out _).mono ?_; rintro e w' ⟨rfl, hb⟩))
      refine wp_loop_rounds 5 ?_
      rw [rounds_succ]
      go_wp2
      rw [rounds_succ]
      go_wp2
      rw [rounds_succ]
      go_wp2
      rw [rounds_succ]
      go_wp2
      rw [rounds_succ]
      go_wp2_with (first | (go_at_call 12; refine (C12.out _).2.2.1.mono ?_; rintro e w' ⟨rfl, rfl⟩) | (go_at_call 13; refine (C12.out _).2.2.2.mono ?_; rintro e w' ⟨rfl, rfl⟩))
      go_ret
      exact ⟨rfl, hb⟩
    · have hz0 : ¬ z < 0 := by omega
      go_enter Try.func3, Try.ntmps3
      go_wp2_with (first | (go_at_call 8; refine (C12.out _).1.mono ?_; rintro e w' ⟨rfl, rfl⟩) | (go_at_call 9; refine (C12.out _).2.1.mono ?_; rintro e w' ⟨rfl, rfl⟩) | (go_at_call 10; refine (C3.out _).mono ?_; rintro e w' ⟨rfl, rfl⟩) | (go_at_call 11; refine (CS.out _).mono ?_; rintro e w' ⟨rfl, hb⟩))
      refine wp_loop_rounds 5 ?_
      rw [rounds_succ]
      go_wp2
      rw [rounds_succ]
      go_wp2
      rw [rounds_succ]
      go_wp2
      rw [rounds_succ]
      go_wp2
      rw [rounds_succ]
      go_wp2_with (first | (go_at_call 12; refine (C12.out _).2.2.1.mono ?_; rintro e w' ⟨rfl, rfl⟩) | (go_at_call 13; refine (C12.out _).2.2.2.mono ?_; rintro e w' ⟨rfl, rfl⟩))
      go_ret
      exact ⟨rfl, hb⟩
  · obtain ⟨hz1, hz2⟩ := hz
    rcases hv with hv | hv
    · go_enter Try.func3, Try.ntmps3
      go_wp2_with (first | (go_at_call 8; refine (C12.out _).1.mono ?_; rintro e w' ⟨rfl, rfl⟩) | (go_at_call 9; refine (C12.out _).2.mono ?_; rintro e w' ⟨rfl, rfl⟩) | (go_at_call 10; refine (C3.out _).mono ?_; rintro e w' ⟨rfl, rfl⟩) | (go_at_call 11; refine (CS.out _).mono ?_; rintro e w' ⟨rfl, hb⟩))
      refine wp_loop_rounds 5 ?_
      rw [rounds_succ]
      go_wp2
      rw [rounds_succ]
      go_wp2
      rw [rounds_succ]
      go_wp2
      rw [rounds_succ]
      go_wp2
      rw [rounds_succ]
      go_wp2
      go_ret
      exact ⟨rfl, hb⟩
    · by_cases hv0 : v < 0
      · go_enter Try.func3, Try.ntmps3
        go_wp2_with (first | (go_at_call 8; refine (C12.out _).1.mono ?_; rintro e w' ⟨rfl, rfl⟩) | (go_at_call 9; refine (C12.out _).2.mono ?_; rintro e w' ⟨rfl, rfl⟩) | (go_at_call 10; refine (C3.out _).mono ?_; rintro e w' ⟨rfl, rfl⟩) | (go_at_call 11; refine (CS.out _).mono ?_; rintro e w' ⟨rfl, hb⟩))
        refine wp_loop_rounds 5 ?_
        rw [rounds_succ]
        go_wp2
        rw [rounds_succ]
        go_wp2
        rw [rounds_succ]
        go_wp2
        rw [rounds_succ]
        go_wp2
        rw [rounds_succ]
        go_wp2
        go_ret
        exact ⟨rfl, hb⟩
      · rcases hv with hv | hv
        · go_enter Try.func3, Try.ntmps3
          go_wp2_with (first | (go_at_call 8; refine (C12.out _).1.mono ?_; rintro e w' ⟨rfl, rfl⟩) | (go_at_call 9; refine (C12.out _).2.mono ?_; rintro e w' ⟨rfl, rfl⟩) | (go_at_call 10; refine (C3.out _).mono ?_; rintro e w' ⟨rfl, rfl⟩) | (go_at_call 11; refine (CS.out _).mono ?_; rintro e w' ⟨rfl, hb⟩))
          refine wp_loop_rounds 5 ?_
          rw [rounds_succ]
          go_wp2
          rw [rounds_succ]
          go_wp2
          rw [rounds_succ]
          go_wp2
          rw [rounds_succ]
          go_wp2
          rw [rounds_succ]
          go_wp2
          go_ret
          exact ⟨rfl, hb⟩
        · by_cases hv3 : 3 < v
          · go_enter Try.func3, Try.ntmps3
            go_wp2_with (first | (go_at_call 8; refine (C12.out _).1.mono ?_; rintro e w' ⟨rfl, rfl⟩) | (go_at_call 9; refine (C12.out _).2.mono ?_; rintro e w' ⟨rfl, rfl⟩) | (go_at_call 10; refine (C3.out _).mono ?_; rintro e w' ⟨rfl, rfl⟩) | (go_at_call 11; refine (CS.out _).mono ?_; rintro e w' ⟨rfl, hb⟩))
            refine wp_loop_rounds 5 ?_
            rw [rounds_succ]
            go_wp2
            rw [rounds_succ]
            go_wp2
            rw [rounds_succ]
            go_wp2
            rw [rounds_succ]
            go_wp2
            rw [rounds_succ]
            go_wp2
            go_ret
            exact ⟨rfl, hb⟩
          · go_enter Try.func3, Try.ntmps3
            go_wp2_with (first | (go_at_call 8; refine (C12.out _).1.mono ?_; rintro e w' ⟨rfl, rfl⟩) | (go_at_call 9; refine (C12.out _).2.mono ?_; rintro e w' ⟨rfl, rfl⟩) | (go_at_call 10; refine (C3.out _).mono ?_; rintro e w' ⟨rfl, rfl⟩) | (go_at_call 11; refine (CS.out _).mono ?_; rintro e w' ⟨rfl, hb⟩))
            refine wp_loop_rounds 5 ?_
            rw [rounds_succ]
            go_wp2
            rw [rounds_succ]
            go_wp2
            rw [rounds_succ]
            go_wp2
            rw [rounds_succ]
            go_wp2
            rw [rounds_succ]
            go_wp2
            go_ret
            exact ⟨rfl, hb⟩
  · obtain ⟨hz1, hz2⟩ := hz
    obtain ⟨hv1, hv2, hv3⟩ := hv
    go_enter Try.func3, Try.ntmps3
    go_wp2_with (first | (go_at_call 8; refine (C12.out _).1.mono ?_; rintro e w' ⟨rfl, rfl⟩) | (go_at_call 9; refine (C12.out _).2.1.mono ?_; rintro e w' ⟨rfl, rfl⟩) | (go_at_call 10; refine (C3.out _).mono ?_; rintro e w' ⟨rfl, rfl⟩) | (go_at_call 11; refine (CS.out _).mono ?_; rintro e w' ⟨rfl, hb⟩))
    refine wp_loop_rounds 5 ?_
    rw [rounds_succ]
    go_wp2
    rw [rounds_succ]
    go_wp2
    rw [rounds_succ]
    go_wp2
    rw [rounds_succ]
    go_wp2
    rw [rounds_succ]
    go_wp2_with (first | (go_at_call 12; refine (C12.out _).2.2.1.mono ?_; rintro e w' ⟨rfl, rfl⟩) | (go_at_call 13; refine (C12.out _).2.2.2.mono ?_; rintro e w' ⟨rfl, rfl⟩))
    go_ret
    exact ⟨rfl, hb⟩
end Go.Proofs.Ytibddlldgmidlaa
