/-
  Contracts of layer 3's Times, Over and Common, and of the reference's Times.
-/
import Derived.Test.YtcddbcknjcedfaaGfa
namespace Go.Proofs.Ytcddbcknjcedfaa
open Go.RowKit

/-- Is there room for the product? -/
def tmOk (a b : Nat) : Bool := decide (a = 0 ∨ b = 0 ∨ Poly.bl a + Poly.bl b ≤ 65)
/-- The product, if there is room. -/
def tmV (a b : Nat) : Nat := if tmOk a b = true then Poly.pm a b else 0

theorem tmOk_comm (a b : Nat) : tmOk a b = tmOk b a := by
  unfold tmOk
  rw [Bool.eq_iff_iff]; simp only [decide_eq_true_eq]; omega
theorem tmV_comm (a b : Nat) : tmV a b = tmV b a := by
  unfold tmV; rw [tmOk_comm, Poly.pm_comm]
theorem tmV_lt (a b : Nat) (ha : a < 18446744073709551616) (hb : b < 18446744073709551616) : tmV a b < 18446744073709551616 := by
  unfold tmV
  split
  · rename_i h
    unfold tmOk at h
    rw [decide_eq_true_eq] at h
    by_cases h1 : a = 0
    · subst h1; rw [Poly.zero_pm]; omega
    · by_cases h2 : b = 0
      · subst h2; rw [Poly.pm_zero]; omega
      · have := Poly.bl_pm a b h1 h2
        exact (Poly.bl_le _ 64).1 (by omega)
  · omega

/-- What a round of Times keeps. -/
def TmInv (a b A B P : Nat) : Prop := Poly.pm a b = P ^^^ Poly.pm A B ∧ (A = 0 ∨ B = 0 ∨ Poly.bl A + Poly.bl B ≤ 65) ∧ P < 18446744073709551616 ∧ B < 18446744073709551616

theorem bl_two (A : Nat) (h : A ≠ 0) : Poly.bl (2 * A) = Poly.bl A + 1 := by
  have := Poly.bl_shl A 1 h
  rw [Nat.pow_one, Nat.mul_comm] at this
  exact this
theorem bl_half (B : Nat) (h : B / 2 ≠ 0) : Poly.bl B = Poly.bl (B / 2) + 1 := by
  have hb := Poly.bl_bounds (B / 2) h
  have hpos := (Poly.bl_pos (B / 2)).2 h
  have := Poly.bl_of B (Poly.bl (B / 2) - 1 + 1) (by rw [Nat.pow_succ]; omega) (by rw [Nat.pow_succ]; omega)
  omega
theorem tm_room {A B : Nat} (h : A = 0 ∨ B = 0 ∨ Poly.bl A + Poly.bl B ≤ 65) (hB : B ≠ 0) : A < 18446744073709551616 := by
  by_cases hA : A = 0
  · omega
  · have := (Poly.bl_pos B).2 hB
    exact (Poly.bl_le A 64).1 (by omega)
theorem tm_step {a b A B P : Nat} (h : TmInv a b A B P) (hB : B ≠ 0) : TmInv a b (2 * A) (B / 2) (if B % 2 = 1 then P ^^^ A else P) := by
  obtain ⟨h1, h2, h3, h4⟩ := h
  have hA := tm_room h2 hB
  refine ⟨?_, ?_, ?_, by omega⟩
  · rw [h1, Poly.pm_eq A B, Poly.pm_two_left]
    split
    · rw [Nat.xor_assoc]
    · rw [Nat.zero_xor]
  · by_cases hA0 : A = 0
    · exact .inl (by omega)
    · by_cases hB2 : B / 2 = 0
      · exact .inr (.inl hB2)
      · rw [bl_two A hA0]
        have := bl_half B hB2
        exact .inr (.inr (by omega))
  · split
    · exact Nat.xor_lt_two_pow (n := 64) h3 hA
    · exact h3

theorem ret2 {k : IntKind} {x y : Int} {c : Bool} (h : x = y) : Ending.returned (.tuple #[.int k x, .bool c]) = .returned (.tuple #[.int k y, .bool c]) := by rw [h]
theorem wrapU (n : Int) : IntKind.u64.wrap n = n % 18446744073709551616 := by simp [IntKind.wrap, IntKind.bits, IntKind.signed]
theorem shl_wrap (a k : Nat) (h : a * 2 ^ k < 18446744073709551616) : IntKind.u64.wrap ((a : Int) * 2 ^ k) = ((a * 2 ^ k : Nat) : Int) := by
  rw [show ((a : Int) * 2 ^ k) = ((a * 2 ^ k : Nat) : Int) by simp]
  exact IntWalk.u64_in _ (by omega)
theorem pow_wrap (k : Nat) (h : 2 ^ k < 18446744073709551616) : IntKind.u64.wrap ((2 : Int) ^ k) = ((2 ^ k : Nat) : Int) := by
  have := shl_wrap 1 k (by rw [Nat.one_mul]; exact h)
  rw [Nat.one_mul] at this
  rw [← this]; simp
theorem two_wrap (A : Nat) : IntKind.u64.wrap ((A : Int) * 2) = ((2 * A % 18446744073709551616 : Nat) : Int) := by rw [wrapU]; omega
theorem odd_test (B : Nat) (hB : B < 18446744073709551616) : (bits BinOp.and IntKind.u64 (B : Int) 1 == 1) = decide (B % 2 = 1) := by
  have := bit_test B 0 hB
  simpa using this

set_option maxHeartbeats 400000 in
/-- gf2.Times, where there is room. -/
theorem times_in (a b : Nat) (w : World) (ha : a < 18446744073709551616) (hb : b < 18446744073709551616) (hr : Poly.bl a + Poly.bl b ≤ 65) :
    Calls Try.prog 39 #[.int .u64 (a : Int), .int .u64 (b : Int)] w fun e w' => e = .returned (.tuple #[.int .u64 (Poly.pm a b : Nat), .bool true]) ∧ w = w' := by
  have b1 := bl64 a ha
  have b2 := bl64 b hb
  go_enter Try.func39, Try.ntmps39
  go_wp2_with (go_at_call 42; refine (degree _ _ (by omega)).mono ?_; rintro e w' ⟨rfl, rfl⟩)
  go_loop [0, 1, 6] (fun x y p => ∃ A B P : Nat, TmInv a b A B P ∧ x = .int .u64 ((A % 18446744073709551616 : Nat) : Int) ∧ y = .int .u64 (B : Int) ∧ p = .int .u64 (P : Int)) (fun _ y _ => (intOf y).toNat)
  case atStart => exact ⟨a, b, 0, ⟨by rw [Nat.zero_xor], .inr (.inr hr), by omega, hb⟩, by rw [Nat.mod_eq_of_lt ha], rfl, rfl⟩
  case round =>
    obtain ⟨A, B, P, hinv, rfl, rfl, rfl⟩ := hrel
    by_cases hB : B = 0
    · subst hB
      have HP := Lib.hid hinv.1
      clear hinv
      go_wp2
      go_ret2
      refine ⟨ret2 ?_, rfl⟩
      rw [HP.out, Poly.pm_zero, Nat.xor_zero]
    · have hA := tm_room hinv.2.1 hB
      have hP := hinv.2.2.1
      have hB2 := hinv.2.2.2
      rw [Nat.mod_eq_of_lt hA]
      have HI := Lib.hid (tm_step hinv hB)
      clear hinv
      go_wp2_with (go_at_call 44; refine (add _ _ _ (by omega) (by omega)).mono ?_; rintro e w' ⟨rfl, rfl⟩)
      · go_round
        case rel =>
          rename_i ht _
          rw [odd_test B hB2, decide_eq_true_eq] at ht
          have hI := HI.out
          rw [if_pos ht] at hI
          exact ⟨2 * A, B / 2, P ^^^ A, hI, by rw [two_wrap], by go_num, rfl⟩
        case measure => simp [intOf]; omega
      · go_round
        case rel =>
          rename_i ht
          rw [odd_test B hB2, decide_eq_false_iff_not] at ht
          have hI := HI.out
          rw [if_neg ht] at hI
          exact ⟨2 * A, B / 2, P, hI, by rw [two_wrap], by go_num, rfl⟩
        case measure => simp [intOf]; omega

set_option maxHeartbeats 400000 in
/-- gf2.Times, where there is no room. -/
theorem times_out (a b : Nat) (w : World) (ha : a < 18446744073709551616) (hb : b < 18446744073709551616) (hr : 65 < Poly.bl a + Poly.bl b) :
    Calls Try.prog 39 #[.int .u64 (a : Int), .int .u64 (b : Int)] w fun e w' => e = .returned (.tuple #[.int .u64 0, .bool false]) ∧ w = w' := by
  have b1 := bl64 a ha
  have b2 := bl64 b hb
  go_enter Try.func39, Try.ntmps39
  go_wp2_with (go_at_call 42; refine (degree _ _ (by omega)).mono ?_; rintro e w' ⟨rfl, rfl⟩)
  go_ret2
  exact ⟨rfl, rfl⟩

/-- gf2.Times. -/
theorem times (a b : Nat) (w : World) (ha : a < 18446744073709551616) (hb : b < 18446744073709551616) :
    Calls Try.prog 39 #[.int .u64 (a : Int), .int .u64 (b : Int)] w fun e w' => e = .returned (.tuple #[.int .u64 (tmV a b : Nat), .bool (tmOk a b)]) ∧ w = w' := by
  have b1 := bl64 a ha
  have b2 := bl64 b hb
  by_cases hr : Poly.bl a + Poly.bl b ≤ 65
  · have h : tmOk a b = true := by unfold tmOk; rw [decide_eq_true_eq]; exact .inr (.inr hr)
    unfold tmV
    rw [if_pos h, h]
    exact times_in a b w ha hb hr
  · have h : tmOk a b = false := by
      unfold tmOk; rw [decide_eq_false_iff_not]; rintro (h | h | h)
      · subst h; rw [Poly.bl_zero] at hr; omega
      · subst h; rw [Poly.bl_zero] at hr; omega
      · omega
    unfold tmV
    rw [h, if_neg (by simp)]
    exact times_out a b w ha hb (by omega)

/-- The product of the lower so many coefficients. -/
theorem pm_mod_step (a b k : Nat) : Poly.pm a (b % 2 ^ (k + 1)) = if b / 2 ^ k % 2 = 1 then Poly.pm a (b % 2 ^ k) ^^^ a * 2 ^ k else Poly.pm a (b % 2 ^ k) := by
  have h := Nat.mod_pow_succ (b := 2) (x := b) (k := k)
  have h2 := Nat.mod_lt b (Nat.two_pow_pos k)
  split
  · rename_i h1
    rw [h1, Nat.mul_one] at h
    have e : b % 2 ^ k + 2 ^ k = b % 2 ^ k ^^^ 2 ^ k := by
      apply Nat.eq_of_testBit_eq
      intro i
      rw [Nat.testBit_xor, Nat.testBit_two_pow, Nat.add_comm]
      by_cases hi : k = i
      · subst hi
        rw [Nat.testBit_two_pow_add_eq]
        simp
      · by_cases hl : i < k
        · rw [Nat.testBit_two_pow_add_gt hl]; simp [hi]
        · have hz : (b % 2 ^ k).testBit i = false := Nat.testBit_lt_two_pow (Nat.lt_of_lt_of_le h2 (Nat.pow_le_pow_right (by decide) (by omega)))
          have hz2 : (2 ^ k + b % 2 ^ k).testBit i = false := Nat.testBit_lt_two_pow (Nat.lt_of_lt_of_le (show 2 ^ k + b % 2 ^ k < 2 ^ (k + 1) by rw [Nat.pow_succ]; omega) (Nat.pow_le_pow_right (by decide) (by omega)))
          rw [hz, hz2]; simp [hi]
    rw [h, e, Poly.pm_xor, Poly.pm_comm a (2 ^ k), Poly.pm_pow_left]
  · rename_i h1
    rw [show b / 2 ^ k % 2 = 0 by omega, Nat.mul_zero] at h
    rw [h, Nat.add_zero]

theorem shl_room (a b k : Nat) (ha : a ≠ 0) (hr : Poly.bl a + Poly.bl b ≤ 65) (h1 : b / 2 ^ k % 2 = 1) : a * 2 ^ k < 18446744073709551616 := by
  have hk : 2 ^ k ≤ b := by
    apply Nat.le_of_not_lt
    intro h
    rw [Nat.div_eq_of_lt h] at h1
    omega
  have hk2 := (Poly.bl_lt b k).2 hk
  have := Poly.bl_shl a k ha
  exact (Poly.bl_le _ 64).1 (by omega)

theorem pm_part_lt (a b k : Nat) (hr : Poly.bl a + Poly.bl b ≤ 65) (ha : a ≠ 0) : Poly.pm a (b % 2 ^ k) < 18446744073709551616 := by
  by_cases h0 : b % 2 ^ k = 0
  · rw [h0, Poly.pm_zero]; omega
  · have h1 : Poly.bl (b % 2 ^ k) ≤ Poly.bl b := by
      rw [Poly.bl_le]
      have := (Poly.bl_le b (Poly.bl b)).1 (Nat.le_refl _)
      have := Nat.mod_le b (2 ^ k)
      omega
    have := Poly.bl_pm a _ ha h0
    exact (Poly.bl_le _ 64).1 (by omega)

set_option maxHeartbeats 400000 in
theorem refTimes_in (a b : Nat) (w : World) (ha : a < 18446744073709551616) (hb : b < 18446744073709551616) (a0 : a ≠ 0) (b0 : b ≠ 0) (hr : Poly.bl a + Poly.bl b ≤ 65) :
    Calls Try.prog 40 #[.int .u64 (a : Int), .int .u64 (b : Int)] w fun e w' => e = .returned (.tuple #[.int .u64 (Poly.pm a b : Nat), .bool true]) ∧ w = w' := by
  have b1 := bl64 a ha
  have b2 := bl64 b hb
  have HS := Lib.hid (pm_mod_step a b)
  have t1 : ((a : Int) == 0) = false := by simp; omega
  have t2 : ((b : Int) == 0) = false := by simp; omega
  go_enter Try.func40, Try.ntmps40
  go_wp2_with (go_at_call 43; refine (refDegree _ _ (by omega)).mono ?_; rintro e w' ⟨rfl, rfl⟩)
  go_loop [6, 7] (fun o i => ∃ k : Nat, k ≤ 64 ∧ i = .int .i64 k ∧ o = .int .u64 ((Poly.pm a (b % 2 ^ k) : Nat) : Int)) (fun _ i => 64 - (intOf i).toNat)
  case atStart => exact ⟨0, Nat.zero_le _, rfl, by simp [Nat.mod_one, Poly.pm_zero]⟩
  case round =>
    obtain ⟨k, hk, rfl, rfl⟩ := hrel
    have hlt := pm_part_lt a b k hr a0
    by_cases hk2 : k < 64
    · go_wp2
      · go_round
        case rel =>
          rename_i ht
          rw [bit_test b k hb, decide_eq_true_eq] at ht
          have hs := shl_room a b k a0 hr ht
          refine ⟨k + 1, by omega, by go_num, ?_⟩
          rw [HS.out, if_pos ht, shl_wrap a k hs, u64_xor_nat _ _ hlt hs]
        case measure => simp [intOf]; omega
      · go_round
        case rel =>
          rename_i ht
          rw [bit_test b k hb, decide_eq_false_iff_not] at ht
          refine ⟨k + 1, by omega, by go_num, ?_⟩
          rw [HS.out, if_neg ht]
        case measure => simp [intOf]; omega
    · go_wp2
      go_ret2
      refine ⟨ret2 ?_, rfl⟩
      rw [show k = 64 by omega, Nat.mod_eq_of_lt (show b < 2 ^ 64 from hb)]

set_option maxHeartbeats 400000 in
theorem refTimes_out (a b : Nat) (w : World) (ha : a < 18446744073709551616) (hb : b < 18446744073709551616) (a0 : a ≠ 0) (b0 : b ≠ 0) (hr : 65 < Poly.bl a + Poly.bl b) :
    Calls Try.prog 40 #[.int .u64 (a : Int), .int .u64 (b : Int)] w fun e w' => e = .returned (.tuple #[.int .u64 0, .bool false]) ∧ w = w' := by
  have b1 := bl64 a ha
  have b2 := bl64 b hb
  have t1 : ((a : Int) == 0) = false := by simp; omega
  have t2 : ((b : Int) == 0) = false := by simp; omega
  go_enter Try.func40, Try.ntmps40
  go_wp2_with (go_at_call 43; refine (refDegree _ _ (by omega)).mono ?_; rintro e w' ⟨rfl, rfl⟩)
  go_ret2
  exact ⟨rfl, rfl⟩

set_option maxHeartbeats 400000 in
theorem refTimes_nil (a b : Nat) (w : World) (h : a = 0 ∨ b = 0) :
    Calls Try.prog 40 #[.int .u64 (a : Int), .int .u64 (b : Int)] w fun e w' => e = .returned (.tuple #[.int .u64 0, .bool true]) ∧ w = w' := by
  by_cases h1 : a = 0
  · subst h1
    have t1 : (((0 : Nat) : Int) == 0) = true := by simp
    go_enter Try.func40, Try.ntmps40
    go_wp2
    go_ret2
    exact ⟨rfl, rfl⟩
  · have h2 : b = 0 := by omega
    subst h2
    have t1 : ((a : Int) == 0) = false := by simp; omega
    have t2 : (((0 : Nat) : Int) == 0) = true := by simp
    go_enter Try.func40, Try.ntmps40
    go_wp2
    go_ret2
    exact ⟨rfl, rfl⟩

/-- The reference's Times. -/
theorem refTimes (a b : Nat) (w : World) (ha : a < 18446744073709551616) (hb : b < 18446744073709551616) :
    Calls Try.prog 40 #[.int .u64 (a : Int), .int .u64 (b : Int)] w fun e w' => e = .returned (.tuple #[.int .u64 (tmV a b : Nat), .bool (tmOk a b)]) ∧ w = w' := by
  by_cases h0 : a = 0 ∨ b = 0
  · have h : tmOk a b = true := by unfold tmOk; rw [decide_eq_true_eq]; omega
    unfold tmV
    rw [if_pos h, h, show Poly.pm a b = 0 by rcases h0 with rfl | rfl; exact Poly.zero_pm b; exact Poly.pm_zero a]
    exact refTimes_nil a b w h0
  · by_cases hr : Poly.bl a + Poly.bl b ≤ 65
    · have h : tmOk a b = true := by unfold tmOk; rw [decide_eq_true_eq]; exact .inr (.inr hr)
      unfold tmV
      rw [if_pos h, h]
      exact refTimes_in a b w ha hb (by omega) (by omega) hr
    · have h : tmOk a b = false := by
        unfold tmOk; rw [decide_eq_false_iff_not]; omega
      unfold tmV
      rw [h, if_neg (by simp)]
      exact refTimes_out a b w ha hb (by omega) (by omega) (by omega)

/-- What a round of Over keeps. -/
def OvInv (a b A Q : Nat) : Prop := Q ^^^ Poly.quo A b = Poly.quo a b ∧ Poly.rem A b = Poly.rem a b ∧ A < 18446744073709551616 ∧ Q < 18446744073709551616
theorem ov_step {a b A Q d : Nat} (h : OvInv a b A Q) (hb : b ≠ 0) (hd : Poly.bl A = Poly.bl b + d) : OvInv a b (A ^^^ b * 2 ^ d) (Q ^^^ 2 ^ d) ∧ Poly.bl (A ^^^ b * 2 ^ d) < Poly.bl A ∧ b * 2 ^ d < 18446744073709551616 ∧ d < 64 := by
  obtain ⟨h1, h2, h3, h4⟩ := h
  have e : Poly.bl A - Poly.bl b = d := by omega
  have hlt := Poly.step_lt A b hb (by omega)
  rw [e] at hlt
  have hA := bl64 A h3
  have p := (Poly.bl_pos b).2 hb
  have hs : b * 2 ^ d < 18446744073709551616 := (Poly.bl_le _ 64).1 (by rw [Poly.bl_shl b d hb]; omega)
  have hd64 : d < 64 := by omega
  have h2d : 2 ^ d < 2 ^ 64 := Nat.pow_lt_pow_right (by decide) hd64
  refine ⟨⟨?_, ?_, Nat.xor_lt_two_pow (n := 64) h3 hs, Nat.xor_lt_two_pow (n := 64) h4 h2d⟩, hlt, hs, hd64⟩
  · rw [← h1]
    conv => rhs; unfold Poly.quo
    rw [dif_pos ⟨hb, by omega⟩, e, Nat.xor_assoc]
  · rw [← h2]
    conv => rhs; unfold Poly.rem
    rw [dif_pos ⟨hb, by omega⟩, e]
theorem ov_end {a b A Q : Nat} (h : OvInv a b A Q) (hd : Poly.bl A < Poly.bl b) : Q = Poly.quo a b ∧ A = Poly.rem a b := by
  obtain ⟨h1, h2, _, _⟩ := h
  have hz : Poly.quo A b = 0 := by unfold Poly.quo; rw [dif_neg (by omega)]
  rw [hz, Nat.xor_zero] at h1
  conv at h2 => lhs; unfold Poly.rem
  rw [dif_neg (by omega)] at h2
  exact ⟨h1, h2⟩

theorem ret3 {k : IntKind} {x y x' y' : Int} {c : Bool} (h : x = x') (h2 : y = y') : Ending.returned (.tuple #[.int k x, .int k y, .bool c]) = .returned (.tuple #[.int k x', .int k y', .bool c]) := by rw [h, h2]

set_option maxHeartbeats 400000 in
/-- gf2.Over. -/
theorem over (a b : Nat) (w : World) (ha : a < 18446744073709551616) (hb : b < 18446744073709551616) (b0 : b ≠ 0) :
    Calls Try.prog 45 #[.int .u64 (a : Int), .int .u64 (b : Int)] w fun e w' => e = .returned (.tuple #[.int .u64 (Poly.quo a b : Nat), .int .u64 (Poly.rem a b : Nat), .bool true]) ∧ w = w' := by
  have b1 := bl64 a ha
  have b2 := bl64 b hb
  have t2 : ((b : Int) == 0) = false := by simp; omega
  go_enter Try.func45, Try.ntmps45
  go_wp2_with (go_at_call 42; refine (degree _ _ (by omega)).mono ?_; rintro e w' ⟨rfl, rfl⟩)
  go_loop [0, 7, 8] (fun x q d => ∃ A Q : Nat, OvInv a b A Q ∧ x = .int .u64 (A : Int) ∧ q = .int .u64 (Q : Int) ∧ d = .int .i64 ((Poly.bl A : Int) - 1 - ((Poly.bl b : Int) - 1))) (fun x _ _ => Poly.bl (intOf x).toNat)
  case atStart => exact ⟨a, 0, ⟨by rw [Nat.zero_xor], rfl, ha, by omega⟩, rfl, rfl, rfl⟩
  case round =>
    obtain ⟨A, Q, hinv, rfl, rfl, rfl⟩ := hrel
    have hA := hinv.2.2.1
    have hQ := hinv.2.2.2
    have b3 := bl64 A hA
    by_cases hd : Poly.bl b ≤ Poly.bl A
    · obtain ⟨d, hd2⟩ : ∃ d : Nat, Poly.bl A = Poly.bl b + d := ⟨_, (Nat.add_sub_cancel' hd).symm⟩
      have hdd : ((Poly.bl A : Int) - 1 - ((Poly.bl b : Int) - 1)) = (d : Int) := by omega
      obtain ⟨s1, s2, s3, s4⟩ := ov_step hinv b0 hd2
      have HI := Lib.hid s1
      have HL := Lib.hid s2
      have HD := Lib.hid hd2
      have hA2 := s1.2.2.1
      have hQ2 := s1.2.2.2
      have b4 := bl64 _ hA2
      rw [hdd]
      clear hinv hd2 hdd s1 s2
      have h2d : 2 ^ d < 18446744073709551616 := Nat.pow_lt_pow_right (m := d) (n := 64) (by decide) s4
      go_wp2_with fail
      rw [pow_wrap d h2d]
      refine (add _ _ _ hQ h2d).mono ?_
      rintro e w' ⟨rfl, rfl⟩
      go_wp2_with fail
      rw [shl_wrap b d s3]
      refine (add _ _ _ hA s3).mono ?_
      rintro e w' ⟨rfl, rfl⟩
      go_wp2_with (go_at_call 42; refine (degree _ _ (by omega)).mono ?_; rintro e w' ⟨rfl, rfl⟩)
      go_round
      case rel => exact ⟨A ^^^ b * 2 ^ d, Q ^^^ 2 ^ d, HI.out, rfl, rfl, rfl⟩
      case measure => simpa [intOf] using HL.out
    · obtain ⟨e1, e2⟩ := ov_end hinv (by omega)
      have E1 := Lib.hid e1
      have E2 := Lib.hid e2
      clear hinv e1 e2
      go_wp2
      go_ret3
      exact ⟨ret3 (by rw [E1.out]) (by rw [E2.out]), rfl⟩

set_option maxHeartbeats 400000 in
/-- gf2.Over by 0. -/
theorem over_nil (a : Nat) (w : World) :
    Calls Try.prog 45 #[.int .u64 (a : Int), .int .u64 0] w fun e w' => e = .returned (.tuple #[.int .u64 0, .int .u64 0, .bool false]) ∧ w = w' := by
  go_enter Try.func45, Try.ntmps45
  go_wp2
  go_ret3
  exact ⟨rfl, rfl⟩

theorem rem_lt (a b : Nat) (hb : b < 18446744073709551616) (b0 : b ≠ 0) : Poly.rem a b < 18446744073709551616 := by
  have h := (Poly.div_rem a b b0).2
  have := bl64 b hb
  exact (Poly.bl_le _ 64).1 (by omega)

set_option maxHeartbeats 400000 in
/-- gf2.Common. -/
theorem common (a b : Nat) (w : World) (ha : a < 18446744073709551616) (hb : b < 18446744073709551616) :
    Calls Try.prog 46 #[.int .u64 (a : Int), .int .u64 (b : Int)] w fun e w' => e = .returned (.int .u64 (Poly.gcd a b : Nat)) ∧ w = w' := by
  go_enter Try.func46, Try.ntmps46
  go_wp2
  go_loop [0, 1] (fun x y => ∃ A B : Nat, Hid (Poly.gcd A B = Poly.gcd a b) ∧ A < 18446744073709551616 ∧ B < 18446744073709551616 ∧ x = .int .u64 (A : Int) ∧ y = .int .u64 (B : Int)) (fun _ y => Poly.bl (intOf y).toNat)
  case atStart => exact ⟨a, b, rfl, ha, hb, rfl, rfl⟩
  case round =>
    obtain ⟨A, B, HE, hA, hB, rfl, rfl⟩ := hrel
    by_cases h0 : B = 0
    · subst h0
      go_wp2
      go_ret
      refine ⟨ret_int ?_, rfl⟩
      have := HE.out
      rw [Poly.gcd_zero] at this
      rw [this]
    · have hr := rem_lt A B hB h0
      have HL := Lib.hid (Poly.div_rem A B h0).2
      have t1 : ((B : Int) != 0) = true := by simp; omega
      go_wp2_with (go_at_call 45; refine (over _ _ _ hA hB h0).mono ?_; rintro e w' ⟨rfl, rfl⟩)
      go_round
      case rel => exact ⟨B, Poly.rem A B, by unfold Hid; rw [← Poly.gcd_step A B h0]; exact HE.out, hB, hr, rfl, rfl⟩
      case measure => simpa [intOf] using HL.out

theorem closed1 : tmV 3 3 = 5 ∧ tmOk 3 3 = true := by
  have h : tmOk 3 3 = true := by decide
  refine ⟨?_, h⟩
  unfold tmV; rw [if_pos h, Poly.pm_eq, Poly.pm_eq]; simp [Poly.pm_zero]
theorem closed2 : Poly.quo 5 3 = 3 ∧ Poly.rem 5 3 = 0 := by
  refine (Poly.div_rem 5 3 (by decide)).uniq (q' := 3) (r' := 0) ⟨?_, by decide⟩
  rw [Poly.pm_eq, Poly.pm_eq]; simp [Poly.pm_zero]
theorem closed3 : Poly.gcd 5 3 = 3 := by
  rw [Poly.gcd_step 5 3 (by decide), closed2.2, Poly.gcd_zero]

set_option maxHeartbeats 400000 in
/-- The law's own first test. -/
theorem polys (w : World) : Calls Try.prog 41 #[] w fun e w' => e = .returned (.bool true) ∧ w = w' := by
  have H1 := Lib.hid closed1
  have c1 : Calls Try.prog 39 #[.int .u64 3, .int .u64 3] w fun e w' => e = .returned (.tuple #[.int .u64 5, .bool true]) ∧ w = w' := by
    have := times 3 3 w (by decide) (by decide)
    rw [closed1.1, closed1.2] at this; exact this
  have c2 : Calls Try.prog 45 #[.int .u64 5, .int .u64 3] w fun e w' => e = .returned (.tuple #[.int .u64 3, .int .u64 0, .bool true]) ∧ w = w' := by
    have := over 5 3 w (by decide) (by decide) (by decide)
    rw [closed2.1, closed2.2] at this; exact this
  have c3 : Calls Try.prog 46 #[.int .u64 5, .int .u64 3] w fun e w' => e = .returned (.int .u64 3) ∧ w = w' := by
    have := common 5 3 w (by decide) (by decide)
    rw [closed3] at this; exact this
  have C1 := Lib.hid c1
  have C2 := Lib.hid c2
  have C3 := Lib.hid c3
  clear c1 c2 c3
  go_enter Try.func41, Try.ntmps41
  go_wp2_with fail
  refine C1.out.mono ?_
  rintro e w' ⟨rfl, rfl⟩
  go_wp2_with fail
  refine C2.out.mono ?_
  rintro e w' ⟨rfl, rfl⟩
  go_wp2_with fail
  refine C3.out.mono ?_
  rintro e w' ⟨rfl, rfl⟩
  go_wp2
  go_ret
  exact ⟨rfl, rfl⟩
end Go.Proofs.Ytcddbcknjcedfaa
