/-
  The walks of layer 3's statements Gf2Times, Gf2Over, Gf2Common and Gf2Spreads.
-/
import Derived.Test.YtcddbcknjcedfaaGfb
namespace Go.Proofs.Ytcddbcknjcedfaa
open Go.RowKit

set_option maxHeartbeats 1000000 in
/-- Gf2Times. -/
theorem walk10 (a b : Nat) (w : World) (ha : a < 18446744073709551616) (hb : b < 18446744073709551616) :
    Calls Try.prog 10 #[.int .u64 (a : Int), .int .u64 (b : Int)] w fun e w' => e = .returned (.bool true) ∧ w = w' := by
  have cT : ∀ w : World, Calls Try.prog 39 #[.int .u64 (b : Int), .int .u64 (a : Int)] w fun e w' => e = .returned (.tuple #[.int .u64 (tmV a b : Nat), .bool (tmOk a b)]) ∧ w = w' := by
    intro w
    have := times b a w hb ha
    rw [tmV_comm, tmOk_comm] at this; exact this
  have C := Lib.hid cT
  have X := Lib.hid (u64_xor_nat a b ha hb)
  clear cT
  go_enter Try.func10, Try.ntmps10
  go_wp2_with fail
  refine (times a b _ ha hb).mono ?_
  rintro e w' ⟨rfl, rfl⟩
  go_wp2_with fail
  refine (C.out _).mono ?_
  rintro e w' ⟨rfl, rfl⟩
  go_wp2_with fail
  refine (refTimes a b _ ha hb).mono ?_
  rintro e w' ⟨rfl, rfl⟩
  go_wp2_with fail
  refine (polys _).mono ?_
  rintro e w' ⟨rfl, rfl⟩
  go_wp2_with fail
  refine (degree a _ ha).mono ?_
  rintro e w' ⟨rfl, rfl⟩
  go_wp2_with fail
  refine (refDegree a _ ha).mono ?_
  rintro e w' ⟨rfl, rfl⟩
  go_wp2_with fail
  refine (add a b _ ha hb).mono ?_
  rintro e w' ⟨rfl, rfl⟩
  have X2 := X.out
  clear X
  go_wp2_with fail
  go_ret
  exact ⟨rfl, rfl⟩

theorem tm_yes (a b : Nat) (h : a = 0 ∨ b = 0 ∨ Poly.bl a + Poly.bl b ≤ 65) : tmOk a b = true ∧ tmV a b = Poly.pm a b := by
  have h2 : tmOk a b = true := by unfold tmOk; rw [decide_eq_true_eq]; exact h
  exact ⟨h2, by unfold tmV; rw [if_pos h2]⟩

theorem over_facts (a b : Nat) (ha : a < 18446744073709551616) (hb : b < 18446744073709551616) (b0 : b ≠ 0) :
    Poly.quo a b < 18446744073709551616 ∧ (Poly.quo a b = 0 ∨ b = 0 ∨ Poly.bl (Poly.quo a b) + Poly.bl b ≤ 65) ∧ Poly.pm (Poly.quo a b) b < 18446744073709551616 ∧ Poly.pm (Poly.quo a b) b ^^^ Poly.rem a b = a := by
  obtain ⟨h1, h2⟩ := Poly.div_rem a b b0
  have hr := rem_lt a b hb b0
  have hp : Poly.pm (Poly.quo a b) b < 18446744073709551616 := by
    have e : Poly.pm (Poly.quo a b) b = a ^^^ Poly.rem a b := by
      conv => rhs; lhs; rw [h1]
      rw [Poly.xor_self_cancel]
    rw [e]; exact Nat.xor_lt_two_pow (n := 64) ha hr
  have p := (Poly.bl_pos b).2 b0
  by_cases hq : Poly.quo a b = 0
  · exact ⟨by omega, .inl hq, hp, h1.symm⟩
  · have e := Poly.bl_pm _ b hq b0
    have e2 := bl64 _ hp
    exact ⟨(Poly.bl_le _ 64).1 (by omega), .inr (.inr (by omega)), hp, h1.symm⟩

set_option maxHeartbeats 1000000 in
/-- Gf2Over. -/
theorem walk11 (a b : Nat) (w : World) (ha : a < 18446744073709551616) (hb : b < 18446744073709551616) :
    Calls Try.prog 11 #[.int .u64 (a : Int), .int .u64 (b : Int)] w fun e w' => e = .returned (.bool true) ∧ w = w' := by
  by_cases h0 : b = 0
  · subst h0
    go_enter Try.func11, Try.ntmps11
    go_wp2_with fail
    refine (over_nil a _).mono ?_
    rintro e w' ⟨rfl, rfl⟩
    go_wp2_with fail
    refine (polys _).mono ?_
    rintro e w' ⟨rfl, rfl⟩
    go_wp2_with fail
    go_ret
    exact ⟨rfl, rfl⟩
  · obtain ⟨hq, hroom, hp, hx⟩ := over_facts a b ha hb h0
    obtain ⟨k1, k2⟩ := tm_yes _ _ hroom
    have hr := rem_lt a b hb h0
    have hlt := (Poly.div_rem a b h0).2
    have cR : ∀ w : World, Calls Try.prog 40 #[.int .u64 (Poly.quo a b : Nat), .int .u64 (b : Int)] w fun e w' => e = .returned (.tuple #[.int .u64 (Poly.pm (Poly.quo a b) b : Nat), .bool true]) ∧ w = w' := by
      intro w
      have := refTimes (Poly.quo a b) b w hq hb
      rw [k1, k2] at this; exact this
    have C := Lib.hid cR
    have X := u64_xor_nat _ _ hp hr
    rw [hx] at X
    have t1 : ((b : Int) != 0) = true := by simp; omega
    have t3 := bl64 _ hr
    have t4 := bl64 _ hb
    clear cR k1 k2 hx hroom
    go_enter Try.func11, Try.ntmps11
    go_wp2_with fail
    refine (over a b _ ha hb h0).mono ?_
    rintro e w' ⟨rfl, rfl⟩
    go_wp2_with fail
    refine (polys _).mono ?_
    rintro e w' ⟨rfl, rfl⟩
    go_wp2_with fail
    refine (C.out _).mono ?_
    rintro e w' ⟨rfl, rfl⟩
    go_wp2_with fail
    refine (refDegree _ _ hr).mono ?_
    rintro e w' ⟨rfl, rfl⟩
    go_wp2_with fail
    refine (refDegree _ _ hb).mono ?_
    rintro e w' ⟨rfl, rfl⟩
    have t2 : decide ((Poly.bl (Poly.rem a b) : Int) - 1 < (Poly.bl b : Int) - 1) = true := by simp; omega
    go_wp2_with fail
    go_ret
    exact ⟨rfl, rfl⟩

set_option maxHeartbeats 1000000 in
/-- Gf2Spreads. -/
theorem walk14 (a b c : Nat) (w : World) :
    Calls Try.prog 14 #[.int .u64 (a : Int), .int .u64 (b : Int), .int .u64 (c : Int)] w fun e w' => e = .returned (.bool true) ∧ w = w' := by
  obtain ⟨A, hA⟩ : ∃ A, A = a % 2147483648 := ⟨_, rfl⟩
  obtain ⟨B, hB⟩ : ∃ A, A = b % 2147483648 := ⟨_, rfl⟩
  obtain ⟨C, hC⟩ : ∃ A, A = c % 2147483648 := ⟨_, rfl⟩
  have eA : ((a : Int) % 2147483648) = (A : Int) := by omega
  have eB : ((b : Int) % 2147483648) = (B : Int) := by omega
  have eC : ((c : Int) % 2147483648) = (C : Int) := by omega
  have lA : A < 2147483648 := by omega
  have lB : B < 2147483648 := by omega
  have lC : C < 2147483648 := by omega
  clear hA hB hC
  have lX : B ^^^ C < 2147483648 := Nat.xor_lt_two_pow (n := 31) lB lC
  have bA : Poly.bl A ≤ 31 := (Poly.bl_le _ 31).2 lA
  have bB : Poly.bl B ≤ 31 := (Poly.bl_le _ 31).2 lB
  have bC : Poly.bl C ≤ 31 := (Poly.bl_le _ 31).2 lC
  have bX : Poly.bl (B ^^^ C) ≤ 31 := (Poly.bl_le _ 31).2 lX
  have c1 := fun w => times_in A (B ^^^ C) w (by omega) (by omega) (by omega)
  have c2 := fun w => times_in A B w (by omega) (by omega) (by omega)
  have c3 := fun w => times_in A C w (by omega) (by omega) (by omega)
  have l2 := tmV_lt A B (by omega) (by omega)
  have l3 := tmV_lt A C (by omega) (by omega)
  rw [(tm_yes A B (by omega)).2] at l2
  rw [(tm_yes A C (by omega)).2] at l3
  rw [Poly.pm_xor] at c1
  have C1 := Lib.hid c1
  have C2 := Lib.hid c2
  have C3 := Lib.hid c3
  clear c1 c2 c3 bA bB bC bX lX
  go_enter Try.func14, Try.ntmps14
  go_wp2_with fail
  refine (add B C _ (by omega) (by omega)).mono ?_
  rintro e w' ⟨rfl, rfl⟩
  go_wp2_with fail
  refine (C1.out _).mono ?_
  rintro e w' ⟨rfl, rfl⟩
  go_wp2_with fail
  refine (C2.out _).mono ?_
  rintro e w' ⟨rfl, rfl⟩
  go_wp2_with fail
  refine (C3.out _).mono ?_
  rintro e w' ⟨rfl, rfl⟩
  go_wp2_with fail
  refine (polys _).mono ?_
  rintro e w' ⟨rfl, rfl⟩
  go_wp2_with fail
  refine (add _ _ _ l2 l3).mono ?_
  rintro e w' ⟨rfl, rfl⟩
  go_wp2_with fail
  go_ret
  exact ⟨rfl, rfl⟩

set_option maxHeartbeats 1000000 in
/-- Gf2Common. -/
theorem walk12 (a b c : Nat) (w : World) :
    Calls Try.prog 12 #[.int .u64 (a : Int), .int .u64 (b : Int), .int .u64 (c : Int)] w fun e w' => e = .returned (.bool true) ∧ w = w' := by
  obtain ⟨A, hA⟩ : ∃ A, A = a % 1048576 := ⟨_, rfl⟩
  obtain ⟨B, hB⟩ : ∃ A, A = b % 1048576 := ⟨_, rfl⟩
  obtain ⟨C, hC⟩ : ∃ A, A = c % 1048576 := ⟨_, rfl⟩
  have eA : ((a : Int) % 1048576) = (A : Int) := by omega
  have eB : ((b : Int) % 1048576) = (B : Int) := by omega
  have eC : ((c : Int) % 1048576) = (C : Int) := by omega
  have lA : A < 1048576 := by omega
  have lB : B < 1048576 := by omega
  have lC : C < 1048576 := by omega
  clear hA hB hC
  by_cases h0 : A = 0 ∧ B = 0
  · obtain ⟨rfl, rfl⟩ := h0
    have t0 : Poly.gcd 0 0 = 0 := Poly.gcd_zero 0
    have c1 := fun w => common 0 0 w (by omega) (by omega)
    rw [t0] at c1
    have C1 := Lib.hid c1
    clear c1 t0
    go_enter Try.func12, Try.ntmps12
    go_wp2_with fail
    refine (C1.out _).mono ?_
    rintro e w' ⟨rfl, rfl⟩
    go_wp2_with fail
    refine (polys _).mono ?_
    rintro e w' ⟨rfl, rfl⟩
    go_wp2_with fail
    go_ret
    exact ⟨rfl, rfl⟩
  · have hg0 : Poly.gcd A B ≠ 0 := fun h => h0 ((Poly.gcd_eq_zero A B).1 h)
    have bA : Poly.bl A ≤ 20 := (Poly.bl_le _ 20).2 lA
    have bB : Poly.bl B ≤ 20 := (Poly.bl_le _ 20).2 lB
    have bC : Poly.bl C ≤ 20 := (Poly.bl_le _ 20).2 lC
    have bg : Poly.bl (Poly.gcd A B) ≤ 20 := Poly.gcd_bl 20 (Poly.bl B) A B (Nat.le_refl _) bA bB
    have lg : Poly.gcd A B < 1048576 := (Poly.bl_le _ 20).1 bg
    obtain ⟨⟨x, hx⟩, ⟨y, hy⟩⟩ := Poly.gcd_divides (Poly.bl B) A B (Nat.le_refl _)
    have r1 := Poly.rem_zero_of A _ x hg0 hx
    have r2 := Poly.rem_zero_of B _ y hg0 hy
    have c1 := fun w => over A (Poly.gcd A B) w (by omega) (by omega) hg0
    have c2 := fun w => over B (Poly.gcd A B) w (by omega) (by omega) hg0
    rw [r1] at c1
    rw [r2] at c2
    have c3 := fun w => refTimes A C w (by omega) (by omega)
    have c4 := fun w => refTimes B C w (by omega) (by omega)
    have c5 := fun w => refTimes (Poly.gcd A B) C w (by omega) (by omega)
    have l3 := tmV_lt A C (by omega) (by omega)
    have l4 := tmV_lt B C (by omega) (by omega)
    rw [(tm_yes A C (by omega)).2] at l3 c3
    rw [(tm_yes B C (by omega)).2] at l4 c4
    rw [(tm_yes (Poly.gcd A B) C (by omega)).2] at c5
    have c6 := fun w => common (Poly.pm A C) (Poly.pm B C) w l3 l4
    rw [Poly.gcd_times_any A B C] at c6
    have c7 := fun w => common A B w (by omega) (by omega)
    have t1 : ((Poly.gcd A B : Nat) == (0 : Int)) = false := by simp; omega
    obtain ⟨g, hg⟩ : ∃ g, g = Poly.gcd A B := ⟨_, rfl⟩
    rw [← hg] at *
    have C1 := Lib.hid c1
    have C2 := Lib.hid c2
    have C3 := Lib.hid c3
    have C4 := Lib.hid c4
    have C5 := Lib.hid c5
    have C6 := Lib.hid c6
    have C7 := Lib.hid c7
    clear c1 c2 c3 c4 c5 c6 c7 r1 r2 hx hy hg
    by_cases hA0 : A = 0
    · have hB0 : ((B : Int) == 0) = false := by simp; omega
      have hA1 : ((A : Int) == 0) = true := by simp; omega
      clear hA0
      go_enter Try.func12, Try.ntmps12
      go_wp2_with fail
      refine (C7.out _).mono ?_
      rintro e w' ⟨rfl, rfl⟩
      go_wp2_with fail
      refine (polys _).mono ?_
      rintro e w' ⟨rfl, rfl⟩
      go_wp2_with fail
      refine (C1.out _).mono ?_
      rintro e w' ⟨rfl, rfl⟩
      go_wp2_with fail
      refine (C2.out _).mono ?_
      rintro e w' ⟨rfl, rfl⟩
      go_wp2_with fail
      refine (C3.out _).mono ?_
      rintro e w' ⟨rfl, rfl⟩
      go_wp2_with fail
      refine (C4.out _).mono ?_
      rintro e w' ⟨rfl, rfl⟩
      go_wp2_with fail
      refine (C6.out _).mono ?_
      rintro e w' ⟨rfl, rfl⟩
      go_wp2_with fail
      refine (C5.out _).mono ?_
      rintro e w' ⟨rfl, rfl⟩
      go_wp2_with fail
      go_ret
      exact ⟨rfl, rfl⟩
    · have hA1 : ((A : Int) == 0) = false := by simp; omega
      clear hA0
      go_enter Try.func12, Try.ntmps12
      go_wp2_with fail
      refine (C7.out _).mono ?_
      rintro e w' ⟨rfl, rfl⟩
      go_wp2_with fail
      refine (polys _).mono ?_
      rintro e w' ⟨rfl, rfl⟩
      go_wp2_with fail
      refine (C1.out _).mono ?_
      rintro e w' ⟨rfl, rfl⟩
      go_wp2_with fail
      refine (C2.out _).mono ?_
      rintro e w' ⟨rfl, rfl⟩
      go_wp2_with fail
      refine (C3.out _).mono ?_
      rintro e w' ⟨rfl, rfl⟩
      go_wp2_with fail
      refine (C4.out _).mono ?_
      rintro e w' ⟨rfl, rfl⟩
      go_wp2_with fail
      refine (C6.out _).mono ?_
      rintro e w' ⟨rfl, rfl⟩
      go_wp2_with fail
      refine (C5.out _).mono ?_
      rintro e w' ⟨rfl, rfl⟩
      go_wp2_with fail
      go_ret
      exact ⟨rfl, rfl⟩
end Go.Proofs.Ytcddbcknjcedfaa
