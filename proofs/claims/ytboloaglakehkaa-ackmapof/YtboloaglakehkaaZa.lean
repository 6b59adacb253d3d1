/-
  Contracts of layer 14 (numbers that come round), and of the reference's Plus and Ahead.
-/
import Derived.Test.YtboloaglakehkaaMem
namespace Go.Proofs.Ytboloaglakehkaa
open Go.RowKit
set_option linter.unusedVariables false

theorem wrap_u16 (n : Int) : IntKind.u16.wrap n = n % 65536 := by
  have := IntKind.wrap_u16 n
  exact this
theorem wrap_u32 (n : Int) : IntKind.u32.wrap n = n % 4294967296 := by
  have := IntKind.wrap_u32 n
  exact this
/-- Is one before another one? -/
def bf (a b : Int) : Bool := decide (1 ≤ (b - a) % 65536) && decide ((b - a) % 65536 < 32768)

set_option maxHeartbeats 400000 in
/-- seq.Plus. -/
theorem plusC (a n : Int) (w : World) :
    Calls Try.prog 9 #[.int .u16 a, .int .i64 n] w fun e w' => e = .returned (.int .u16 ((a + n) % 65536)) ∧ w = w' := by
  have e1 := wrap_u16 n
  have e2 : IntKind.u16.wrap (a + n % 65536) = (a + n) % 65536 := by rw [wrap_u16]; omega
  go_enter Try.func9, Try.ntmps9
  go_wp2
  go_ret
  exact ⟨rfl, rfl⟩
set_option maxHeartbeats 400000 in
/-- seq.Ahead. -/
theorem aheadC (a b : Int) (w : World) :
    Calls Try.prog 12 #[.int .u16 a, .int .u16 b] w fun e w' => e = .returned (.int .i64 ((b - a) % 65536)) ∧ w = w' := by
  have e1 := wrap_u16 (b - a)
  obtain ⟨x, hx⟩ : ∃ x, x = (b - a) % 65536 := ⟨_, rfl⟩
  have h0 : 0 ≤ x ∧ x < 65536 := by omega
  rw [← hx] at e1 ⊢
  clear hx
  go_enter Try.func12, Try.ntmps12
  go_wp2
  go_ret
  exact ⟨rfl, rfl⟩
theorem bf_true {a b : Int} (h : 1 ≤ (b - a) % 65536) (h2 : (b - a) % 65536 < 32768) : bf a b = true := by simp [bf, h, h2]
theorem bf_false {a b : Int} (h : (b - a) % 65536 < 1 ∨ 32768 ≤ (b - a) % 65536) : bf a b = false := by
  unfold bf
  rcases h with h | h
  · rw [decide_eq_false (by omega), Bool.false_and]
  · rw [decide_eq_false (p := (b - a) % 65536 < 32768) (by omega), Bool.and_false]
set_option maxHeartbeats 400000 in
/-- seq.Before. -/
theorem beforeC (a b : Int) (w : World) :
    Calls Try.prog 14 #[.int .u16 a, .int .u16 b] w fun e w' => e = .returned (.bool (bf a b)) ∧ w = w' := by
  have C := Lib.hid (aheadC a b w)
  obtain ⟨x, hx⟩ : ∃ x, x = (b - a) % 65536 := ⟨_, rfl⟩
  rw [← hx] at C
  have HX := Lib.hid hx
  have h0 : 0 ≤ x ∧ x < 65536 := by omega
  clear hx
  by_cases h1 : 1 ≤ x
  · by_cases h2 : x < 32768
    · go_enter Try.func14, Try.ntmps14
      go_wp2_with (go_at_call 12; refine C.out.mono ?_; rintro e w' ⟨rfl, rfl⟩)
      go_ret
      exact ⟨ret_bool (bf_true (by rw [← HX.out]; exact h1) (by rw [← HX.out]; exact h2)).symm, rfl⟩
    · go_enter Try.func14, Try.ntmps14
      go_wp2_with (go_at_call 12; refine C.out.mono ?_; rintro e w' ⟨rfl, rfl⟩)
      go_ret
      exact ⟨ret_bool ((decide_eq_false (by omega)).trans (bf_false (by rw [← HX.out]; omega)).symm), rfl⟩
  · go_enter Try.func14, Try.ntmps14
    go_wp2_with (go_at_call 12; refine C.out.mono ?_; rintro e w' ⟨rfl, rfl⟩)
    go_ret
    exact ⟨ret_bool (bf_false (by rw [← HX.out]; omega)).symm, rfl⟩
set_option maxHeartbeats 400000 in
/-- seq.Within. -/
theorem withinC (a n b : Int) (w : World) :
    Calls Try.prog 15 #[.int .u16 a, .int .i64 n, .int .u16 b] w fun e w' => e = .returned (.bool (decide ((b - a) % 65536 < n))) ∧ w = w' := by
  have C := Lib.hid (aheadC a b w)
  obtain ⟨x, hx⟩ : ∃ x, x = (b - a) % 65536 := ⟨_, rfl⟩
  rw [← hx] at C
  rw [← hx]
  clear hx
  go_enter Try.func15, Try.ntmps15
  go_wp2_with (go_at_call 12; refine C.out.mono ?_; rintro e w' ⟨rfl, rfl⟩)
  go_ret
  exact ⟨rfl, rfl⟩
set_option maxHeartbeats 400000 in
/-- The reference's Plus. -/
theorem refPlus (a n : Int) (w : World) (ha : 0 ≤ a ∧ a < 65536) (hn : -9223372036854775808 ≤ n ∧ n ≤ 9223372036854775807) :
    Calls Try.prog 11 #[.int .i64 a, .int .i64 n] w fun e w' => e = .returned (.int .i64 ((a + n) % 65536)) ∧ w = w' := by
  obtain ⟨r, hr⟩ : ∃ r, r = Int.tmod n 65536 := ⟨_, rfl⟩
  have t := Int.tmod_def n 65536
  have hr1 : -65536 < r ∧ r < 65536 ∧ ∃ q, n = r + 65536 * q := by
    rw [hr]
    refine ⟨?_, ?_, Int.tdiv n 65536, ?_⟩
    · have := Int.lt_tmod_of_pos n (show (0:Int) < 65536 by omega); omega
    · exact Int.tmod_lt_of_pos n (by omega)
    · have := Int.tmod_add_mul_tdiv n 65536; omega
  obtain ⟨h1, h2, q, hq⟩ := hr1
  obtain ⟨s, hs⟩ : ∃ s, s = Int.tmod (a + r) 65536 := ⟨_, rfl⟩
  have hs1 : -65536 < s ∧ s < 65536 ∧ ∃ q, a + r = s + 65536 * q := by
    rw [hs]
    refine ⟨?_, ?_, Int.tdiv (a + r) 65536, ?_⟩
    · have := Int.lt_tmod_of_pos (a + r) (show (0:Int) < 65536 by omega); omega
    · exact Int.tmod_lt_of_pos _ (by omega)
    · have := Int.tmod_add_mul_tdiv (a + r) 65536; omega
  obtain ⟨h3, h4, q2, hq2⟩ := hs1
  have e3 : Int.tmod (s + 65536) 65536 = (a + n) % 65536 := by
    rw [Int.tmod_eq_emod_of_nonneg (by omega)]; omega
  have e4 : (s + 65536) % 65536 = (a + n) % 65536 := by omega
  have HE := Lib.hid e3
  have e1 : n.tmod 65536 = r := hr.symm
  have e2 : (a + r).tmod 65536 = s := hs.symm
  generalize (a + n) % 65536 = y at *
  clear hq hq2 hr hs t
  go_enter Try.func11, Try.ntmps11
  go_wp2
  go_ret
  exact ⟨rfl, rfl⟩
set_option maxHeartbeats 400000 in
/-- The reference's Ahead. -/
theorem refAhead (a b : Int) (w : World) (ha : 0 ≤ a ∧ a < 65536) (hb : 0 ≤ b ∧ b < 65536) :
    Calls Try.prog 13 #[.int .i64 a, .int .i64 b] w fun e w' => e = .returned (.int .i64 ((b - a) % 65536)) ∧ w = w' := by
  obtain ⟨D, hD⟩ : ∃ D : Nat, (D : Int) = (b - a) % 65536 := ⟨((b - a) % 65536).toNat, by omega⟩
  have hD2 : D < 65536 := by omega
  rw [← hD]
  go_enter Try.func13, Try.ntmps13
  go_wp2
  go_loop [5] (fun i => ∃ k : Nat, k ≤ D ∧ i = .int .i64 k) (fun i => D - (intOf i).toNat)
  case atStart => exact ⟨0, Nat.zero_le _, rfl⟩
  case round =>
    obtain ⟨k, hk, rfl⟩ := hrel
    have C := Lib.hid (refPlus a k w ha (by omega))
    by_cases hlt : k < D
    · obtain ⟨x, hx⟩ : ∃ x, x = (a + k) % 65536 := ⟨_, rfl⟩
      have hne : x ≠ b := by omega
      rw [← hx] at C
      clear hx hD
      go_wp2_with (go_at_call 11; refine C.out.mono ?_; rintro e w' ⟨rfl, rfl⟩)
      go_round
      case rel => exact ⟨k + 1, by omega, by go_num⟩
      case measure => simp [intOf] <;> omega
    · have hx : (a + k) % 65536 = b := by omega
      rw [hx] at C
      have hk2 := Lib.hid (show k = D by omega)
      clear hx hD
      go_wp2_with (go_at_call 11; refine C.out.mono ?_; rintro e w' ⟨rfl, rfl⟩)
      go_ret
      exact ⟨ret_int' (by rw [hk2.out]), rfl⟩
end Go.Proofs.Ytboloaglakehkaa
