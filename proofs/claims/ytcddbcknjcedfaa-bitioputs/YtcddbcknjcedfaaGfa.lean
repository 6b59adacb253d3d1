/-
  Contracts of layer 3's small functions: math/bits.Len64, gf2.Degree, gf2.Add, and the reference's Degree.
-/
import Derived.Test.YtcddbcknjcedfaaProg
import Derived.Test.YtcddbcknjcedfaaPoly
import Derived.WalkKit
import Derived.ProofKit
import Derived.WalkSmall
import Derived.Test.YtcddbcknjcedfaaLen
import Derived.Lib.Hide
namespace Go.Proofs.Ytcddbcknjcedfaa
open Go.RowKit

theorem bitLen_bl : ∀ n x : Nat, x < 2 ^ n → n ≤ 64 → Lib.bitLen x = Poly.bl x
  | 0, x, h, _ => by
    have : x = 0 := by simpa using h
    subst this; rfl
  | n + 1, x, h, hn => by
    have hp : 2 ^ (n + 1) ≤ 2 ^ 64 := Nat.pow_le_pow_right (by decide) hn
    by_cases h0 : x = 0
    · subst h0; rfl
    · rw [Lib.bitLen_half x h0 (by omega), bitLen_bl n (x / 2) (by rw [Nat.pow_succ] at h; omega) (by omega)]
      by_cases h1 : x / 2 = 0
      · have : x = 1 := by omega
        subst this; decide
      · have hb := Poly.bl_bounds (x / 2) h1
        have hpos := (Poly.bl_pos (x / 2)).2 h1
        have := Poly.bl_of x (Poly.bl (x / 2) - 1 + 1) (by rw [Nat.pow_succ]; omega) (by rw [Nat.pow_succ]; omega)
        omega

theorem ret_int {k : IntKind} {a b : Int} (h : a = b) : Ending.returned (.int k a) = .returned (.int k b) := by rw [h]

theorem bl64 (a : Nat) (ha : a < 18446744073709551616) : Poly.bl a ≤ 64 := (Poly.bl_le a 64).2 ha

set_option maxHeartbeats 400000 in
/-- gf2.Degree. -/
theorem degree (a : Nat) (w : World) (ha : a < 18446744073709551616) :
    Calls Try.prog 42 #[.int .u64 (a : Int)] w fun e w' => e = .returned (.int .i64 ((Poly.bl a : Int) - 1)) ∧ w = w' := by
  have H := Lib.hid (bitLen_bl 64 a ha (Nat.le_refl _))
  have hb := bl64 a ha
  have hb2 : Lib.bitLen a ≤ 64 := by rw [H.out]; exact hb
  go_enter Try.func42, Try.ntmps42
  go_wp2_with (go_at_call 51; refine (len64 _ _ (by omega) (by omega)).mono ?_; rintro e w' ⟨rfl, rfl⟩)
  go_ret
  exact ⟨by simp [H.out], rfl⟩

set_option maxHeartbeats 400000 in
/-- gf2.Add. -/
theorem add (a b : Nat) (w : World) (ha : a < 18446744073709551616) (hb : b < 18446744073709551616) :
    Calls Try.prog 44 #[.int .u64 (a : Int), .int .u64 (b : Int)] w fun e w' => e = .returned (.int .u64 ((a ^^^ b : Nat) : Int)) ∧ w = w' := by
  go_enter Try.func44, Try.ntmps44
  go_wp2
  go_ret
  exact ⟨ret_int (u64_xor_nat a b ha hb), rfl⟩

theorem refDegree_step (a k : Nat) : Poly.bl (a % 2 ^ (k + 1)) = if a / 2 ^ k % 2 = 1 then k + 1 else Poly.bl (a % 2 ^ k) := by
  have h := Nat.mod_pow_succ (b := 2) (x := a) (k := k)
  have h2 := Nat.mod_lt a (Nat.two_pow_pos k)
  split
  · rename_i h1
    rw [h1, Nat.mul_one] at h
    exact Poly.bl_of _ _ (by omega) (by rw [h, Nat.pow_succ]; omega)
  · rename_i h1
    rw [show a / 2 ^ k % 2 = 0 by omega, Nat.mul_zero] at h
    rw [h, Nat.add_zero]

/-- The test of one bit, as the walk leaves it. -/
theorem bit_test (a k : Nat) (ha : a < 18446744073709551616) : (bits BinOp.and IntKind.u64 ((a : Int) / 2 ^ k) 1 == 1) = decide (a / 2 ^ k % 2 = 1) := by
  have e : ((a : Int) / 2 ^ k) = ((a / 2 ^ k : Nat) : Int) := by simp
  have hle : a / 2 ^ k ≤ a := Nat.div_le_self _ _
  rw [e, show (1 : Int) = ((1 : Nat) : Int) from rfl, u64_and_nat _ _ (by omega) (by omega), nat_mask1]
  rw [Bool.eq_iff_iff]; simp; omega

set_option maxHeartbeats 400000 in
/-- The reference's Degree. -/
theorem refDegree (a : Nat) (w : World) (ha : a < 18446744073709551616) :
    Calls Try.prog 43 #[.int .u64 (a : Int)] w fun e w' => e = .returned (.int .i64 ((Poly.bl a : Int) - 1)) ∧ w = w' := by
  have H := Lib.hid (refDegree_step a)
  go_enter Try.func43, Try.ntmps43
  go_wp2
  go_loop [3, 4] (fun d i => ∃ k : Nat, k ≤ 64 ∧ i = .int .i64 k ∧ d = .int .i64 ((Poly.bl (a % 2 ^ k) : Int) - 1)) (fun _ i => 64 - (intOf i).toNat)
  case atStart => exact ⟨0, Nat.zero_le _, rfl, by simp [Nat.mod_one, Poly.bl_zero]⟩
  case round =>
    obtain ⟨k, hk, rfl, rfl⟩ := hrel
    by_cases hlt : k < 64
    · go_wp2
      · go_round
        case rel => 
          rename_i ht
          rw [bit_test a k ha, decide_eq_true_eq] at ht
          exact ⟨k + 1, by omega, by go_num, by rw [H.out, if_pos ht]; simp⟩
        case measure => simp [intOf]; omega
      · go_round
        case rel => 
          rename_i ht
          rw [bit_test a k ha, decide_eq_false_iff_not] at ht
          exact ⟨k + 1, by omega, by go_num, by rw [H.out, if_neg ht]⟩
        case measure => simp [intOf]; omega
    · go_wp2
      go_ret
      refine ⟨ret_int ?_, rfl⟩
      rw [show k = 64 by omega, Nat.mod_eq_of_lt (show a < 2 ^ 64 from ha)]

end Go.Proofs.Ytcddbcknjcedfaa
