/-
  Contracts of gf2.Degree and gf2.Add.
-/
import Derived.Test.YtmafkcjlehlebaaProg
import Derived.Test.YtmafkcjlehlebaaPoly
import Derived.WalkKit
import Derived.ProofKit
import Derived.WalkSmall
import Derived.Test.YtmafkcjlehlebaaLen
import Derived.Lib.Hide
namespace Go.Proofs.Ytmafkcjlehlebaa
open Go.RowKit
set_option linter.unusedVariables false
theorem bitLen_bl : ∀ n x : Nat, x < 2 ^ n → n ≤ 64 → Lib.bitLen x = Poly.bl x
  | 0, x, h, _ => by
    have : x = 0 := by simpa using h
    subst this; rfl
  | n + 1, x, h, hn => by
    have hp : 2 ^ (n + 1) ≤ 2 ^ 64 := Nat.pow_le_pow_right (by decide) hn
    by_cases h0 : x = 0
    · subst h0; rfl
    · rw [Lib.bitLen_half x h0 (by omega), bitLen_bl n (x / 2) (by rw [Nat.pow_succ] at h; omega) (by omega)]
      by_cases h1 : x / 2 = 0
      · have : x = 1 := by omega
        subst this; decide
      · have hb := Poly.bl_bounds (x / 2) h1
        have hpos := (Poly.bl_pos (x / 2)).2 h1
        have := Poly.bl_of x (Poly.bl (x / 2) - 1 + 1) (by rw [Nat.pow_succ]; omega) (by rw [Nat.pow_succ]; omega)
        omega
theorem ret_int {k : IntKind} {a b : Int} (h : a = b) : Ending.returned (.int k a) = .returned (.int k b) := by rw [h]
theorem bl64 (a : Nat) (ha : a < 18446744073709551616) : Poly.bl a ≤ 64 := (Poly.bl_le a 64).2 ha
set_option maxHeartbeats 400000 in
/-- gf2.Degree. -/
theorem degree (a : Nat) (w : World) (ha : a < 18446744073709551616) :
    Calls Try.prog 34 #[.int .u64 (a : Int)] w fun e w' => e = .returned (.int .i64 ((Poly.bl a : Int) - 1)) ∧ w = w' := by
  have H := Lib.hid (bitLen_bl 64 a ha (Nat.le_refl _))
  have hb := bl64 a ha
  have hb2 : Lib.bitLen a ≤ 64 := by rw [H.out]; exact hb
  go_enter Try.func34, Try.ntmps34
  go_wp2_with (go_at_call 37; refine (len64 _ _ (by omega) (by omega)).mono ?_; rintro e w' ⟨rfl, rfl⟩)
  go_ret
  exact ⟨by simp [H.out], rfl⟩
set_option maxHeartbeats 400000 in
/-- gf2.Add. -/
theorem add (a b : Nat) (w : World) (ha : a < 18446744073709551616) (hb : b < 18446744073709551616) :
    Calls Try.prog 35 #[.int .u64 (a : Int), .int .u64 (b : Int)] w fun e w' => e = .returned (.int .u64 ((a ^^^ b : Nat) : Int)) ∧ w = w' := by
  go_enter Try.func35, Try.ntmps35
  go_wp2
  go_ret
  exact ⟨ret_int (u64_xor_nat a b ha hb), rfl⟩
/-- The test of one bit, as the walk leaves it. -/
theorem bit_test (a k : Nat) (ha : a < 18446744073709551616) : (bits BinOp.and IntKind.u64 ((a : Int) / 2 ^ k) 1 == 1) = decide (a / 2 ^ k % 2 = 1) := by
  have e : ((a : Int) / 2 ^ k) = ((a / 2 ^ k : Nat) : Int) := by simp
  have hle : a / 2 ^ k ≤ a := Nat.div_le_self _ _
  rw [e, show (1 : Int) = ((1 : Nat) : Int) from rfl, u64_and_nat _ _ (by omega) (by omega), nat_mask1]
  rw [Bool.eq_iff_iff]; simp; omega
end Go.Proofs.Ytmafkcjlehlebaa
