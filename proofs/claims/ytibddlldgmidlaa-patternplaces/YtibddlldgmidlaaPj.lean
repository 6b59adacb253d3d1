/-
  Layer 10: Rate.
-/
import Derived.Test.YtibddlldgmidlaaPi
namespace Go.Proofs.Ytibddlldgmidlaa
open Go.RowKit
set_option linter.unusedVariables false
set_option linter.unusedSimpArgs false

/-- How many of the first four bits are 1. -/
def pc4 (n : Nat) : Nat := n % 2 + n / 2 % 2 + n / 4 % 2 + n / 8 % 2
set_option maxHeartbeats 1000000 in
/-- math/bits.OnesCount64 of what is below 16. -/
theorem ones64 (n : Nat) (w : World) (hn : n < 16) : Calls Try.prog 27 #[.int .u64 (n : Int)] w fun e w' => e = .returned (.int .i64 (pc4 n : Nat)) ∧ w = w' := by
  have h : n = 0 ∨ n = 1 ∨ n = 2 ∨ n = 3 ∨ n = 4 ∨ n = 5 ∨ n = 6 ∨ n = 7 ∨ n = 8 ∨ n = 9 ∨ n = 10 ∨ n = 11 ∨ n = 12 ∨ n = 13 ∨ n = 14 ∨ n = 15 := by omega
  rcases h with rfl | rfl | rfl | rfl | rfl | rfl | rfl | rfl | rfl | rfl | rfl | rfl | rfl | rfl | rfl | rfl
  all_goals
    go_enter Try.func27, Try.ntmps27
    go_wp2
    go_ret
    exact ⟨ret_int' (by decide +kernel), rfl⟩
set_option maxHeartbeats 400000 in
/-- pattern.Rate. -/
theorem patRate (n : Nat) (w : World) (hn : n < 16) : Calls Try.prog 10 #[.int .i64 (n : Int)] w fun e w' => e = .returned (.tuple #[.int .i64 (pc4 n : Nat), .int .i64 0]) ∧ w = w' := by
  have C := Lib.hid (ones64 n w hn)
  have d : decide ((16 : Int) ≤ (n : Int)) = false := by simp <;> omega
  have C2 : Hid (Calls Try.prog 21 #[.int .u64 (n : Int)] w fun e w' => e = .returned (.int .i64 (pc4 n : Nat)) ∧ w = w') := by
    unfold Hid
    go_enter Try.func21, Try.ntmps21
    go_wp2_with (go_at_call 27; refine C.out.mono ?_; rintro e w' ⟨rfl, rfl⟩)
    go_ret
    exact ⟨rfl, rfl⟩
  generalize pc4 n = s at *
  go_enter Try.func10, Try.ntmps10
  go_wp2_with (go_at_call 21; refine C2.out.mono ?_; rintro e w' ⟨rfl, rfl⟩)
  go_ret2
  exact ⟨rfl, rfl⟩
set_option maxHeartbeats 400000 in
theorem patRateNo (z : Int) (w : World) (h : z < 0 ∨ 15 < z) : Calls Try.prog 10 #[.int .i64 z] w fun e w' => e = .returned (.tuple #[.int .i64 0, .int .i64 1]) ∧ w = w' := by
  by_cases h1 : z < 0
  · go_enter Try.func10, Try.ntmps10
    go_wp2
    go_ret2
    exact ⟨rfl, rfl⟩
  · have h2 : 16 ≤ z := by omega
    go_enter Try.func10, Try.ntmps10
    go_wp2
    go_ret2
    exact ⟨rfl, rfl⟩
end Go.Proofs.Ytibddlldgmidlaa
