/-
  Layer 10: stream, Stream, Version, Rate, Places.
-/
import Derived.Test.YtknfpdlomgllhaaPa
import Derived.Test.YtknfpdlomgllhaaMw
namespace Go.Proofs.Ytknfpdlomgllhaa
open Go.RowKit
set_option maxRecDepth 100000
set_option linter.unusedVariables false
set_option linter.unusedSimpArgs false

theorem ret_it {r s : Int} {e : Int} (h : r = s) : Ending.returned (.tuple #[.int .i64 r, .int .i64 e]) = .returned (.tuple #[.int .i64 s, .int .i64 e]) := by rw [h]
set_option maxHeartbeats 400000 in
/-- pattern.stream. -/
theorem patstream (v t : Nat) (w : World) (hv : v < 4) (ht : t ≤ 9223372036854775807) : Calls Try.prog 42 #[.int .i64 (v : Int), .int .i64 (t : Int)] w fun e w' => e = .returned (.int .i64 (Cv.st v t : Nat)) ∧ w = w' := by
  obtain ⟨r, hr⟩ : ∃ r : Nat, r = t % 4 := ⟨_, rfl⟩
  have e1 : (t : Int) % 4 = (r : Int) := by omega
  have hr4 : r < 4 := by omega
  have e2 : ((v : Int) + (r : Int)) % 4 = ((Cv.st v t : Nat) : Int) := by unfold Cv.st; omega
  clear hr
  generalize Cv.st v t = s at *
  go_enter Try.func42, Try.ntmps42
  go_wp2
  go_ret
  exact ⟨ret_int' e2, rfl⟩
set_option maxHeartbeats 400000 in
/-- pattern.Stream. -/
theorem patStream (v t : Nat) (w : World) (hv : v < 4) (ht : t ≤ 9223372036854775807) : Calls Try.prog 35 #[.int .i64 (v : Int), .int .i64 (t : Int)] w fun e w' => e = .returned (.tuple #[.int .i64 (Cv.st v t : Nat), .int .i64 0]) ∧ w = w' := by
  have C := Lib.hid (patstream v t w hv ht)
  have d : decide ((4 : Int) ≤ (v : Int)) = false := by simp <;> omega
  generalize Cv.st v t = s at *
  go_enter Try.func35, Try.ntmps35
  go_wp2_with (go_at_call 42; refine C.out.mono ?_; rintro e w' ⟨rfl, rfl⟩)
  go_ret2
  exact ⟨rfl, rfl⟩
set_option maxHeartbeats 400000 in
theorem patStreamNo (v t : Int) (w : World) (h : v < 0 ∨ 3 < v ∨ t < 0) : Calls Try.prog 35 #[.int .i64 v, .int .i64 t] w fun e w' => e = .returned (.tuple #[.int .i64 0, .int .i64 1]) ∧ w = w' := by
  by_cases h1 : v < 0
  · go_enter Try.func35, Try.ntmps35
    go_wp2
    go_ret2
    exact ⟨rfl, rfl⟩
  · by_cases h2 : 4 ≤ v
    · go_enter Try.func35, Try.ntmps35
      go_wp2
      go_ret2
      exact ⟨rfl, rfl⟩
    · have h3 : t < 0 := by omega
      go_enter Try.func35, Try.ntmps35
      go_wp2
      go_ret2
      exact ⟨rfl, rfl⟩
end Go.Proofs.Ytknfpdlomgllhaa
