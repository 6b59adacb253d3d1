/-
  Contracts of layer 14 (numbers that come round), and of the reference's Plus and Ahead.
-/
import Derived.Test.YtkmacepodomdmaaDoorMem
namespace Go.Proofs.YtkmacepodomdmaaDoor
open Go.RowKit
set_option maxRecDepth 100000
set_option linter.unusedVariables false

theorem wrap_u16 (n : Int) : IntKind.u16.wrap n = n % 65536 := by
  have := IntKind.wrap_u16 n
  exact this
theorem wrap_u32 (n : Int) : IntKind.u32.wrap n = n % 4294967296 := by
  have := IntKind.wrap_u32 n
  exact this
/-- Is one before another one? -/
def bf (a b : Int) : Bool := decide (1 ≤ (b - a) % 65536) && decide ((b - a) % 65536 < 32768)

set_option maxHeartbeats 400000 in
/-- seq.Plus. -/
theorem plusC (a n : Int) (w : World) :
    Calls Tryd.prog 25 #[.int .u16 a, .int .i64 n] w fun e w' => e = .returned (.int .u16 ((a + n) % 65536)) ∧ w = w' := by
  have e1 := wrap_u16 n
  have e2 : IntKind.u16.wrap (a + n % 65536) = (a + n) % 65536 := by rw [wrap_u16]; omega
  go_enter Tryd.func25, Tryd.ntmps25
  go_wp2
  go_ret
  exact ⟨rfl, rfl⟩
set_option maxHeartbeats 400000 in
/-- seq.Ahead. -/
theorem aheadC (a b : Int) (w : World) :
    Calls Tryd.prog 63 #[.int .u16 a, .int .u16 b] w fun e w' => e = .returned (.int .i64 ((b - a) % 65536)) ∧ w = w' := by
  have e1 := wrap_u16 (b - a)
  obtain ⟨x, hx⟩ : ∃ x, x = (b - a) % 65536 := ⟨_, rfl⟩
  have h0 : 0 ≤ x ∧ x < 65536 := by omega
  rw [← hx] at e1 ⊢
  clear hx
  go_enter Tryd.func63, Tryd.ntmps63
  go_wp2
  go_ret
  exact ⟨rfl, rfl⟩
theorem bf_true {a b : Int} (h : 1 ≤ (b - a) % 65536) (h2 : (b - a) % 65536 < 32768) : bf a b = true := by simp [bf, h, h2]
theorem bf_false {a b : Int} (h : (b - a) % 65536 < 1 ∨ 32768 ≤ (b - a) % 65536) : bf a b = false := by
  unfold bf
  rcases h with h | h
  · rw [decide_eq_false (by omega), Bool.false_and]
  · rw [decide_eq_false (p := (b - a) % 65536 < 32768) (by omega), Bool.and_false]
set_option maxHeartbeats 400000 in
/-- seq.Before. -/
theorem beforeC (a b : Int) (w : World) :
    Calls Tryd.prog 111 #[.int .u16 a, .int .u16 b] w fun e w' => e = .returned (.bool (bf a b)) ∧ w = w' := by
  have C := Lib.hid (aheadC a b w)
  obtain ⟨x, hx⟩ : ∃ x, x = (b - a) % 65536 := ⟨_, rfl⟩
  rw [← hx] at C
  have HX := Lib.hid hx
  have h0 : 0 ≤ x ∧ x < 65536 := by omega
  clear hx
  by_cases h1 : 1 ≤ x
  · by_cases h2 : x < 32768
    · go_enter Tryd.func111, Tryd.ntmps111
      go_wp2_with (go_at_call 63; refine C.out.mono ?_; rintro e w' ⟨rfl, rfl⟩)
      go_ret
      exact ⟨ret_bool (bf_true (by rw [← HX.out]; exact h1) (by rw [← HX.out]; exact h2)).symm, rfl⟩
    · go_enter Tryd.func111, Tryd.ntmps111
      go_wp2_with (go_at_call 63; refine C.out.mono ?_; rintro e w' ⟨rfl, rfl⟩)
      go_ret
      exact ⟨ret_bool ((decide_eq_false (by omega)).trans (bf_false (by rw [← HX.out]; omega)).symm), rfl⟩
  · go_enter Tryd.func111, Tryd.ntmps111
    go_wp2_with (go_at_call 63; refine C.out.mono ?_; rintro e w' ⟨rfl, rfl⟩)
    go_ret
    exact ⟨ret_bool (bf_false (by rw [← HX.out]; omega)).symm, rfl⟩
set_option maxHeartbeats 400000 in
/-- seq.Within. -/
theorem withinC (a n b : Int) (w : World) :
    Calls Tryd.prog 147 #[.int .u16 a, .int .i64 n, .int .u16 b] w fun e w' => e = .returned (.bool (decide ((b - a) % 65536 < n))) ∧ w = w' := by
  have C := Lib.hid (aheadC a b w)
  obtain ⟨x, hx⟩ : ∃ x, x = (b - a) % 65536 := ⟨_, rfl⟩
  rw [← hx] at C
  rw [← hx]
  clear hx
  go_enter Tryd.func147, Tryd.ntmps147
  go_wp2_with (go_at_call 63; refine C.out.mono ?_; rintro e w' ⟨rfl, rfl⟩)
  go_ret
  exact ⟨rfl, rfl⟩
end Go.Proofs.YtkmacepodomdmaaDoor
