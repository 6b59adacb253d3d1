/-
  The first test of layer 14 (numbers come round), and the walks of SeqPlus, SeqAhead, SeqOrder.
-/
import Derived.Test.YtboloaglakehkaaZa
namespace Go.Proofs.Ytboloaglakehkaa
open Go.RowKit
set_option linter.unusedVariables false

set_option maxHeartbeats 400000 in
theorem roundC (w : World) : Calls Try.prog 10 #[] w fun e w' => e = .returned (.bool true) ∧ w = w' := by
  have C1 : Hid (Calls Try.prog 9 #[.int .u16 65535, .int .i64 2] w fun e w' => e = .returned (.int .u16 1) ∧ w = w') := Lib.hid (plusC 65535 2 w)
  have C2 : Hid (Calls Try.prog 14 #[.int .u16 65535, .int .u16 1] w fun e w' => e = .returned (.bool true) ∧ w = w') := Lib.hid (beforeC 65535 1 w)
  have C3 : Hid (Calls Try.prog 14 #[.int .u16 1, .int .u16 65535] w fun e w' => e = .returned (.bool false) ∧ w = w') := Lib.hid (beforeC 1 65535 w)
  go_enter Try.func10, Try.ntmps10
  go_wp2_with (go_at_call 9; refine C1.out.mono ?_; rintro e w' ⟨rfl, rfl⟩)
  refine C2.out.mono ?_; rintro e w' ⟨rfl, rfl⟩
  go_wp2_with fail
  refine C3.out.mono ?_; rintro e w' ⟨rfl, rfl⟩
  go_wp2
  go_ret
  exact ⟨rfl, rfl⟩

set_option maxHeartbeats 400000 in
/-- The walk of SeqPlus. -/
theorem seqPlus (a n : Int) (w : World) (ha : 0 ≤ a ∧ a < 65536) (hn : -9223372036854775808 ≤ n ∧ n ≤ 9223372036854775807) :
    Calls Try.prog 3 #[.int .u16 a, .int .i64 n] w fun e w' => e = .returned (.bool true) ∧ w = w' := by
  have R := Lib.hid (roundC w)
  obtain ⟨x, hx⟩ : ∃ x, x = (a + n) % 65536 := ⟨_, rfl⟩
  obtain ⟨m, hm⟩ : ∃ m, m = IntKind.i64.wrap (0 - n) := ⟨_, rfl⟩
  have hm2 : m = 0 - n ∨ m = n := by
    by_cases h : n = -9223372036854775808
    · right; rw [hm, h]; rfl
    · left; rw [hm]; exact IntWalk.i64_in _ (by omega)
  have C1 := Lib.hid (plusC a n w)
  have C2 := Lib.hid (plusC x m w)
  have C3 := Lib.hid (refPlus a n w ha hn)
  have hb : (x + m) % 65536 = a := by
    rcases hm2 with h | h
    · omega
    · by_cases h3 : n = -9223372036854775808
      · omega
      · have : m = 0 - n := by rw [hm]; exact IntWalk.i64_in _ (by omega)
        omega
  rw [hb] at C2
  rw [← hx] at C1 C3
  have h0 : 0 ≤ x ∧ x < 65536 := by omega
  have e1 : IntKind.i64.wrap (0 - n) = m := hm.symm
  have e2 : IntKind.i64.wrap (-n) = m := by rw [← e1, Int.zero_sub]
  clear hx hm hm2 hb
  go_enter Try.func3, Try.ntmps3
  go_wp2_with fail
  refine C1.out.mono ?_; rintro e w' ⟨rfl, rfl⟩
  go_wp2_with fail
  refine C2.out.mono ?_; rintro e w' ⟨rfl, rfl⟩
  go_wp2_with fail
  refine R.out.mono ?_; rintro e w' ⟨rfl, rfl⟩
  go_wp2_with (go_at_call 11; refine C3.out.mono ?_; rintro e w' ⟨rfl, rfl⟩)
  go_ret
  exact ⟨rfl, rfl⟩

set_option maxHeartbeats 1600000 in
/-- The walk of SeqAhead. -/
theorem seqAhead (a b n : Int) (w : World) (ha : 0 ≤ a ∧ a < 65536) (hb : 0 ≤ b ∧ b < 65536) (hn : -9223372036854775808 ≤ n ∧ n ≤ 9223372036854775807) :
    Calls Try.prog 4 #[.int .u16 a, .int .u16 b, .int .i64 n] w fun e w' => e = .returned (.bool true) ∧ w = w' := by
  have R := Lib.hid (roundC w)
  obtain ⟨x, hx⟩ : ∃ x, x = (b - a) % 65536 := ⟨_, rfl⟩
  obtain ⟨y, hy⟩ : ∃ y, y = (a - b) % 65536 := ⟨_, rfl⟩
  have C1 := Lib.hid (aheadC a b w)
  have C2 := Lib.hid (refAhead a b w ha hb)
  have C3 := Lib.hid (aheadC b a w)
  have C4 := Lib.hid (beforeC a b w)
  have C5 := Lib.hid (withinC a n b w)
  have C6 := Lib.hid (beforeC b a w)
  rw [← hx] at C1 C2 C5
  rw [← hy] at C3
  have h0 : 0 ≤ x ∧ x < 65536 := by omega
  have h1 : 0 ≤ y ∧ y < 65536 := by omega
  obtain ⟨p, hp⟩ : ∃ p, p = bf a b := ⟨_, rfl⟩
  obtain ⟨q, hq⟩ : ∃ q, q = bf b a := ⟨_, rfl⟩
  have hp2 : p = (decide (1 ≤ x) && decide (x ≤ 32767)) := by
    rw [hp, hx]; unfold bf
    congr 1
    simp only [decide_eq_decide]; omega
  have hq2 : q = (decide (1 ≤ y) && decide (y ≤ 32767)) := by
    rw [hq, hy]; unfold bf
    congr 1
    simp only [decide_eq_decide]; omega
  rw [← hp] at C4
  rw [← hq] at C6
  have hxy : (x = 0 ∧ y = 0) ∨ (x ≠ 0 ∧ x + y = 65536) := by omega
  clear hx hy hp hq
  by_cases hs : x < n
  · have HS := Lib.hid hs
    rw [decide_eq_true hs] at C5
    by_cases hz : x = 0
    · have hy0 : y = 0 := by omega
      subst hz; subst hy0
      obtain rfl : p = false := hp2
      obtain rfl : q = false := hq2
      (try clear hp2); (try clear hq2); (try clear hxy)
      go_enter Try.func4, Try.ntmps4
      go_wp2_with fail
      refine C1.out.mono ?_; rintro e w' ⟨rfl, rfl⟩
      go_wp2_with fail
      refine C2.out.mono ?_; rintro e w' ⟨rfl, rfl⟩
      go_wp2_with fail
      refine C3.out.mono ?_; rintro e w' ⟨rfl, rfl⟩
      go_wp2_with fail
      refine R.out.mono ?_; rintro e w' ⟨rfl, rfl⟩
      go_wp2_with fail
      refine C4.out.mono ?_; rintro e w' ⟨rfl, rfl⟩
      go_wp2_with fail
      refine C5.out.mono ?_; rintro e w' ⟨rfl, rfl⟩
      go_wp2_with fail
      refine C6.out.mono ?_; rintro e w' ⟨rfl, rfl⟩
      go_wp2
      go_ret
      exact ⟨rfl, rfl⟩
    · have hxy2 : x + y = 65536 := by omega
      have hz1 : 1 ≤ x := by omega
      clear hz
      by_cases h5 : x ≤ 32767
      · obtain rfl : p = true := by rw [hp2, decide_eq_true (by omega), decide_eq_true (by omega)]; rfl
        obtain rfl : q = false := by rw [hq2, decide_eq_false (p := y ≤ 32767) (by omega), Bool.and_false]
        (try clear hp2); (try clear hq2); (try clear hxy)
        go_enter Try.func4, Try.ntmps4
        go_wp2_with fail
        refine C1.out.mono ?_; rintro e w' ⟨rfl, rfl⟩
        go_wp2_with fail
        refine C2.out.mono ?_; rintro e w' ⟨rfl, rfl⟩
        go_wp2_with fail
        refine C3.out.mono ?_; rintro e w' ⟨rfl, rfl⟩
        go_wp2_with fail
        refine R.out.mono ?_; rintro e w' ⟨rfl, rfl⟩
        go_wp2_with fail
        refine C4.out.mono ?_; rintro e w' ⟨rfl, rfl⟩
        go_wp2_with fail
        refine C5.out.mono ?_; rintro e w' ⟨rfl, rfl⟩
        go_wp2_with fail
        refine C4.out.mono ?_; rintro e w' ⟨rfl, rfl⟩
        go_wp2_with fail
        refine C6.out.mono ?_; rintro e w' ⟨rfl, rfl⟩
        go_wp2
        go_ret
        exact ⟨rfl, rfl⟩
      · by_cases h6 : x = 32768
        · obtain rfl : y = 32768 := by omega
          subst h6
          obtain rfl : p = false := hp2
          (try clear hp2); (try clear hq2); (try clear hxy)
          go_enter Try.func4, Try.ntmps4
          go_wp2_with fail
          refine C1.out.mono ?_; rintro e w' ⟨rfl, rfl⟩
          go_wp2_with fail
          refine C2.out.mono ?_; rintro e w' ⟨rfl, rfl⟩
          go_wp2_with fail
          refine C3.out.mono ?_; rintro e w' ⟨rfl, rfl⟩
          go_wp2_with fail
          refine R.out.mono ?_; rintro e w' ⟨rfl, rfl⟩
          go_wp2_with fail
          refine C4.out.mono ?_; rintro e w' ⟨rfl, rfl⟩
          go_wp2_with fail
          refine C5.out.mono ?_; rintro e w' ⟨rfl, rfl⟩
          go_wp2
          go_ret
          exact ⟨rfl, rfl⟩
        · obtain rfl : p = false := by rw [hp2, decide_eq_false (p := x ≤ 32767) (by omega), Bool.and_false]
          obtain rfl : q = true := by rw [hq2, decide_eq_true (by omega), decide_eq_true (by omega)]; rfl
          (try clear hp2); (try clear hq2); (try clear hxy)
          go_enter Try.func4, Try.ntmps4
          go_wp2_with fail
          refine C1.out.mono ?_; rintro e w' ⟨rfl, rfl⟩
          go_wp2_with fail
          refine C2.out.mono ?_; rintro e w' ⟨rfl, rfl⟩
          go_wp2_with fail
          refine C3.out.mono ?_; rintro e w' ⟨rfl, rfl⟩
          go_wp2_with fail
          refine R.out.mono ?_; rintro e w' ⟨rfl, rfl⟩
          go_wp2_with fail
          refine C4.out.mono ?_; rintro e w' ⟨rfl, rfl⟩
          go_wp2_with fail
          refine C5.out.mono ?_; rintro e w' ⟨rfl, rfl⟩
          go_wp2_with fail
          refine C4.out.mono ?_; rintro e w' ⟨rfl, rfl⟩
          go_wp2_with fail
          refine C6.out.mono ?_; rintro e w' ⟨rfl, rfl⟩
          go_wp2
          go_ret
          exact ⟨rfl, rfl⟩
  · have HS := Lib.hid hs
    rw [decide_eq_false (p := x < n) (by omega)] at C5
    by_cases hz : x = 0
    · have hy0 : y = 0 := by omega
      subst hz; subst hy0
      obtain rfl : p = false := hp2
      obtain rfl : q = false := hq2
      (try clear hp2); (try clear hq2); (try clear hxy)
      go_enter Try.func4, Try.ntmps4
      go_wp2_with fail
      refine C1.out.mono ?_; rintro e w' ⟨rfl, rfl⟩
      go_wp2_with fail
      refine C2.out.mono ?_; rintro e w' ⟨rfl, rfl⟩
      go_wp2_with fail
      refine C3.out.mono ?_; rintro e w' ⟨rfl, rfl⟩
      go_wp2_with fail
      refine R.out.mono ?_; rintro e w' ⟨rfl, rfl⟩
      go_wp2_with fail
      refine C4.out.mono ?_; rintro e w' ⟨rfl, rfl⟩
      go_wp2_with fail
      refine C5.out.mono ?_; rintro e w' ⟨rfl, rfl⟩
      go_wp2_with fail
      refine C6.out.mono ?_; rintro e w' ⟨rfl, rfl⟩
      go_wp2
      go_ret
      exact ⟨rfl, rfl⟩
    · have hxy2 : x + y = 65536 := by omega
      have hz1 : 1 ≤ x := by omega
      clear hz
      by_cases h5 : x ≤ 32767
      · obtain rfl : p = true := by rw [hp2, decide_eq_true (by omega), decide_eq_true (by omega)]; rfl
        obtain rfl : q = false := by rw [hq2, decide_eq_false (p := y ≤ 32767) (by omega), Bool.and_false]
        (try clear hp2); (try clear hq2); (try clear hxy)
        go_enter Try.func4, Try.ntmps4
        go_wp2_with fail
        refine C1.out.mono ?_; rintro e w' ⟨rfl, rfl⟩
        go_wp2_with fail
        refine C2.out.mono ?_; rintro e w' ⟨rfl, rfl⟩
        go_wp2_with fail
        refine C3.out.mono ?_; rintro e w' ⟨rfl, rfl⟩
        go_wp2_with fail
        refine R.out.mono ?_; rintro e w' ⟨rfl, rfl⟩
        go_wp2_with fail
        refine C4.out.mono ?_; rintro e w' ⟨rfl, rfl⟩
        go_wp2_with fail
        refine C5.out.mono ?_; rintro e w' ⟨rfl, rfl⟩
        go_wp2_with fail
        refine C4.out.mono ?_; rintro e w' ⟨rfl, rfl⟩
        go_wp2_with fail
        refine C6.out.mono ?_; rintro e w' ⟨rfl, rfl⟩
        go_wp2
        go_ret
        exact ⟨rfl, rfl⟩
      · by_cases h6 : x = 32768
        · obtain rfl : y = 32768 := by omega
          subst h6
          obtain rfl : p = false := hp2
          (try clear hp2); (try clear hq2); (try clear hxy)
          go_enter Try.func4, Try.ntmps4
          go_wp2_with fail
          refine C1.out.mono ?_; rintro e w' ⟨rfl, rfl⟩
          go_wp2_with fail
          refine C2.out.mono ?_; rintro e w' ⟨rfl, rfl⟩
          go_wp2_with fail
          refine C3.out.mono ?_; rintro e w' ⟨rfl, rfl⟩
          go_wp2_with fail
          refine R.out.mono ?_; rintro e w' ⟨rfl, rfl⟩
          go_wp2_with fail
          refine C4.out.mono ?_; rintro e w' ⟨rfl, rfl⟩
          go_wp2_with fail
          refine C5.out.mono ?_; rintro e w' ⟨rfl, rfl⟩
          go_wp2
          go_ret
          exact ⟨rfl, rfl⟩
        · obtain rfl : p = false := by rw [hp2, decide_eq_false (p := x ≤ 32767) (by omega), Bool.and_false]
          obtain rfl : q = true := by rw [hq2, decide_eq_true (by omega), decide_eq_true (by omega)]; rfl
          (try clear hp2); (try clear hq2); (try clear hxy)
          go_enter Try.func4, Try.ntmps4
          go_wp2_with fail
          refine C1.out.mono ?_; rintro e w' ⟨rfl, rfl⟩
          go_wp2_with fail
          refine C2.out.mono ?_; rintro e w' ⟨rfl, rfl⟩
          go_wp2_with fail
          refine C3.out.mono ?_; rintro e w' ⟨rfl, rfl⟩
          go_wp2_with fail
          refine R.out.mono ?_; rintro e w' ⟨rfl, rfl⟩
          go_wp2_with fail
          refine C4.out.mono ?_; rintro e w' ⟨rfl, rfl⟩
          go_wp2_with fail
          refine C5.out.mono ?_; rintro e w' ⟨rfl, rfl⟩
          go_wp2_with fail
          refine C4.out.mono ?_; rintro e w' ⟨rfl, rfl⟩
          go_wp2_with fail
          refine C6.out.mono ?_; rintro e w' ⟨rfl, rfl⟩
          go_wp2
          go_ret
          exact ⟨rfl, rfl⟩

set_option maxHeartbeats 800000 in
/-- The walk of SeqOrder. -/
theorem seqOrder (a n m : Int) (w : World) (ha : 0 ≤ a ∧ a < 65536) :
    Calls Try.prog 5 #[.int .u16 a, .int .i64 n, .int .i64 m] w fun e w' => e = .returned (.bool true) ∧ w = w' := by
  have R := Lib.hid (roundC w)
  obtain ⟨u, hu, hu2⟩ := wrap_u64 n
  obtain ⟨v, hv, hv2⟩ := wrap_u64 m
  obtain ⟨r, hr⟩ : ∃ r : Nat, r = u % 30000 := ⟨_, rfl⟩
  obtain ⟨s, hs⟩ : ∃ s : Nat, s = v % 2767 := ⟨_, rfl⟩
  have hr1 : r < 30000 := by omega
  have hs1 : s < 2767 := by omega
  have e1 : (u : Int) % 30000 = (r : Int) := by omega
  have e2 : (v : Int) % 2767 = (s : Int) := by omega
  obtain ⟨y, hy⟩ : ∃ y, y = (a + (1 + (r : Int))) % 65536 := ⟨_, rfl⟩
  obtain ⟨z, hz⟩ : ∃ z, z = (y + (1 + (s : Int))) % 65536 := ⟨_, rfl⟩
  have C1 := Lib.hid (plusC a (1 + (r : Int)) w)
  have C2 := Lib.hid (plusC y (1 + (s : Int)) w)
  have C3 := Lib.hid (beforeC a y w)
  have C4 := Lib.hid (beforeC y z w)
  have C5 := Lib.hid (beforeC a z w)
  have C6 := Lib.hid (beforeC z a w)
  have C7 := Lib.hid (aheadC a z w)
  rw [bf_true (by omega) (by omega)] at C3 C4 C5
  rw [bf_false (by omega)] at C6
  rw [show (z - a) % 65536 = 1 + (r : Int) + (1 + (s : Int)) by omega] at C7
  rw [← hy] at C1
  rw [← hz] at C2
  clear hr hs hy hz
  go_enter Try.func5, Try.ntmps5
  go_wp2_with fail
  refine C1.out.mono ?_; rintro e w' ⟨rfl, rfl⟩
  go_wp2_with fail
  refine C2.out.mono ?_; rintro e w' ⟨rfl, rfl⟩
  go_wp2_with fail
  refine R.out.mono ?_; rintro e w' ⟨rfl, rfl⟩
  go_wp2_with fail
  refine C3.out.mono ?_; rintro e w' ⟨rfl, rfl⟩
  go_wp2_with fail
  refine C4.out.mono ?_; rintro e w' ⟨rfl, rfl⟩
  go_wp2_with fail
  refine C5.out.mono ?_; rintro e w' ⟨rfl, rfl⟩
  go_wp2_with fail
  refine C6.out.mono ?_; rintro e w' ⟨rfl, rfl⟩
  go_wp2_with fail
  refine C7.out.mono ?_; rintro e w' ⟨rfl, rfl⟩
  go_wp2
  go_ret
  exact ⟨rfl, rfl⟩
end Go.Proofs.Ytboloaglakehkaa
