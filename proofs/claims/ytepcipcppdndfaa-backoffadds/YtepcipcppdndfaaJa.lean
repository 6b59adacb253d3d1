/-
  Layer 20 (how long a try is waited for): Wait, Total, the reference's, the first test, and the walks of BackoffWaits, BackoffTotals, BackoffAdds.
-/
import Derived.Test.YtepcipcppdndfaaMem
namespace Go.Proofs.Ytepcipcppdndfaa
open Go.RowKit
set_option linter.unusedVariables false

/-- The wait behind so many tries. -/
def wt (t : Int) : Int := if t ≤ 1 then 2 else if t = 2 then 4 else if t = 3 then 8 else 16
/-- All waits of so many tries. -/
def tot (t : Int) : Int := if t ≤ 0 then 0 else if t = 1 then 2 else if t = 2 then 6 else 16 * t - 34
theorem tot_step (t : Int) (h : 1 ≤ t) : tot t = tot (t - 1) + wt t := by
  unfold tot wt
  repeat' split
  all_goals omega
theorem wt_mono (t : Int) : wt (t - 1) ≤ wt t := by
  unfold wt
  repeat' split
  all_goals omega
theorem wt_le (t : Int) : 2 ≤ wt t ∧ wt t ≤ 16 := by
  unfold wt
  repeat' split
  all_goals omega
theorem tot_le (t : Int) (h : 0 ≤ t) : 0 ≤ tot t ∧ tot t ≤ 16 * t := by
  unfold tot
  repeat' split
  all_goals omega
theorem ret_w {x y : Int} (h : x = y) : Ending.returned (.tuple #[.int .i64 x, .int .i64 0]) = .returned (.tuple #[.int .i64 y, .int .i64 0]) := by rw [h]

set_option maxHeartbeats 400000 in
theorem longerC (x y : Int) (w : World) (h : 0 ≤ x ∧ x ≤ 16) (hy : y = if x ≤ 8 then 2 * x else 16) :
    Calls Try.prog 44 #[.int .i64 x] w fun e w' => e = .returned (.int .i64 y) ∧ w = w' := by
  have e1 : min (2 * x) 16 = y := by rw [hy]; split <;> omega
  have e2 : (if (16 : Int) < 2 * x then (16 : Int) else 2 * x) = y := by rw [hy]; (repeat' split); all_goals omega
  clear hy
  go_enter Try.func44, Try.ntmps44
  go_wp2
  go_ret
  exact ⟨ret_int' (by first | exact e1 | exact e2 | omega), rfl⟩

set_option maxHeartbeats 800000 in
theorem waitC (T y : Int) (w : World) (h : 1 ≤ T ∧ T ≤ 9223372036854775807) (hy : y = wt T) :
    Calls Try.prog 25 #[.int .i64 T] w fun e w' => e = .returned (.tuple #[.int .i64 y, .int .i64 0]) ∧ w = w' := by
  have L1 := Lib.hid (longerC 2 4 w (by omega) (by decide))
  have L2 := Lib.hid (longerC 4 8 w (by omega) (by decide))
  have L3 := Lib.hid (longerC 8 16 w (by omega) (by decide))
  have HY := Lib.hid hy
  clear hy
  go_enter Try.func25, Try.ntmps25
  go_wp2
  go_loop [0, 4] (fun t v => (t = .int .i64 T ∧ v = .int .i64 2) ∨ (t = .int .i64 (T - 1) ∧ v = .int .i64 4 ∧ 1 < T) ∨ (t = .int .i64 (T - 2) ∧ v = .int .i64 8 ∧ 2 < T) ∨ (t = .int .i64 (T - 3) ∧ v = .int .i64 16 ∧ 3 < T)) (fun _ v => (16 - intOf v).toNat)
  case atStart => exact .inl ⟨rfl, rfl⟩
  case round =>
    rcases hrel with ⟨rfl, rfl⟩ | ⟨rfl, rfl, hT⟩ | ⟨rfl, rfl, hT⟩ | ⟨rfl, rfl, hT⟩
    · by_cases hg : 1 < T
      · go_wp2_with (go_at_call 44; refine L1.out.mono ?_; rintro e w' ⟨rfl, rfl⟩)
        go_round
        case rel => exact .inr (.inl ⟨by go_num, rfl, by omega⟩)
        case measure => simp [intOf]
      · go_wp2
        go_ret2
        exact ⟨ret_w (by rw [HY.out]; unfold wt; (repeat' split); all_goals omega), rfl⟩
    · by_cases hg : 2 < T
      · go_wp2_with (go_at_call 44; refine L2.out.mono ?_; rintro e w' ⟨rfl, rfl⟩)
        go_round
        case rel => exact .inr (.inr (.inl ⟨by go_num, rfl, by omega⟩))
        case measure => simp [intOf]
      · go_wp2
        go_ret2
        exact ⟨ret_w (by rw [HY.out]; unfold wt; (repeat' split); all_goals omega), rfl⟩
    · by_cases hg : 3 < T
      · go_wp2_with (go_at_call 44; refine L3.out.mono ?_; rintro e w' ⟨rfl, rfl⟩)
        go_round
        case rel => exact .inr (.inr (.inr ⟨by go_num, rfl, by omega⟩))
        case measure => simp [intOf]
      · go_wp2
        go_ret2
        exact ⟨ret_w (by rw [HY.out]; unfold wt; (repeat' split); all_goals omega), rfl⟩
    · by_cases hg : 4 < T
      · go_wp2
        go_ret2
        exact ⟨ret_w (by rw [HY.out]; unfold wt; (repeat' split); all_goals omega), rfl⟩
      · go_wp2
        go_ret2
        exact ⟨ret_w (by rw [HY.out]; unfold wt; (repeat' split); all_goals omega), rfl⟩

set_option maxHeartbeats 400000 in
theorem waitNo (T : Int) (w : World) (h : T < 1) :
    Calls Try.prog 25 #[.int .i64 T] w fun e w' => e = .returned (.tuple #[.int .i64 0, .int .i64 1]) ∧ w = w' := by
  go_enter Try.func25, Try.ntmps25
  go_wp2
  go_ret2
  exact ⟨rfl, rfl⟩

set_option maxHeartbeats 800000 in
theorem totalC (T y : Int) (w : World) (h : 0 ≤ T ∧ T ≤ 1000000) (hy : y = tot T) :
    Calls Try.prog 28 #[.int .i64 T] w fun e w' => e = .returned (.tuple #[.int .i64 y, .int .i64 0]) ∧ w = w' := by
  have L1 := Lib.hid (longerC 2 4 w (by omega) (by decide))
  have L2 := Lib.hid (longerC 4 8 w (by omega) (by decide))
  have L3 := Lib.hid (longerC 8 16 w (by omega) (by decide))
  have HY := Lib.hid hy
  clear hy
  go_enter Try.func28, Try.ntmps28
  go_wp2
  go_loop [0, 4, 5] (fun t u v => (t = .int .i64 T ∧ u = .int .i64 0 ∧ v = .int .i64 2) ∨ (t = .int .i64 (T - 1) ∧ u = .int .i64 2 ∧ v = .int .i64 4 ∧ 0 < T) ∨ (t = .int .i64 (T - 2) ∧ u = .int .i64 6 ∧ v = .int .i64 8 ∧ 1 < T) ∨ (t = .int .i64 (T - 3) ∧ u = .int .i64 14 ∧ v = .int .i64 16 ∧ 2 < T)) (fun _ _ v => (16 - intOf v).toNat)
  case atStart => exact .inl ⟨rfl, rfl, rfl⟩
  case round =>
    rcases hrel with ⟨rfl, rfl, rfl⟩ | ⟨rfl, rfl, rfl, hT⟩ | ⟨rfl, rfl, rfl, hT⟩ | ⟨rfl, rfl, rfl, hT⟩
    · by_cases hg : 0 < T
      · go_wp2_with (go_at_call 44; refine L1.out.mono ?_; rintro e w' ⟨rfl, rfl⟩)
        go_round
        case rel => exact .inr (.inl ⟨by go_num, rfl, rfl, by omega⟩)
        case measure => simp [intOf]
      · go_wp2
        go_ret2
        exact ⟨ret_w (by rw [HY.out]; unfold tot; (repeat' split); all_goals omega), rfl⟩
    · by_cases hg : 1 < T
      · go_wp2_with (go_at_call 44; refine L2.out.mono ?_; rintro e w' ⟨rfl, rfl⟩)
        go_round
        case rel => exact .inr (.inr (.inl ⟨by go_num, rfl, rfl, by omega⟩))
        case measure => simp [intOf]
      · go_wp2
        go_ret2
        exact ⟨ret_w (by rw [HY.out]; unfold tot; (repeat' split); all_goals omega), rfl⟩
    · by_cases hg : 2 < T
      · go_wp2_with (go_at_call 44; refine L3.out.mono ?_; rintro e w' ⟨rfl, rfl⟩)
        go_round
        case rel => exact .inr (.inr (.inr ⟨by go_num, rfl, rfl, by omega⟩))
        case measure => simp [intOf]
      · go_wp2
        go_ret2
        exact ⟨ret_w (by rw [HY.out]; unfold tot; (repeat' split); all_goals omega), rfl⟩
    · by_cases hg : 3 < T
      · go_wp2
        go_ret2
        exact ⟨ret_w (by rw [HY.out]; unfold tot; (repeat' split); all_goals omega), rfl⟩
      · go_wp2
        go_ret2
        exact ⟨ret_w (by rw [HY.out]; unfold tot; (repeat' split); all_goals omega), rfl⟩

set_option maxHeartbeats 400000 in
theorem totalNo (T : Int) (w : World) (h : T < 0 ∨ 1000000 < T) :
    Calls Try.prog 28 #[.int .i64 T] w fun e w' => e = .returned (.tuple #[.int .i64 0, .int .i64 1]) ∧ w = w' := by
  rcases h with h | h
  · go_enter Try.func28, Try.ntmps28
    go_wp2
    go_ret2
    exact ⟨rfl, rfl⟩
  · go_enter Try.func28, Try.ntmps28
    go_wp2
    go_ret2
    exact ⟨rfl, rfl⟩

set_option maxHeartbeats 800000 in
theorem refWait (T y : Int) (w : World) (h : 1 ≤ T ∧ T ≤ 9223372036854775807) (hy : y = wt T) :
    Calls Try.prog 27 #[.int .i64 T] w fun e w' => e = .returned (.int .i64 y) ∧ w = w' := by
  have HY := Lib.hid hy
  clear hy
  go_enter Try.func27, Try.ntmps27
  go_wp2
  go_loop [3, 4] (fun v i => (i = .int .i64 1 ∧ v = .int .i64 2) ∨ (i = .int .i64 2 ∧ v = .int .i64 4 ∧ 1 < T) ∨ (i = .int .i64 3 ∧ v = .int .i64 8 ∧ 2 < T) ∨ (i = .int .i64 4 ∧ v = .int .i64 16 ∧ 3 < T)) (fun v _ => (16 - intOf v).toNat)
  case atStart => exact .inl ⟨rfl, rfl⟩
  case round =>
    rcases hrel with ⟨rfl, rfl⟩ | ⟨rfl, rfl, hT⟩ | ⟨rfl, rfl, hT⟩ | ⟨rfl, rfl, hT⟩
    · by_cases hg : 1 < T
      · go_wp2
        go_round
        case rel => exact .inr (.inl ⟨rfl, rfl, by omega⟩)
        case measure => simp [intOf]
      · go_wp2
        go_ret
        exact ⟨ret_int' (by rw [HY.out]; unfold wt; (repeat' split); all_goals omega), rfl⟩
    · by_cases hg : 2 < T
      · go_wp2
        go_round
        case rel => exact .inr (.inr (.inl ⟨rfl, rfl, by omega⟩))
        case measure => simp [intOf]
      · go_wp2
        go_ret
        exact ⟨ret_int' (by rw [HY.out]; unfold wt; (repeat' split); all_goals omega), rfl⟩
    · by_cases hg : 3 < T
      · go_wp2
        go_round
        case rel => exact .inr (.inr (.inr ⟨rfl, rfl, by omega⟩))
        case measure => simp [intOf]
      · go_wp2
        go_ret
        exact ⟨ret_int' (by rw [HY.out]; unfold wt; (repeat' split); all_goals omega), rfl⟩
    · by_cases hg : 4 < T
      · go_wp2
        go_ret
        exact ⟨ret_int' (by rw [HY.out]; unfold wt; (repeat' split); all_goals omega), rfl⟩
      · go_wp2
        go_ret
        exact ⟨ret_int' (by rw [HY.out]; unfold wt; (repeat' split); all_goals omega), rfl⟩

set_option maxHeartbeats 800000 in
theorem refTotal (T y : Int) (w : World) (h : 0 ≤ T ∧ T ≤ 2000) (hy : y = tot T) :
    Calls Try.prog 29 #[.int .i64 T] w fun e w' => e = .returned (.int .i64 y) ∧ w = w' := by
  have HY := Lib.hid hy
  clear hy
  go_enter Try.func29, Try.ntmps29
  go_wp2
  go_loop [3, 4] (fun v i => ∃ k x : Int, 1 ≤ k ∧ k ≤ T + 1 ∧ Hid (x = tot (k - 1)) ∧ i = .int .i64 k ∧ v = .int .i64 x) (fun _ i => (T + 1 - intOf i).toNat)
  case atStart => exact ⟨1, 0, by omega, by omega, Lib.hid (by decide), rfl, rfl⟩
  case round =>
    obtain ⟨k, x, hk1, hk2, hx, rfl, rfl⟩ := hrel
    have hx2 : 0 ≤ x ∧ x ≤ 40000 := by have := tot_le (k - 1) (by omega); rw [hx.out]; omega
    by_cases hg : k ≤ T
    · obtain ⟨z, hz⟩ : ∃ z, z = wt k := ⟨_, rfl⟩
      have C := Lib.hid (refWait k z w (by omega) hz)
      have hz2 : 2 ≤ z ∧ z ≤ 16 := by rw [hz]; exact wt_le k
      have HZ := Lib.hid hz
      clear hz
      go_wp2_with (go_at_call 27; refine C.out.mono ?_; rintro e w' ⟨rfl, rfl⟩)
      go_round
      case rel => exact ⟨k + 1, x + z, by omega, by omega, Lib.hid (by rw [show k + 1 - 1 = k by omega, tot_step k hk1, ← hx.out, ← HZ.out]), by go_num, by go_num⟩
      case measure => simp [intOf] <;> omega
    · go_wp2
      go_ret
      exact ⟨ret_int' (by rw [HY.out, hx.out, show k - 1 = T by omega]), rfl⟩

set_option maxHeartbeats 400000 in
theorem waitsC (w : World) : Calls Try.prog 26 #[] w fun e w' => e = .returned (.bool true) ∧ w = w' := by
  have C1 := Lib.hid (waitC 3 8 w (by omega) (by decide))
  have C2 := Lib.hid (totalC 3 14 w (by omega) (by decide))
  go_enter Try.func26, Try.ntmps26
  go_wp2_with fail
  refine C1.out.mono ?_; rintro e w' ⟨rfl, rfl⟩
  go_wp2_with fail
  refine C2.out.mono ?_; rintro e w' ⟨rfl, rfl⟩
  go_wp2
  go_ret
  exact ⟨rfl, rfl⟩

set_option maxHeartbeats 800000 in
/-- The walk of BackoffWaits. -/
theorem backoffWaits (T : Int) (w : World) (h : -9223372036854775808 ≤ T ∧ T ≤ 9223372036854775807) :
    Calls Try.prog 6 #[.int .i64 T] w fun e w' => e = .returned (.bool true) ∧ w = w' := by
  have R := Lib.hid (waitsC w)
  by_cases h1 : T < 1
  · have C := Lib.hid (waitNo T w h1)
    go_enter Try.func6, Try.ntmps6
    go_wp2_with fail
    refine C.out.mono ?_; rintro e w' ⟨rfl, rfl⟩
    go_wp2_with fail
    refine R.out.mono ?_; rintro e w' ⟨rfl, rfl⟩
    go_wp2
    go_ret
    exact ⟨rfl, rfl⟩
  · obtain ⟨n, hn⟩ : ∃ n, n = wt T := ⟨_, rfl⟩
    obtain ⟨p, hp⟩ : ∃ p, p = (if T - 1 ≤ 1 then 1 else T - 1) := ⟨_, rfl⟩
    have hp2 : 1 ≤ p ∧ p ≤ 9223372036854775807 := by rw [hp]; split <;> omega
    have e1 : max (T - 1) 1 = p := by rw [hp]; split <;> omega
    have e2 : (if T - 1 < 1 then 1 else T - 1) = p := by rw [hp]; (repeat' split); all_goals omega
    obtain ⟨m, hm⟩ : ∃ m, m = wt p := ⟨_, rfl⟩
    have hmn : m ≤ n := by
      rw [hm, hn, hp]
      split
      · exact (by decide : wt 1 = 2) ▸ (wt_le T).1
      · exact wt_mono T
    have hn2 : 2 ≤ n ∧ n ≤ 16 := by rw [hn]; exact wt_le T
    have C1 := Lib.hid (waitC T n w (by omega) hn)
    have C2 := Lib.hid (waitC p m w hp2 hm)
    have C3 := Lib.hid (refWait T n w (by omega) hn)
    clear hn hm hp
    go_enter Try.func6, Try.ntmps6
    go_wp2_with fail
    refine C1.out.mono ?_; rintro e w' ⟨rfl, rfl⟩
    go_wp2_with fail
    refine R.out.mono ?_; rintro e w' ⟨rfl, rfl⟩
    go_wp2_with fail
    (try rw [e1]); (try rw [e2])
    refine C2.out.mono ?_; rintro e w' ⟨rfl, rfl⟩
    go_wp2_with fail
    refine C3.out.mono ?_; rintro e w' ⟨rfl, rfl⟩
    go_wp2
    go_ret
    exact ⟨rfl, rfl⟩

set_option maxHeartbeats 800000 in
/-- The walk of BackoffTotals. -/
theorem backoffTotals (T : Int) (w : World) (h : -9223372036854775808 ≤ T ∧ T ≤ 9223372036854775807) :
    Calls Try.prog 7 #[.int .i64 T] w fun e w' => e = .returned (.bool true) ∧ w = w' := by
  have R := Lib.hid (waitsC w)
  by_cases h0 : T < 0
  · have C := Lib.hid (totalNo T w (.inl h0))
    go_enter Try.func7, Try.ntmps7
    go_wp2_with fail
    refine C.out.mono ?_; rintro e w' ⟨rfl, rfl⟩
    go_wp2_with fail
    refine R.out.mono ?_; rintro e w' ⟨rfl, rfl⟩
    go_wp2
    go_ret
    exact ⟨rfl, rfl⟩
  · by_cases h1 : 1000000 < T
    · have C := Lib.hid (totalNo T w (.inr h1))
      go_enter Try.func7, Try.ntmps7
      go_wp2_with fail
      refine C.out.mono ?_; rintro e w' ⟨rfl, rfl⟩
      go_wp2_with fail
      refine R.out.mono ?_; rintro e w' ⟨rfl, rfl⟩
      go_wp2
      go_ret
      exact ⟨rfl, rfl⟩
    · obtain ⟨n, hn⟩ : ∃ n, n = tot T := ⟨_, rfl⟩
      have C1 := Lib.hid (totalC T n w (by omega) hn)
      have hn2 : 0 ≤ n ∧ n ≤ 16 * T := by rw [hn]; exact tot_le T (by omega)
      by_cases h2 : 2000 < T
      · obtain ⟨m, hm⟩ : ∃ m, m = tot (T - 1) := ⟨_, rfl⟩
        have C2 := Lib.hid (totalC (T - 1) m w (by omega) hm)
        have hm2 : n = m + 16 := by rw [hn, hm, tot_step T (by omega)]; unfold wt; (repeat' split); all_goals omega
        clear hn hm
        subst hm2
        go_enter Try.func7, Try.ntmps7
        go_wp2_with fail
        refine C1.out.mono ?_; rintro e w' ⟨rfl, rfl⟩
        go_wp2_with fail
        refine R.out.mono ?_; rintro e w' ⟨rfl, rfl⟩
        go_wp2_with fail
        refine C2.out.mono ?_; rintro e w' ⟨rfl, rfl⟩
        go_wp2
        go_ret
        exact ⟨rfl, rfl⟩
      · have C2 := Lib.hid (refTotal T n w (by omega) hn)
        clear hn
        go_enter Try.func7, Try.ntmps7
        go_wp2_with fail
        refine C1.out.mono ?_; rintro e w' ⟨rfl, rfl⟩
        go_wp2_with fail
        refine R.out.mono ?_; rintro e w' ⟨rfl, rfl⟩
        go_wp2_with fail
        refine C2.out.mono ?_; rintro e w' ⟨rfl, rfl⟩
        go_wp2
        go_ret
        exact ⟨rfl, rfl⟩

set_option maxHeartbeats 800000 in
/-- The walk of BackoffAdds. -/
theorem backoffAdds (T : Int) (w : World) :
    Calls Try.prog 8 #[.int .i64 T] w fun e w' => e = .returned (.bool true) ∧ w = w' := by
  have R := Lib.hid (waitsC w)
  obtain ⟨u, hu, hu2⟩ := wrap_u64 T
  obtain ⟨r, hr⟩ : ∃ r : Nat, r = u % 1000000 := ⟨_, rfl⟩
  have hr1 : r < 1000000 := by omega
  have e1 : (u : Int) % 1000000 = (r : Int) := by omega
  obtain ⟨c, hc⟩ : ∃ c, c = wt (1 + (r : Int)) := ⟨_, rfl⟩
  obtain ⟨b, hb⟩ : ∃ b, b = tot (r : Int) := ⟨_, rfl⟩
  have C1 := Lib.hid (totalC (1 + (r : Int)) (b + c) w (by omega) (by rw [tot_step _ (by omega), show 1 + (r : Int) - 1 = r by omega, hb, hc]))
  have C2 := Lib.hid (totalC (r : Int) b w (by omega) hb)
  have C3 := Lib.hid (waitC (1 + (r : Int)) c w (by omega) hc)
  have hb2 : 0 ≤ b ∧ b ≤ 16000000 := by have := tot_le (r : Int) (by omega); rw [hb]; omega
  have hc2 : 2 ≤ c ∧ c ≤ 16 := by rw [hc]; exact wt_le _
  clear hr hc hb
  go_enter Try.func8, Try.ntmps8
  go_wp2_with fail
  refine C1.out.mono ?_; rintro e w' ⟨rfl, rfl⟩
  go_wp2_with fail
  rw [show 1 + (r : Int) - 1 = r by omega]
  refine C2.out.mono ?_; rintro e w' ⟨rfl, rfl⟩
  go_wp2_with fail
  refine C3.out.mono ?_; rintro e w' ⟨rfl, rfl⟩
  go_wp2_with fail
  refine R.out.mono ?_; rintro e w' ⟨rfl, rfl⟩
  go_wp2
  go_ret
  exact ⟨rfl, rfl⟩
end Go.Proofs.Ytepcipcppdndfaa
