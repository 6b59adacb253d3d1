/-
  Contracts of layer 1's Right, Weight, Apart and of the reference's Right, Apart, Few.
-/
import Derived.Test.YtcddbcknjcedfaaMem
import Derived.Test.YtcddbcknjcedfaaBn
import Derived.BigQuiet
import Derived.Deep.QuietTactic
namespace Go.Proofs.Ytcddbcknjcedfaa
open Go.RowKit
set_option linter.unusedVariables false

theorem ret_bool {a b : Bool} (h : a = b) : Ending.returned (.bool a) = .returned (.bool b) := by rw [h]
theorem ret_int' {k : IntKind} {a b : Int} (h : a = b) : Ending.returned (.int k a) = .returned (.int k b) := by rw [h]
theorem ret2' {k : IntKind} {x y : Int} {c : Bool} (h : x = y) : Ending.returned (.tuple #[.int k x, .bool c]) = .returned (.tuple #[.int k y, .bool c]) := by rw [h]

set_option maxHeartbeats 400000 in
/-- bits.Right. -/
theorem right (A : Option Addr) (n c : Nat) (bs : List Nat) (w : World) (hr : Rd w w.heap.size A n (U8 bs)) (hb : ∀ b ∈ bs, b < 256) (hn : n ≤ 65536) :
    Calls Try.prog 20 #[.slice A n c] w fun e w' => e = .returned (.bool (Bm.isB bs)) ∧ w = w' := by
  have HN := Lib.hid hr.len8
  go_enter Try.func20, Try.ntmps20
  go_wp2
  go_loop [7] (fun i => ∃ k : Nat, k ≤ n ∧ i = .int .i64 k ∧ Hid (∀ j, j < k → bs.getD j 0 ≤ 1)) (fun i => n - (intOf i).toNat)
  case atStart => exact ⟨0, Nat.zero_le _, rfl, fun j h => absurd h (by omega)⟩
  case round =>
    obtain ⟨k, hk, rfl, HA⟩ := hrel
    by_cases hlt : k < n
    · obtain ⟨b, off, rfl, hlt2, hcell⟩ := hr.cell8 k hlt
      have hx := Bm.byte_lt bs hb k
      obtain ⟨x, hxe⟩ : ∃ x, x = bs.getD k 0 := ⟨_, rfl⟩
      rw [← hxe] at hx hcell
      have HX := Lib.hid hxe
      clear hxe
      by_cases h1 : 1 < x
      · go_wp2
        go_ret
        exact ⟨ret_bool (Bm.isB_false k (by rw [← HN.out]; exact hlt) (by rw [← HX.out]; exact h1)).symm, rfl⟩
      · go_wp2
        go_round
        case rel => exact ⟨k + 1, by omega, by go_num, fun j hj => by
          by_cases hjk : j = k
          · subst hjk; rw [← HX.out]; omega
          · exact HA.out j (by omega)⟩
        case measure => simp [intOf] <;> omega
    · go_wp2
      go_ret
      refine ⟨ret_bool (Bm.isB_of_getD fun i hi => HA.out i ?_).symm, rfl⟩
      rw [← HN.out] at hi; omega

set_option maxHeartbeats 400000 in
/-- The reference's Right. -/
theorem refRight (A : Option Addr) (n c : Nat) (bs : List Nat) (w : World) (hr : Rd w w.heap.size A n (U8 bs)) (hb : ∀ b ∈ bs, b < 256) (hn : n ≤ 65536) :
    Calls Try.prog 21 #[.slice A n c] w fun e w' => e = .returned (.bool (Bm.isB bs)) ∧ w = w' := by
  have HN := Lib.hid hr.len8
  go_enter Try.func21, Try.ntmps21
  go_wp2
  go_loop [3] (fun i => ∃ k : Nat, k ≤ n ∧ i = .int .i64 k ∧ Hid (∀ j, j < k → bs.getD j 0 ≤ 1)) (fun i => n - (intOf i).toNat)
  case atStart => exact ⟨0, Nat.zero_le _, rfl, fun j h => absurd h (by omega)⟩
  case round =>
    obtain ⟨k, hk, rfl, HA⟩ := hrel
    by_cases hlt : k < n
    · obtain ⟨b, off, rfl, hlt2, hcell⟩ := hr.cell8 k hlt
      have hx := Bm.byte_lt bs hb k
      obtain ⟨x, hxe⟩ : ∃ x, x = bs.getD k 0 := ⟨_, rfl⟩
      rw [← hxe] at hx hcell
      have HX := Lib.hid hxe
      clear hxe
      by_cases h1 : 1 < x
      · go_wp2
        go_ret
        exact ⟨ret_bool (Bm.isB_false k (by rw [← HN.out]; exact hlt) (by rw [← HX.out]; exact h1)).symm, rfl⟩
      · go_wp2
        go_round
        case rel => exact ⟨k + 1, by omega, by go_num, fun j hj => by
          by_cases hjk : j = k
          · subst hjk; rw [← HX.out]; omega
          · exact HA.out j (by omega)⟩
        case measure => simp [intOf] <;> omega
    · go_wp2
      go_ret
      refine ⟨ret_bool (Bm.isB_of_getD fun i hi => HA.out i ?_).symm, rfl⟩
      rw [← HN.out] at hi; omega

set_option maxHeartbeats 400000 in
/-- bits.Weight. -/
theorem weight (A : Option Addr) (n c : Nat) (bs : List Nat) (w : World) (hr : Rd w w.heap.size A n (U8 bs)) (hb : ∀ b ∈ bs, b < 256) (hn : n ≤ 65536) :
    Calls Try.prog 22 #[.slice A n c] w fun e w' => e = .returned (.int .i64 (Bm.wt bs : Nat)) ∧ w = w' := by
  have HN := Lib.hid hr.len8
  go_enter Try.func22, Try.ntmps22
  go_wp2
  go_loop [3, 8] (fun s i => ∃ k m : Nat, k ≤ n ∧ m ≤ k ∧ i = .int .i64 k ∧ s = .int .i64 m ∧ Hid (m = Bm.cnt (fun i => bs.getD i 0 != 0) k)) (fun _ i => n - (intOf i).toNat)
  case atStart => exact ⟨0, 0, Nat.zero_le _, Nat.zero_le _, rfl, rfl, rfl⟩
  case round =>
    obtain ⟨k, m, hk, hmk, rfl, rfl, HA⟩ := hrel
    by_cases hlt : k < n
    · obtain ⟨b, off, rfl, hlt2, hcell⟩ := hr.cell8 k hlt
      have hx := Bm.byte_lt bs hb k
      obtain ⟨x, hxe⟩ : ∃ x, x = bs.getD k 0 := ⟨_, rfl⟩
      rw [← hxe] at hx hcell
      have HX := Lib.hid hxe
      clear hxe
      by_cases h1 : x = 0
      · have t : ((x : Int) != 0) = false := by simp [h1]
        have HZ := Lib.hid h1
        clear h1
        go_wp2
        go_round
        case rel => exact ⟨k + 1, m, by omega, by omega, by go_num, rfl, by
          unfold Hid Bm.cnt; rw [← HX.out, HZ.out, ← HA.out]; simp⟩
        case measure => simp [intOf] <;> omega
      · have t : ((x : Int) != 0) = true := by simp [h1]
        go_wp2
        go_round
        case rel => exact ⟨k + 1, m + 1, by omega, by omega, by go_num, by go_num, by
          unfold Hid Bm.cnt; rw [← HX.out, ← HA.out]; simp [h1]⟩
        case measure => simp [intOf] <;> omega
    · go_wp2
      go_ret
      refine ⟨ret_int' ?_, rfl⟩
      unfold Bm.wt
      rw [HA.out, ← HN.out, show k = n by omega]

set_option maxHeartbeats 400000 in
/-- bits.Apart, lists of one length. -/
theorem apart (A A2 : Option Addr) (n c c2 : Nat) (xs bs : List Nat) (w : World) (hra : Rd w w.heap.size A n (U8 xs)) (hrb : Rd w w.heap.size A2 n (U8 bs)) (ha : ∀ b ∈ xs, b < 256) (hb : ∀ b ∈ bs, b < 256) (hn : n ≤ 65536) :
    Calls Try.prog 24 #[.slice A n c, .slice A2 n c2] w fun e w' => e = .returned (.tuple #[.int .i64 (Bm.ap xs bs : Nat), .bool true]) ∧ ∃ m, w' = w.drewN m := by
  have HN := Lib.hid hra.len8
  have t0 : ((n : Int) != (n : Int)) = false := by simp
  go_enter Try.func24, Try.ntmps24
  go_wp2
  go_loopw [6, 15] (fun s i wr => ∃ k m q : Nat, k ≤ n ∧ m ≤ k ∧ i = .int .i64 k ∧ s = .int .i64 m ∧ Hid (m = Bm.cnt (fun i => xs.getD i 0 != bs.getD i 0) k) ∧ wr = w.drewN q) (fun _ i _ => n - (intOf i).toNat)
  case atStart => exact ⟨0, 0, 0, Nat.zero_le _, Nat.zero_le _, rfl, rfl, rfl, rfl⟩
  case round =>
    obtain ⟨k, m, q, hk, hmk, rfl, rfl, HA, rfl⟩ := hrel
    by_cases hlt : k < n
    · obtain ⟨b, off, rfl, hlt2, hcell⟩ := hra.cell8 k hlt
      obtain ⟨b', off', rfl, hlt3, hcell2⟩ := hrb.cell8 k hlt
      have hx := Bm.byte_lt xs ha k
      have hy := Bm.byte_lt bs hb k
      obtain ⟨x, hxe⟩ : ∃ x, x = xs.getD k 0 := ⟨_, rfl⟩
      obtain ⟨y, hye⟩ : ∃ y, y = bs.getD k 0 := ⟨_, rfl⟩
      rw [← hxe] at hx hcell
      rw [← hye] at hy hcell2
      have HX := Lib.hid hxe
      have HY := Lib.hid hye
      clear hxe hye
      by_cases h1 : x = y
      · have t : ((x : Int) != (y : Int)) = false := by simp [h1]
        have HZ := Lib.hid h1
        clear h1
        go_wp2_with fail
        go_quiet (fail)
        go_wp2
        go_roundw
        case rel => exact ⟨k + 1, m, _, by omega, by omega, by go_num, rfl, by
          unfold Hid Bm.cnt; rw [← HX.out, ← HY.out, HZ.out, ← HA.out]; simp, rfl⟩
        case measure => simp [intOf] <;> omega
      · have t : ((x : Int) != (y : Int)) = true := by simp; omega
        go_wp2_with fail
        go_quiet (fail)
        go_wp2
        go_roundw
        case rel => exact ⟨k + 1, m + 1, _, by omega, by omega, by go_num, by go_num, by
          unfold Hid Bm.cnt; rw [← HX.out, ← HY.out, ← HA.out]; simp [h1], rfl⟩
        case measure => simp [intOf] <;> omega
    · go_wp2
      go_ret2
      refine ⟨ret2' ?_, q, rfl⟩
      unfold Bm.ap
      rw [HA.out, ← HN.out, show k = n by omega]

set_option maxHeartbeats 400000 in
/-- bits.Apart, lists of unlike lengths. -/
theorem apart_ne (A A2 : Option Addr) (n n2 c c2 : Nat) (w : World) (h : n ≠ n2) :
    Calls Try.prog 24 #[.slice A n c, .slice A2 n2 c2] w fun e w' => e = .returned (.tuple #[.int .i64 0, .bool false]) ∧ w = w' := by
  have t0 : ((n : Int) != (n2 : Int)) = true := by simp; omega
  go_enter Try.func24, Try.ntmps24
  go_wp2
  go_ret2
  exact ⟨rfl, rfl⟩

set_option maxHeartbeats 400000 in
/-- The reference's Apart, lists of one length. -/
theorem refApart (A A2 : Option Addr) (n c c2 : Nat) (xs bs : List Nat) (w : World) (hra : Rd w w.heap.size A n (U8 xs)) (hrb : Rd w w.heap.size A2 n (U8 bs)) (ha : ∀ b ∈ xs, b < 256) (hb : ∀ b ∈ bs, b < 256) (hn : n ≤ 65536) :
    Calls Try.prog 26 #[.slice A n c, .slice A2 n c2] w fun e w' => e = .returned (.int .i64 (Bm.ap xs bs : Nat)) ∧ ∃ m, w' = w.drewN m := by
  have HN := Lib.hid hra.len8
  go_enter Try.func26, Try.ntmps26
  go_wp2
  go_loopw [5, 6] (fun s i wr => ∃ k m q : Nat, k ≤ n ∧ m ≤ k ∧ i = .int .i64 k ∧ s = .int .i64 m ∧ Hid (m = Bm.cnt (fun i => xs.getD i 0 != bs.getD i 0) k) ∧ wr = w.drewN q) (fun _ i _ => n - (intOf i).toNat)
  case atStart => exact ⟨0, 0, 0, Nat.zero_le _, Nat.zero_le _, rfl, rfl, rfl, rfl⟩
  case round =>
    obtain ⟨k, m, q, hk, hmk, rfl, rfl, HA, rfl⟩ := hrel
    by_cases hlt : k < n
    · obtain ⟨b, off, rfl, hlt2, hcell⟩ := hra.cell8 k hlt
      obtain ⟨b', off', rfl, hlt3, hcell2⟩ := hrb.cell8 k hlt
      have hx := Bm.byte_lt xs ha k
      have hy := Bm.byte_lt bs hb k
      obtain ⟨x, hxe⟩ : ∃ x, x = xs.getD k 0 := ⟨_, rfl⟩
      obtain ⟨y, hye⟩ : ∃ y, y = bs.getD k 0 := ⟨_, rfl⟩
      rw [← hxe] at hx hcell
      rw [← hye] at hy hcell2
      have HX := Lib.hid hxe
      have HY := Lib.hid hye
      clear hxe hye
      by_cases h1 : x = y
      · have t : ((x : Int) != (y : Int)) = false := by simp [h1]
        have HZ := Lib.hid h1
        clear h1
        go_wp2_with fail
        go_quiet (fail)
        go_wp2
        go_roundw
        case rel => exact ⟨k + 1, m, _, by omega, by omega, by go_num, rfl, by
          unfold Hid Bm.cnt; rw [← HX.out, ← HY.out, HZ.out, ← HA.out]; simp, rfl⟩
        case measure => simp [intOf] <;> omega
      · have t : ((x : Int) != (y : Int)) = true := by simp; omega
        go_wp2_with fail
        go_quiet (fail)
        go_wp2
        go_roundw
        case rel => exact ⟨k + 1, m + 1, _, by omega, by omega, by go_num, by go_num, by
          unfold Hid Bm.cnt; rw [← HX.out, ← HY.out, ← HA.out]; simp [h1], rfl⟩
        case measure => simp [intOf] <;> omega
    · go_wp2
      go_ret
      refine ⟨ret_int' ?_, q, rfl⟩
      unfold Bm.ap
      rw [HA.out, ← HN.out, show k = n by omega]

theorem rem_u8 (x : Nat) : ((x : Int) % 2) = ((x % 2 : Nat) : Int) := by omega

set_option maxHeartbeats 1000000 in
/-- The reference's Few. -/
theorem fewC (A : Option Addr) (n c most : Nat) (bs : List Nat) (w : World) (hr : Rd w w.heap.size A n (U8 bs)) (hb : ∀ b ∈ bs, b < 256) (hn : most ≤ 65536) (hn2 : n ≤ 9223372036854775807) :
    Calls Try.prog 27 #[.slice A n c, .int .i64 (most : Int)] w (Made w (Bm.few bs most)) := by
  have HN := Lib.hid hr.len8
  go_enter Try.func27, Try.ntmps27
  go_wp2
  go_loopw [5, 6] (fun l i wr => ∃ k : Nat, k ≤ n ∧ k ≤ most ∧ i = .int .i64 k ∧ ∃ A1 c1, l = .slice A1 k c1 ∧ Own wr w.heap.size 5 A1 k c1 (U8 (Bm.few bs k)) ∧ Below w.heap.size w wr) (fun _ i _ => n - (intOf i).toNat)
  case atStart => exact ⟨0, Nat.zero_le _, Nat.zero_le _, rfl, none, 0, rfl, by rw [Bm.few_zero]; exact Own.nil _ _ _, Below.refl _ _⟩
  case round =>
    obtain ⟨k, hk, hkm, rfl, A1, c1, rfl, hown, hbel⟩ := hrel
    have hsz := hbel.size
    by_cases hlt : k < n
    · by_cases hlt1 : k < most
      · obtain ⟨b, off, rfl, hlt2, hcell⟩ := (hr.below hbel).cell8 k hlt
        have hx := Bm.byte_lt bs hb k
        have HT := Lib.hid (Bm.few_take bs k (by rw [← HN.out]; exact hlt))
        obtain ⟨x, hxe⟩ : ∃ x, x = bs.getD k 0 := ⟨_, rfl⟩
        rw [← hxe] at hx hcell HT
        clear hxe
        have t1 : decide ((k : Int) < (n : Int)) = true := by simp; omega
        have t2 : decide ((k : Int) < (most : Int)) = true := by simp; omega
        go_wp2_with (at_builtin; refine app8 _ rfl _ _ rfl w.heap.size _ _ _ _ (x % 2) _ (rem_u8 x) rfl hown rfl (by omega) hsz ?_; intro A3 c3 w3 hown3 hgrow3)
        go_roundw
        case rel =>
          exact ⟨k + 1, by omega, by omega, by go_num, A3, c3, rfl, by rw [HT.out]; exact hown3, hbel.grown hgrow3 hsz (fun j hj => (hown.block j hj).1)⟩
        case measure => simp [intOf] <;> omega
      · have t1 : decide ((k : Int) < (n : Int)) = true := by simp; omega
        have t2 : decide ((k : Int) < (most : Int)) = false := by simp; omega
        go_wp2
        go_ret
        refine ⟨A1, k, c1, rfl, ?_, hbel⟩
        rw [show most = k by omega]; exact hown
    · have t1 : decide ((k : Int) < (n : Int)) = false := by simp; omega
      go_wp2
      go_ret
      refine ⟨A1, k, c1, rfl, hown.to rfl ?_, hbel⟩
      have e : Bm.few bs most = Bm.few bs k := by
        unfold Bm.few
        rw [List.take_of_length_le (by rw [← HN.out]; omega), List.take_of_length_le (by rw [← HN.out]; omega)]
      rw [e]

end Go.Proofs.Ytcddbcknjcedfaa
