/-
  Contracts of layer 2's reference: Take, Pad, Put.
-/
import Derived.Test.YtcddbcknjcedfaaRa
namespace Go.Proofs.Ytcddbcknjcedfaa
open Go.RowKit
set_option linter.unusedVariables false
set_option linter.unusedSimpArgs false

set_option maxHeartbeats 400000 in
theorem refTakeArg (A : Option Addr) (n c : Nat) (width : Int) (w : World) (h : width < 1 ∨ 32 < width) : Calls Try.prog 37 #[.slice A n c, .int .i64 width] w fun e w' => e = .returned (.tuple #[.int .i64 0, .int .i64 0, .int .i64 1]) ∧ w = w' := by
  by_cases h1 : width < 1
  · have t1 : decide (width < 1) = true := by simp [h1]
    go_enter Try.func37, Try.ntmps37
    go_wp2
    go_ret3
    exact ⟨rfl, rfl⟩
  · have t1 : decide (width < 1) = false := by simp; omega
    have t2 : decide (32 < width) = true := by simp; omega
    go_enter Try.func37, Try.ntmps37
    go_wp2
    go_ret3
    exact ⟨rfl, rfl⟩
set_option maxHeartbeats 400000 in
theorem refTakeShort (A : Option Addr) (n c wd : Nat) (w : World) (h1 : 1 ≤ wd) (h2 : wd ≤ 32) (h : n < wd) : Calls Try.prog 37 #[.slice A n c, .int .i64 (wd : Int)] w fun e w' => e = .returned (.tuple #[.int .i64 0, .int .i64 0, .int .i64 2]) ∧ w = w' := by
  have t1 : decide ((wd : Int) < 1) = false := by simp; omega
  have t2 : decide (32 < (wd : Int)) = false := by simp; omega
  go_enter Try.func37, Try.ntmps37
  go_wp2
  go_ret3
  exact ⟨rfl, rfl⟩

theorem ret3i {k : IntKind} {x y z u : Int} (h : x = y) : Ending.returned (.tuple #[.int k x, .int k z, .int k u]) = .returned (.tuple #[.int k y, .int k z, .int k u]) := by rw [h]

set_option maxHeartbeats 1000000 in
theorem refTakeOk (A : Option Addr) (n c wd : Nat) (bs : List Nat) (w : World) (hr : Rd w w.heap.size A n (U8 bs)) (hbit : ∀ x ∈ bs, x ≤ 1) (h1 : 1 ≤ wd) (h2 : wd ≤ 32) (h : wd ≤ n) :
    Calls Try.prog 37 #[.slice A n c, .int .i64 (wd : Int)] w fun e w' => e = .returned (.tuple #[.int .i64 (num (bs.take wd) : Nat), .int .i64 (wd : Int), .int .i64 0]) ∧ w = w' := by
  have t1 : decide ((wd : Int) < 1) = false := by simp; omega
  have t2 : decide (32 < (wd : Int)) = false := by simp; omega
  have HN := Lib.hid hr.len8
  go_enter Try.func37, Try.ntmps37
  go_wp2
  go_loop [7, 8] (fun s i => ∃ k y : Nat, k ≤ wd ∧ i = .int .i64 k ∧ s = .int .i64 (y : Int) ∧ y < 4294967296 ∧ Hid (y = num (bs.take k))) (fun _ i => wd - (intOf i).toNat)
  case atStart => exact ⟨0, 0, Nat.zero_le _, rfl, rfl, by omega, rfl⟩
  case round =>
    obtain ⟨k, y, hk, rfl, rfl, hy, HY⟩ := hrel
    by_cases hlt : k < wd
    · obtain ⟨b, off, rfl, hlt2, hcell2⟩ := hr.cell8 k (by omega)
      have hkl : k < bs.length := by rw [← HN.out]; omega
      have hx := Bm.bit_le bs hbit k
      have hs : num (bs.take (k + 1)) = 2 * y + bs.getD k 0 := by rw [List.take_succ_eq_append_getElem hkl, num_snoc, ← HY.out, Bm.getD_lt _ _ _ hkl]
      have hl2 := num_lt (bs.take (k + 1)) (fun x h => hbit x (List.mem_of_mem_take h))
      rw [List.length_take] at hl2
      have hp : 2 ^ (min (k + 1) bs.length) ≤ 2 ^ 32 := Nat.pow_le_pow_right (by decide) (by omega)
      obtain ⟨x, hxe⟩ : ∃ x, x = bs.getD k 0 := ⟨_, rfl⟩
      rw [← hxe] at hcell2 hx hs
      have hy2 : 2 * y + x < 4294967296 := by omega
      have HS := Lib.hid hs
      clear hxe hs hl2 hp hkl
      go_wp2
      go_round
      case rel => exact ⟨k + 1, 2 * y + x, by omega, by go_num, by go_num, hy2, HS.out.symm⟩
      case measure => simp [intOf] <;> omega
    · have hkw : k = wd := by omega
      subst hkw
      go_wp2
      go_ret3
      exact ⟨ret3i (by rw [HY.out]), rfl⟩

theorem wt_pos (bs : List Nat) (i : Nat) (hi : i < bs.length) (h : bs.getD i 0 ≠ 0) : Bm.wt bs ≠ 0 := by
  unfold Bm.wt
  have hc : ∀ k, i < k → Bm.cnt (fun i => bs.getD i 0 != 0) k ≠ 0 := by
    intro k
    induction k with
    | zero => intro hh; omega
    | succ k ih =>
      intro hh
      unfold Bm.cnt
      by_cases e : i = k
      · subst e
        have : (bs.getD i 0 != 0) = true := bne_iff_ne.2 h
        rw [this]; simp
      · have := ih (by omega)
        omega
  exact hc _ hi
theorem wt_zero (bs : List Nat) (h : ∀ i, i < bs.length → bs.getD i 0 = 0) : Bm.wt bs = 0 := by
  unfold Bm.wt
  have hc : ∀ k, k ≤ bs.length → Bm.cnt (fun i => bs.getD i 0 != 0) k = 0 := by
    intro k
    induction k with
    | zero => intro _; rfl
    | succ k ih =>
      intro hk
      unfold Bm.cnt
      rw [ih (by omega), h k (by omega)]; rfl
  exact hc _ (Nat.le_refl _)

set_option maxHeartbeats 400000 in
theorem refPad (A : Option Addr) (n c : Nat) (bs : List Nat) (w : World) (hr : Rd w w.heap.size A n (U8 bs)) (hb : ∀ b ∈ bs, b < 256) (hn : n ≤ 65536) :
    Calls Try.prog 38 #[.slice A n c] w fun e w' => e = .returned (.int .i64 (padE bs : Nat)) ∧ w = w' := by
  have HN := Lib.hid hr.len8
  have hl := hr.len8
  by_cases h8 : 8 ≤ n
  · have e : padE bs = 3 := by unfold padE; rw [if_pos (by omega)]
    rw [e]
    clear e hl
    go_enter Try.func38, Try.ntmps38
    go_wp2
    go_ret
    exact ⟨rfl, rfl⟩
  · have e : padE bs = if Bm.wt bs = 0 then 0 else 5 := by unfold padE; rw [if_neg (by omega)]
    have E := Lib.hid e
    clear e hl
    go_enter Try.func38, Try.ntmps38
    go_wp2
    go_loop [3] (fun i => ∃ k : Nat, k ≤ n ∧ i = .int .i64 k ∧ Hid (∀ j, j < k → bs.getD j 0 = 0)) (fun i => n - (intOf i).toNat)
    case atStart => exact ⟨0, Nat.zero_le _, rfl, fun j h => absurd h (by omega)⟩
    case round =>
      obtain ⟨k, hk, rfl, HA⟩ := hrel
      by_cases hlt : k < n
      · obtain ⟨b, off, rfl, hlt2, hcell⟩ := hr.cell8 k hlt
        have hx := Bm.byte_lt bs hb k
        obtain ⟨x, hxe⟩ : ∃ x, x = bs.getD k 0 := ⟨_, rfl⟩
        rw [← hxe] at hx hcell
        have HX := Lib.hid hxe
        clear hxe
        by_cases h1 : x = 0
        · have t : ((x : Int) != 0) = false := by simp [h1]
          have HZ := Lib.hid h1
          clear h1
          go_wp2
          go_round
          case rel => exact ⟨k + 1, by omega, by go_num, fun j hj => by
            by_cases hjk : j = k
            · subst hjk; rw [← HX.out]; exact HZ.out
            · exact HA.out j (by omega)⟩
          case measure => simp [intOf] <;> omega
        · have t : ((x : Int) != 0) = true := by simp [h1]
          go_wp2
          go_ret
          refine ⟨ret_int ?_, rfl⟩
          rw [E.out, if_neg (wt_pos bs k (by rw [← HN.out]; exact hlt) (by rw [← HX.out]; exact h1))]; rfl
      · go_wp2
        go_ret
        refine ⟨ret_int ?_, rfl⟩
        rw [E.out, if_pos (wt_zero bs fun i hi => HA.out i (by rw [← HN.out] at hi; omega))]; rfl

set_option maxHeartbeats 400000 in
theorem refPutArg (n width : Int) (w : World) (h : width < 1 ∨ 32 < width) : Calls Try.prog 32 #[.int .i64 n, .int .i64 width] w fun e w' => e = .returned (.tuple #[.slice none 0 0, .int .i64 1]) ∧ w = w' := by
  by_cases h1 : width < 1
  · have t1 : decide (width < 1) = true := by simp [h1]
    go_enter Try.func32, Try.ntmps32
    go_wp2
    go_ret2
    exact ⟨rfl, rfl⟩
  · have t1 : decide (width < 1) = false := by simp; omega
    have t2 : decide (32 < width) = true := by simp; omega
    go_enter Try.func32, Try.ntmps32
    go_wp2
    go_ret2
    exact ⟨rfl, rfl⟩

theorem pow32 (wd : Nat) (h2 : wd ≤ 32) : ∃ P : Nat, P = 2 ^ wd ∧ (2 : Int) ^ wd = (P : Int) ∧ 0 < P ∧ P ≤ 4294967296 :=
  ⟨2 ^ wd, rfl, by simp, Nat.two_pow_pos _, Nat.pow_le_pow_right (n := 2) (j := 32) (by decide) h2⟩

set_option maxHeartbeats 400000 in
theorem refPutField (n : Int) (wd : Nat) (w : World) (h1 : 1 ≤ wd) (h2 : wd ≤ 32) (h : n < 0 ∨ 2 ^ wd ≤ n) : Calls Try.prog 32 #[.int .i64 n, .int .i64 (wd : Int)] w fun e w' => e = .returned (.tuple #[.slice none 0 0, .int .i64 5]) ∧ w = w' := by
  have t1 : decide ((wd : Int) < 1) = false := by simp; omega
  have t2 : decide (32 < (wd : Int)) = false := by simp; omega
  obtain ⟨P, hP, eP, hp1, hp2⟩ := pow32 wd h2
  rw [eP] at h
  clear hP
  by_cases hn : n < 0
  · have t3 : decide (n < 0) = true := by simp [hn]
    go_enter Try.func32, Try.ntmps32
    go_wp2
    go_ret2
    exact ⟨rfl, rfl⟩
  · have t3 : decide (n < 0) = false := by simp; omega
    have t4 : decide ((P : Int) ≤ n) = true := by simp; omega
    go_enter Try.func32, Try.ntmps32
    go_wp2
    go_ret2
    exact ⟨rfl, rfl⟩

theorem half_bit' (a k : Nat) : ((a : Int) / 2 ^ k) % 2 = ((a / 2 ^ k % 2 : Nat) : Int) := by simp

set_option maxHeartbeats 1000000 in
theorem refPutOk (N wd : Nat) (w : World) (h1 : 1 ≤ wd) (h2 : wd ≤ 32) (hN : N < 2 ^ wd) :
    Calls Try.prog 32 #[.int .i64 (N : Int), .int .i64 (wd : Int)] w fun e w' => ∃ A n c, e = .returned (.tuple #[.slice A n c, .int .i64 0]) ∧ Own w' w.heap.size 5 A n c (U8 (pre N wd wd)) ∧ Below w.heap.size w w' := by
  have t1 : decide ((wd : Int) < 1) = false := by simp; omega
  have t2 : decide (32 < (wd : Int)) = false := by simp; omega
  obtain ⟨P, hP, eP, hp1, hp2⟩ := pow32 wd h2
  rw [← hP] at hN
  have t3 : decide ((N : Int) < 0) = false := by simp
  have t4 : decide (P ≤ N) = false := by simp; omega
  have t5 : decide ((P : Int) ≤ (N : Int)) = false := by simp; omega
  clear hP
  go_enter Try.func32, Try.ntmps32
  go_wp2
  go_loopw [6, 7] (fun l i wr => ∃ m : Nat, m ≤ wd ∧ i = .int .i64 ((m : Int) - 1) ∧ ∃ A1 c1, l = .slice A1 (wd - m) c1 ∧ Own wr w.heap.size 5 A1 (wd - m) c1 (U8 (pre N wd (wd - m))) ∧ Below w.heap.size w wr) (fun _ i _ => (intOf i + 1).toNat)
  case atStart => exact ⟨wd, Nat.le_refl _, rfl, none, 0, slice_len (by omega), (Own.nil _ _ _).to (by omega) (by rw [Nat.sub_self]; rfl), Below.refl _ _⟩
  case round =>
    obtain ⟨m, hm, rfl, A1, c1, rfl, hown, hbel⟩ := hrel
    have hsz := hbel.size
    cases m with
    | zero =>
      go_wp2
      go_ret2
      exact ⟨A1, _, c1, rfl, hown, hbel⟩
    | succ p =>
      have hp : ((p + 1 : Nat) : Int) - 1 = (p : Int) := by omega
      rw [hp]
      clear hp
      have e1 := half_bit' N p
      have hx : N / 2 ^ p % 2 < 2 := Nat.mod_lt _ (by omega)
      have q1 : (0 : Int) ≤ (N : Int) / 2 ^ p := Int.ediv_nonneg (by omega) (Int.pow_nonneg (by decide))
      obtain ⟨x, hxe⟩ : ∃ x, x = N / 2 ^ p % 2 := ⟨_, rfl⟩
      rw [← hxe] at e1 hx
      have HX := Lib.hid hxe
      clear hxe
      go_wp2_with (at_builtin; refine app8 _ rfl _ _ rfl w.heap.size _ _ _ _ x _ (by first | rfl | omega) rfl hown rfl (by omega) hsz ?_; intro A3 c3 w3 hown3 hgrow3)
      go_roundw
      case rel =>
        refine ⟨p, by omega, by go_num, A3, c3, slice_len (by omega), ?_, hbel.grown hgrow3 hsz (fun j hj => (hown.block j hj).1)⟩
        refine hown3.to (by omega) ?_
        rw [show wd - p = wd - (p + 1) + 1 by omega, pre, show wd - 1 - (wd - (p + 1)) = p by omega, ← HX.out]
      case measure => simp [intOf] <;> omega
end Go.Proofs.Ytcddbcknjcedfaa
