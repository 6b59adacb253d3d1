/-
  Contracts of layer 3's Rest, the reference's Rest and Coefficients; the walk of the statement Gf2Rest.
-/
import Derived.Test.YtcddbcknjcedfaaGfc
import Derived.Test.YtcddbcknjcedfaaRm
import Derived.Test.YtcddbcknjcedfaaBe
namespace Go.Proofs.Ytcddbcknjcedfaa
open Go.RowKit
set_option linter.unusedVariables false

theorem bit_u8_one (x : Nat) (hx : x < 256) : bits BinOp.and IntKind.u8 (x : Int) 1 = ((x % 2 : Nat) : Int) := by
  have := bit_u8 x 0 hx
  simpa using this
theorem or_two (r c : Nat) (hr : 2 * r + c < 18446744073709551616) (hc : c ≤ 1) : bits BinOp.or IntKind.u64 ((r : Int) * 2) (c : Int) = ((2 * r + c : Nat) : Int) := by
  rw [show ((r : Int) * 2) = ((2 * r : Nat) : Int) by omega, u64_or_nat _ _ (by omega) (by omega), nat_join 1 (2 * r) c (by omega) (by omega)]
theorem xor_two (r c : Nat) (hr : 2 * r + c < 18446744073709551616) (hc : c ≤ 1) : bits BinOp.xor IntKind.u64 ((r : Int) * 2) (c : Int) = ((2 * r + c : Nat) : Int) := by
  rw [show ((r : Int) * 2) = ((2 * r : Nat) : Int) by omega, u64_xor_nat _ _ (by omega) (by omega), ← Poly.two_add r c hc]

theorem take_step (f : List Nat → Nat) (g : Nat → Nat → Nat) (hf : ∀ l x, f (l ++ [x]) = g (f l) x) (bs : List Nat) (k : Nat) (h : k < bs.length) : f (bs.take (k + 1)) = g (f (bs.take k)) (bs.getD k 0) := by
  rw [List.take_succ_eq_append_getElem h, hf, Bm.getD_lt _ _ _ h]

set_option maxHeartbeats 1000000 in
/-- gf2.Rest. -/
theorem restC (A : Option Addr) (n c : Nat) (bs : List Nat) (b : Nat) (w : World) (hr : Rd w w.heap.size A n (U8 bs)) (hb : ∀ b ∈ bs, b < 256) (hn : n ≤ 65536) (b0 : b ≠ 0) (b63 : Poly.bl b ≤ 63) :
    Calls Try.prog 47 #[.slice A n c, .int .u64 (b : Int)] w fun e w' => e = .returned (.tuple #[.int .u64 (Poly.restL b bs : Nat), .bool true]) ∧ w = w' := by
  have HN := Lib.hid hr.len8
  have hbb : b < 18446744073709551616 := by have := (Poly.bl_le b 64).1 (by omega); exact this
  have hpos := (Poly.bl_pos b).2 b0
  have HL := Lib.hid (Poly.restL_lt b b0)
  have HS := Lib.hid (take_step (Poly.restL b) (Poly.st b) (Poly.restL_snoc b) bs)
  obtain ⟨d, hd⟩ : ∃ d, Poly.bl b = d + 1 := ⟨Poly.bl b - 1, by omega⟩
  have hdd : (Poly.bl b : Int) - 1 = (d : Int) := by omega
  have hd62 : d ≤ 62 := by omega
  have HD := Lib.hid hd
  have hp2 : 2 ^ (d + 1) ≤ 2 ^ 63 := Nat.pow_le_pow_right (by decide) (by omega)
  have C := Lib.hid (fun w => degree b w hbb)
  rw [hdd] at C
  have t1 : ((b : Int) == 0) = false := by simp; omega
  have t2 : ((d : Int) == 63) = false := by simp; omega
  clear hd hdd hpos b63
  go_enter Try.func47, Try.ntmps47
  go_wp2_with (go_at_call 42; refine (C.out _).mono ?_; rintro e w' ⟨rfl, rfl⟩)
  go_loop [7, 20] (fun s i => ∃ k r : Nat, k ≤ n ∧ i = .int .i64 k ∧ s = .int .u64 (r : Int) ∧ r < 2 ^ d ∧ Hid (r = Poly.restL b (bs.take k))) (fun _ i => n - (intOf i).toNat)
  case atStart => exact ⟨0, 0, Nat.zero_le _, rfl, rfl, Nat.two_pow_pos d, rfl⟩
  case round =>
    obtain ⟨k, r, hk, rfl, rfl, hrd, HR⟩ := hrel
    by_cases hlt : k < n
    · obtain ⟨b', off, rfl, hlt2, hcell⟩ := hr.cell8 k hlt
      have hx := Bm.byte_lt bs hb k
      have HS2 := Lib.hid (HS.out k (by rw [← HN.out]; exact hlt))
      have hlt3 := HL.out (bs.take (k + 1))
      obtain ⟨x, hxe⟩ : ∃ x, x = bs.getD k 0 := ⟨_, rfl⟩
      rw [← hxe] at hx hcell HS2
      clear hxe
      rw [← HR.out] at HS2
      rw [HD.out, Nat.add_sub_cancel] at hlt3
      have hpe : 2 ^ (d + 1) = 2 * 2 ^ d := by rw [Nat.pow_succ, Nat.mul_comm]
      have hr2 : 2 * r + x % 2 < 9223372036854775808 := by
        have : (2 : Nat) ^ 63 = 9223372036854775808 := by decide
        omega
      have hr3 : r < 4611686018427387904 := by omega
      have e1 := bit_u8_one x hx
      have e2 := or_two r (x % 2) (by omega) (by omega)
      obtain ⟨y, hy⟩ : ∃ y, y = 2 * r + x % 2 := ⟨_, rfl⟩
      rw [← hy] at e2 hr2
      have T := Lib.hid (bit_test y d (by omega))
      have HY := Lib.hid hy
      have HL2 := Lib.hid hlt3
      have hc : x % 2 < 2 := Nat.mod_lt _ (by omega)
      obtain ⟨c0, hc0⟩ : ∃ c0, c0 = x % 2 := ⟨_, rfl⟩
      rw [← hc0] at e1 e2 hc
      clear hpe hy hlt3 hc0
      by_cases ht : y / 2 ^ d % 2 = 1
      · have t3 : (bits BinOp.and IntKind.u64 ((y : Int) / 2 ^ d) 1 == 1) = true := by rw [T.out]; simp [ht]
        have HT := Lib.hid ht
        clear ht
        go_wp2_with (go_at_call 44; refine (add y b _ (by omega) hbb).mono ?_; rintro e w' ⟨rfl, rfl⟩)
        have hs : Poly.restL b (bs.take (k + 1)) = y ^^^ b := by
          rw [HS2.out]; unfold Poly.st; rw [HD.out, Nat.add_sub_cancel, ← HY.out, if_pos HT.out]
        go_round
        case rel => exact ⟨k + 1, y ^^^ b, by omega, by go_num, rfl, by rw [← hs]; exact HL2.out, hs.symm⟩
        case measure => simp [intOf] <;> omega
      · have t3 : (bits BinOp.and IntKind.u64 ((y : Int) / 2 ^ d) 1 == 1) = false := by rw [T.out]; simp [ht]
        go_wp2
        have hs : Poly.restL b (bs.take (k + 1)) = y := by
          rw [HS2.out]; unfold Poly.st; rw [HD.out, Nat.add_sub_cancel, ← HY.out, if_neg ht]
        go_round
        case rel => exact ⟨k + 1, y, by omega, by go_num, rfl, by rw [← hs]; exact HL2.out, hs.symm⟩
        case measure => simp [intOf] <;> omega
    · go_wp2
      go_ret2
      refine ⟨ret2 ?_, rfl⟩
      rw [HR.out, List.take_of_length_le (by rw [← HN.out]; omega)]
set_option maxHeartbeats 1000000 in
/-- The reference's Rest. -/
theorem refRestC (A : Option Addr) (n c : Nat) (bs : List Nat) (b : Nat) (w : World) (hr : Rd w w.heap.size A n (U8 bs)) (hb : ∀ b ∈ bs, b < 256) (hn : n ≤ 65536) (b0 : b ≠ 0) (b63 : Poly.bl b ≤ 63) :
    Calls Try.prog 49 #[.slice A n c, .int .u64 (b : Int)] w fun e w' => e = .returned (.int .u64 (Poly.restL b bs : Nat)) ∧ w = w' := by
  have HN := Lib.hid hr.len8
  have hbb : b < 18446744073709551616 := by have := (Poly.bl_le b 64).1 (by omega); exact this
  have hpos := (Poly.bl_pos b).2 b0
  have HL := Lib.hid (Poly.restL_lt b b0)
  have HS := Lib.hid (take_step (Poly.restL b) (Poly.st b) (Poly.restL_snoc b) bs)
  obtain ⟨d, hd⟩ : ∃ d, Poly.bl b = d + 1 := ⟨Poly.bl b - 1, by omega⟩
  have hdd : (Poly.bl b : Int) - 1 = (d : Int) := by omega
  have hd62 : d ≤ 62 := by omega
  have HD := Lib.hid hd
  have hp2 : 2 ^ (d + 1) ≤ 2 ^ 63 := Nat.pow_le_pow_right (by decide) (by omega)
  have C := Lib.hid (fun w => refDegree b w hbb)
  rw [hdd] at C
  clear hd hdd hpos b63
  go_enter Try.func49, Try.ntmps49
  go_wp2_with (go_at_call 43; refine (C.out _).mono ?_; rintro e w' ⟨rfl, rfl⟩)
  go_loop [5, 7] (fun s i => ∃ k r : Nat, k ≤ n ∧ i = .int .i64 k ∧ s = .int .u64 (r : Int) ∧ r < 2 ^ d ∧ Hid (r = Poly.restL b (bs.take k))) (fun _ i => n - (intOf i).toNat)
  case atStart => exact ⟨0, 0, Nat.zero_le _, rfl, rfl, Nat.two_pow_pos d, rfl⟩
  case round =>
    obtain ⟨k, r, hk, rfl, rfl, hrd, HR⟩ := hrel
    by_cases hlt : k < n
    · obtain ⟨b', off, rfl, hlt2, hcell⟩ := hr.cell8 k hlt
      have hx := Bm.byte_lt bs hb k
      have HS2 := Lib.hid (HS.out k (by rw [← HN.out]; exact hlt))
      have hlt3 := HL.out (bs.take (k + 1))
      obtain ⟨x, hxe⟩ : ∃ x, x = bs.getD k 0 := ⟨_, rfl⟩
      rw [← hxe] at hx hcell HS2
      clear hxe
      rw [← HR.out] at HS2
      rw [HD.out, Nat.add_sub_cancel] at hlt3
      have hpe : 2 ^ (d + 1) = 2 * 2 ^ d := by rw [Nat.pow_succ, Nat.mul_comm]
      have hr2 : 2 * r + x % 2 < 9223372036854775808 := by
        have : (2 : Nat) ^ 63 = 9223372036854775808 := by decide
        omega
      have hr3 : r < 4611686018427387904 := by omega
      have e1 := bit_u8_one x hx
      have e2 := xor_two r (x % 2) (by omega) (by omega)
      obtain ⟨y, hy⟩ : ∃ y, y = 2 * r + x % 2 := ⟨_, rfl⟩
      rw [← hy] at e2 hr2
      have T := Lib.hid (bit_test y d (by omega))
      have HY := Lib.hid hy
      have HL2 := Lib.hid hlt3
      have hc : x % 2 < 2 := Nat.mod_lt _ (by omega)
      obtain ⟨c0, hc0⟩ : ∃ c0, c0 = x % 2 := ⟨_, rfl⟩
      rw [← hc0] at e1 e2 hc
      clear hpe hy hlt3 hc0
      by_cases ht : y / 2 ^ d % 2 = 1
      · have t3 : (bits BinOp.and IntKind.u64 ((y : Int) / 2 ^ d) 1 == 1) = true := by rw [T.out]; simp [ht]
        have HT := Lib.hid ht
        clear ht
        have e4 := u64_xor_nat y b (by omega) hbb
        go_wp2
        have hs : Poly.restL b (bs.take (k + 1)) = y ^^^ b := by
          rw [HS2.out]; unfold Poly.st; rw [HD.out, Nat.add_sub_cancel, ← HY.out, if_pos HT.out]
        go_round
        case rel => exact ⟨k + 1, y ^^^ b, by omega, by go_num, rfl, by rw [← hs]; exact HL2.out, hs.symm⟩
        case measure => simp [intOf] <;> omega
      · have t3 : (bits BinOp.and IntKind.u64 ((y : Int) / 2 ^ d) 1 == 1) = false := by rw [T.out]; simp [ht]
        go_wp2
        have hs : Poly.restL b (bs.take (k + 1)) = y := by
          rw [HS2.out]; unfold Poly.st; rw [HD.out, Nat.add_sub_cancel, ← HY.out, if_neg ht]
        go_round
        case rel => exact ⟨k + 1, y, by omega, by go_num, rfl, by rw [← hs]; exact HL2.out, hs.symm⟩
        case measure => simp [intOf] <;> omega
    · go_wp2
      go_ret
      refine ⟨ret_int ?_, rfl⟩
      rw [HR.out, List.take_of_length_le (by rw [← HN.out]; omega)]

set_option maxHeartbeats 400000 in
/-- gf2.Rest, by what there is no room for, or by 0. -/
theorem restNo (A : Option Addr) (n c : Nat) (b : Nat) (w : World) (hb : b < 18446744073709551616) (h : b = 0 ∨ Poly.bl b = 64) :
    Calls Try.prog 47 #[.slice A n c, .int .u64 (b : Int)] w fun e w' => e = .returned (.tuple #[.int .u64 0, .bool false]) ∧ w = w' := by
  rcases h with rfl | h
  · have C := Lib.hid (fun w => degree 0 w (by omega))
    rw [Poly.bl_zero] at C
    go_enter Try.func47, Try.ntmps47
    go_wp2_with (go_at_call 42; refine (C.out _).mono ?_; rintro e w' ⟨rfl, rfl⟩)
    go_ret2
    exact ⟨rfl, rfl⟩
  · have C := Lib.hid (fun w => degree b w hb)
    rw [h] at C
    have b0 : b ≠ 0 := by rw [← Poly.bl_pos]; omega
    have t1 : ((b : Int) == 0) = false := by simp; omega
    clear h
    go_enter Try.func47, Try.ntmps47
    go_wp2_with (go_at_call 42; refine (C.out _).mono ?_; rintro e w' ⟨rfl, rfl⟩)
    go_ret2
    exact ⟨rfl, rfl⟩

theorem bit_64 (a k : Nat) (ha : a < 18446744073709551616) : bits BinOp.and IntKind.u64 ((a : Int) / 2 ^ k) 1 = ((a / 2 ^ k % 2 : Nat) : Int) := by
  have e : ((a : Int) / 2 ^ k) = ((a / 2 ^ k : Nat) : Int) := by simp
  have hle : a / 2 ^ k ≤ a := Nat.div_le_self _ _
  rw [e, show (1 : Int) = ((1 : Nat) : Int) from rfl, u64_and_nat _ _ (by omega) (by omega), nat_mask1]

set_option maxHeartbeats 1000000 in
/-- The reference's Coefficients. -/
theorem coeffs (a : Nat) (w : World) (ha : a < 18446744073709551616) : Calls Try.prog 48 #[.int .u64 (a : Int)] w (Made w (Poly.coefsTo a 64)) := by
  go_enter Try.func48, Try.ntmps48
  go_wp2
  go_loopw [3, 4] (fun l i wr => ∃ m : Nat, m ≤ 64 ∧ i = .int .i64 ((m : Int) - 1) ∧ ∃ A1 c1, l = .slice A1 (64 - m) c1 ∧ Own wr w.heap.size 5 A1 (64 - m) c1 (U8 (Poly.coefsTo a (64 - m))) ∧ Below w.heap.size w wr) (fun _ i _ => (intOf i + 1).toNat)
  case atStart => exact ⟨64, by omega, rfl, none, 0, rfl, Own.nil _ _ _, Below.refl _ _⟩
  case round =>
    obtain ⟨m, hm, rfl, A1, c1, rfl, hown, hbel⟩ := hrel
    have hsz := hbel.size
    cases m with
    | zero =>
      go_wp2
      go_ret
      exact ⟨A1, _, c1, rfl, hown, hbel⟩
    | succ p =>
      have hp : ((p + 1 : Nat) : Int) - 1 = (p : Int) := by omega
      rw [hp]
      clear hp
      have e1 := bit_64 a p ha
      have hx : a / 2 ^ p % 2 < 2 := Nat.mod_lt _ (by omega)
      obtain ⟨x, hxe⟩ : ∃ x, x = a / 2 ^ p % 2 := ⟨_, rfl⟩
      rw [← hxe] at e1 hx
      have HX := Lib.hid hxe
      clear hxe
      go_wp2_with (at_builtin; refine app8 _ rfl _ _ rfl w.heap.size _ _ _ _ x _ (by first | rfl | omega) rfl hown rfl (by omega) hsz ?_; intro A3 c3 w3 hown3 hgrow3)
      go_roundw
      case rel =>
        refine ⟨p, by omega, by go_num, A3, c3, slice_len (by omega), ?_, hbel.grown hgrow3 hsz (fun j hj => (hown.block j hj).1)⟩
        refine hown3.to (by omega) ?_
        rw [show 64 - p = 64 - (p + 1) + 1 by omega, Poly.coefsTo, show 63 - (64 - (p + 1)) = p by omega, ← HX.out]
      case measure => simp [intOf] <;> omega

theorem Rd.cut8 {w : World} {B : Nat} {A : Option Addr} {n : Nat} {bs : List Nat} (h : Rd w B A n (U8 bs)) (k : Nat) (hk : k ≤ n) : Rd w B A k (U8 (bs.take k)) := by
  refine ⟨?_, fun h0 => ?_⟩
  · have := h.len
    rw [U8_length] at *
    rw [List.length_take]; omega
  · obtain ⟨b, off, e, hlt, hc⟩ := h.at_ (by omega)
    refine ⟨b, off, e, hlt, fun i u hu => hc i u ?_⟩
    unfold U8 at *
    rw [List.map_take, List.getElem?_take] at hu
    split at hu
    · exact hu
    · cases hu
theorem min_if (n K : Nat) : ∃ k : Nat, k ≤ K ∧ k ≤ n ∧ ∀ z : Int, z = (K : Int) → (if z < (n : Int) then z else (n : Int)) = (k : Int) ∧ min (n : Int) z = (k : Int) := by
  by_cases h : K < n
  · exact ⟨K, Nat.le_refl _, by omega, fun z hz => ⟨by rw [if_pos (by omega)]; exact hz, by omega⟩⟩
  · exact ⟨n, by omega, Nat.le_refl _, fun z hz => ⟨by rw [if_neg (by omega)], by omega⟩⟩
theorem take256 {bs : List Nat} (h : ∀ b ∈ bs, b < 256) (k : Nat) : ∀ b ∈ bs.take k, b < 256 := fun b hb => h b (List.mem_of_mem_take hb)

set_option maxHeartbeats 2000000 in
/-- Gf2Rest. -/
theorem walk13 (A : Option Addr) (n c : Nat) (xs : List Nat) (b a : Nat) (w : World) (h1 : Rd w w.heap.size A n (U8 xs)) (b1 : ∀ b ∈ xs, b < 256) (hnc : n ≤ c) (hc : c ≤ 9223372036854775807) (hnone : A = none → n = 0 ∧ c = 0)
    (hb : b < 18446744073709551616) (ha : a < 18446744073709551616) :
    Calls Try.prog 13 #[.slice A n c, .int .u64 (b : Int), .int .u64 (a : Int)] w fun e w' => e = .returned (.bool true) ∧ Below w.heap.size w w' := by
  obtain ⟨i0, hi0, hz0, hz1, hz2⟩ := info_parts info5
  obtain ⟨k, hk, hk2, hk3⟩ := min_if n 300
  obtain ⟨hm1, hm2⟩ := hk3 300 rfl
  clear hk3
  have r1 := h1.cut8 k hk2
  have bk := take256 b1 k
  generalize xs.take k = ls at *
  have r2 : Rd (w.alloc (.cells #[] 5)) w.heap.size A k (U8 ls) := r1.below ((Below.refl _ _).alloc (Nat.le_refl _) _)
  have hn2 : A = none → k = 0 ∧ c = 0 := fun h => ⟨by have := (hnone h).1; omega, (hnone h).2⟩
  have o1 : Own (w.alloc (.cells #[] 5)) w.heap.size 5 (some ⟨w.heap.size, 0, none⟩) 0 0 [] := ⟨World.ownsRow_made w #[] 0 (Nat.le_refl _) (by unfold maxLen; omega) (by simp)⟩
  have BK := Lib.hid bk
  clear h1 b1 hnone r1 bk
  go_enter Try.func13, Try.ntmps13
  go_wp2_with (at_builtin; refine wpList_app _ rfl _ _ 22 rfl w.heap.size 5 i0 _ 1 Try.underlying22 hi0 hz0 hz1 hz2 rfl _ 0 0 [] rfl o1 w.heap.size A k c (U8 ls) rfl r2 hn2 (U8_one ls) (by omega) (by unfold maxLen; omega) (by simp) ?_; intro A5 c5 w5 hown5 hgrow5; have own := hown5.to (Nat.zero_add k) (List.nil_append (U8 ls)); have hcv := own.conv w5 (Below.refl _ _))
  have bel : Below w.heap.size w w5 := ((Below.refl _ _).alloc (Nat.le_refl _) _).grown hgrow5 (by simp) (fun j hj => by simp [Value.ownBlock] at hj; omega)
  have rl := own.rdOf (Below.refl _ _)
  clear hown5 hgrow5 r2 hn2 o1 hi0 hz0 hz1 hz2 hm1 hm2
  by_cases hbz : b = 0 ∨ Poly.bl b = 64
  · refine (restNo A5 k c5 b w5 hb hbz).mono ?_
    rintro e w' ⟨rfl, rfl⟩
    go_wp2_with fail
    refine (polys _).mono ?_
    rintro e w' ⟨rfl, rfl⟩
    rcases hbz with rfl | hbl
    · have t1 : (((0 : Nat) : Int) != 0) = false := by simp
      go_wp2_with fail
      go_ret
      exact ⟨rfl, bel⟩
    · have b0 : b ≠ 0 := by rw [← Poly.bl_pos]; omega
      have t1 : ((b : Int) != 0) = true := by simp; omega
      have C := Lib.hid (fun w => refDegree b w hb)
      rw [hbl] at C
      clear hbl
      go_wp2_with fail
      refine (C.out _).mono ?_
      rintro e w' ⟨rfl, rfl⟩
      go_wp2_with fail
      go_ret
      exact ⟨rfl, bel⟩
  · have b0 : b ≠ 0 := by omega
    have hb3 := bl64 b hb
    have b63 : Poly.bl b ≤ 63 := by omega
    have t1 : ((b : Int) != 0) = true := by simp; omega
    have hrl : Poly.restL b ls < 18446744073709551616 := by
      have := Poly.restL_lt b b0 ls
      have h2 : 2 ^ (Poly.bl b - 1) ≤ 2 ^ 64 := Nat.pow_le_pow_right (by decide) (by omega)
      have h3 : (2 : Nat) ^ 64 = 18446744073709551616 := by decide
      omega
    have HR : Hid (Poly.restL b (Poly.coefsTo a 64) = Poly.rem a b) := by
      unfold Hid
      rw [Poly.restL_rem b b0, Poly.val_all a ha]
    clear hbz
    refine (restC A5 k c5 ls b w5 rl BK.out (by omega) b0 b63).mono ?_
    rintro e w' ⟨rfl, rfl⟩
    go_wp2_with fail
    refine (polys _).mono ?_
    rintro e w' ⟨rfl, rfl⟩
    go_wp2_with fail
    refine (refDegree b _ hb).mono ?_
    rintro e w' ⟨rfl, rfl⟩
    have t2 : decide ((Poly.bl b : Int) - 1 < 63) = true := by simp; omega
    go_wp2_with fail
    refine (coeffs a _ ha).mono ?_
    rintro e w6 ⟨A6, n6, c6, rfl, ow6, be6⟩
    have l6 : n6 ≤ 64 := by rw [ow6.rd.len8, Poly.coefsTo_length]; omega
    have bel6 := Below.then_ bel be6
    have rl6 := own.rdOf be6
    go_wp2_with fail
    refine (restC A6 n6 c6 _ b w6 (ow6.rdOf (Below.refl _ _)) (bit256 (Poly.coefsTo_bit a 64)) (by omega) b0 b63).mono ?_
    rintro e w' ⟨rfl, rfl⟩
    rw [HR.out]
    go_wp2_with fail
    refine (over a b _ ha hb b0).mono ?_
    rintro e w' ⟨rfl, rfl⟩
    go_wp2_with fail
    refine (refRestC A5 k c5 ls b w6 rl6 BK.out (by omega) b0 b63).mono ?_
    rintro e w' ⟨rfl, rfl⟩
    go_wp2_with fail
    go_ret
    exact ⟨rfl, bel6⟩
end Go.Proofs.Ytcddbcknjcedfaa
