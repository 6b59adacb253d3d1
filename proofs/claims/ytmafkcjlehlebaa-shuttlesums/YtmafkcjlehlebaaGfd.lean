/-
  Contract of gf2.Rest.
-/
import Derived.Test.YtmafkcjlehlebaaGfa
import Derived.Test.YtmafkcjlehlebaaMem
import Derived.Test.YtmafkcjlehlebaaRm
namespace Go.Proofs.Ytmafkcjlehlebaa
open Go.RowKit
set_option linter.unusedVariables false
theorem ret2 {k : IntKind} {x y : Int} {c : Bool} (h : x = y) : Ending.returned (.tuple #[.int k x, .bool c]) = .returned (.tuple #[.int k y, .bool c]) := by rw [h]
theorem or_two (r c : Nat) (hr : 2 * r + c < 18446744073709551616) (hc : c ≤ 1) : bits BinOp.or IntKind.u64 ((r : Int) * 2) (c : Int) = ((2 * r + c : Nat) : Int) := by
  rw [show ((r : Int) * 2) = ((2 * r : Nat) : Int) by omega, u64_or_nat _ _ (by omega) (by omega), nat_join 1 (2 * r) c (by omega) (by omega)]
set_option maxHeartbeats 1000000 in
/-- gf2.Rest. -/
theorem restC (A : Option Addr) (n c : Nat) (bs : List Nat) (b : Nat) (w : World) (hr : Rd w w.heap.size A n (U8 bs)) (hb : ∀ b ∈ bs, b < 256) (hn : n ≤ 65536) (b0 : b ≠ 0) (b63 : Poly.bl b ≤ 63) :
    Calls Try.prog 26 #[.slice A n c, .int .u64 (b : Int)] w fun e w' => e = .returned (.tuple #[.int .u64 (Poly.restL b bs : Nat), .bool true]) ∧ w = w' := by
  have HN := Lib.hid hr.len8
  have hbb : b < 18446744073709551616 := by have := (Poly.bl_le b 64).1 (by omega); exact this
  have hpos := (Poly.bl_pos b).2 b0
  have HL := Lib.hid (Poly.restL_lt b b0)
  have HS := Lib.hid (take_step (Poly.restL b) (Poly.st b) (Poly.restL_snoc b) bs)
  obtain ⟨d, hd⟩ : ∃ d, Poly.bl b = d + 1 := ⟨Poly.bl b - 1, by omega⟩
  have hdd : (Poly.bl b : Int) - 1 = (d : Int) := by omega
  have hd62 : d ≤ 62 := by omega
  have HD := Lib.hid hd
  have hp2 : 2 ^ (d + 1) ≤ 2 ^ 63 := Nat.pow_le_pow_right (by decide) (by omega)
  have C := Lib.hid (fun w => degree b w hbb)
  rw [hdd] at C
  have t1 : ((b : Int) == 0) = false := by simp; omega
  have t2 : ((d : Int) == 63) = false := by simp; omega
  clear hd hdd hpos b63
  go_enter Try.func26, Try.ntmps26
  go_wp2_with (go_at_call 34; refine (C.out _).mono ?_; rintro e w' ⟨rfl, rfl⟩)
  go_loop [7, 20] (fun s i => ∃ k r : Nat, k ≤ n ∧ i = .int .i64 k ∧ s = .int .u64 (r : Int) ∧ r < 2 ^ d ∧ Hid (r = Poly.restL b (bs.take k))) (fun _ i => n - (intOf i).toNat)
  case atStart => exact ⟨0, 0, Nat.zero_le _, rfl, rfl, Nat.two_pow_pos d, rfl⟩
  case round =>
    obtain ⟨k, r, hk, rfl, rfl, hrd, HR⟩ := hrel
    by_cases hlt : k < n
    · obtain ⟨b', off, rfl, hlt2, hcell⟩ := hr.cell8 k hlt
      have hx := Bm.byte_lt bs hb k
      have HS2 := Lib.hid (HS.out k (by rw [← HN.out]; exact hlt))
      have hlt3 := HL.out (bs.take (k + 1))
      obtain ⟨x, hxe⟩ : ∃ x, x = bs.getD k 0 := ⟨_, rfl⟩
      rw [← hxe] at hx hcell HS2
      clear hxe
      rw [← HR.out] at HS2
      rw [HD.out, Nat.add_sub_cancel] at hlt3
      have hpe : 2 ^ (d + 1) = 2 * 2 ^ d := by rw [Nat.pow_succ, Nat.mul_comm]
      have hr2 : 2 * r + x % 2 < 9223372036854775808 := by
        have : (2 : Nat) ^ 63 = 9223372036854775808 := by decide
        omega
      have hr3 : r < 4611686018427387904 := by omega
      have e1 := bit_u8_one x hx
      have e2 := or_two r (x % 2) (by omega) (by omega)
      obtain ⟨y, hy⟩ : ∃ y, y = 2 * r + x % 2 := ⟨_, rfl⟩
      rw [← hy] at e2 hr2
      have T := Lib.hid (bit_test y d (by omega))
      have HY := Lib.hid hy
      have HL2 := Lib.hid hlt3
      have hc : x % 2 < 2 := Nat.mod_lt _ (by omega)
      obtain ⟨c0, hc0⟩ : ∃ c0, c0 = x % 2 := ⟨_, rfl⟩
      rw [← hc0] at e1 e2 hc
      clear hpe hy hlt3 hc0
      by_cases ht : y / 2 ^ d % 2 = 1
      · have t3 : (bits BinOp.and IntKind.u64 ((y : Int) / 2 ^ d) 1 == 1) = true := by rw [T.out]; simp [ht]
        have HT := Lib.hid ht
        clear ht
        go_wp2_with (go_at_call 35; refine (add y b _ (by omega) hbb).mono ?_; rintro e w' ⟨rfl, rfl⟩)
        have hs : Poly.restL b (bs.take (k + 1)) = y ^^^ b := by
          rw [HS2.out]; unfold Poly.st; rw [HD.out, Nat.add_sub_cancel, ← HY.out, if_pos HT.out]
        go_round
        case rel => exact ⟨k + 1, y ^^^ b, by omega, by go_num, rfl, by rw [← hs]; exact HL2.out, hs.symm⟩
        case measure => simp [intOf] <;> omega
      · have t3 : (bits BinOp.and IntKind.u64 ((y : Int) / 2 ^ d) 1 == 1) = false := by rw [T.out]; simp [ht]
        go_wp2
        have hs : Poly.restL b (bs.take (k + 1)) = y := by
          rw [HS2.out]; unfold Poly.st; rw [HD.out, Nat.add_sub_cancel, ← HY.out, if_neg ht]
        go_round
        case rel => exact ⟨k + 1, y, by omega, by go_num, rfl, by rw [← hs]; exact HL2.out, hs.symm⟩
        case measure => simp [intOf] <;> omega
    · go_wp2
      go_ret2
      refine ⟨ret2 ?_, rfl⟩
      rw [HR.out, List.take_of_length_le (by rw [← HN.out]; omega)]
end Go.Proofs.Ytmafkcjlehlebaa
