/-
  Contracts of layer 5's and layer 4's take and Sum.
-/
import Derived.Test.YtmafkcjlehlebaaMem
import Derived.Test.YtmafkcjlehlebaaCm
namespace Go.Proofs.Ytmafkcjlehlebaa
open Go.RowKit
set_option linter.unusedVariables false

theorem wrap_u16 (n : Int) : IntKind.u16.wrap n = n % 65536 := by
  unfold IntKind.wrap; simp [IntKind.signed, IntKind.bits]
theorem s16_hi {s : Nat} (hs : s < 65536) (h : 32768 ≤ s) : Crc.s16 s = (2 * s - 65536) ^^^ 4129 := by
  unfold Crc.s16; rw [if_pos (by omega), show 2 * s % 65536 = 2 * s - 65536 by omega]
theorem s16_lo {s : Nat} (h : s < 32768) : Crc.s16 s = 2 * s := by unfold Crc.s16; rw [if_neg (by omega), show 2 * s % 65536 = 2 * s by omega]
theorem s32_hi {s : Nat} (h : s % 2 = 1) : Crc.s32 s = (s / 2) ^^^ 3988292384 := by unfold Crc.s32; rw [if_pos h]
theorem s32_lo {s : Nat} (h : ¬ s % 2 = 1) : Crc.s32 s = s / 2 := by unfold Crc.s32; rw [if_neg h]

set_option maxHeartbeats 400000 in
/-- crc16.take. -/
theorem take16 (s x : Nat) (w : World) (hs : s < 65536) (hx : x < 256) :
    Calls Try.prog 33 #[.int .u16 (s : Int), .int .u8 (x : Int)] w fun e w' => e = .returned (.int .u16 (Crc.tk Crc.s16 256 s x : Nat)) ∧ w = w' := by
  have e2 : bits BinOp.xor IntKind.u16 (s : Int) ((x : Int) * 256) = ((s ^^^ x * 256 : Nat) : Int) := by
    have := u16_xor_nat s (x * 256) hs (by omega)
    simpa using this
  have h2 : s ^^^ x * 256 < 65536 := Nat.xor_lt_two_pow (n := 16) hs (by omega)
  have HB : Hid (Crc.tk Crc.s16 256 s x = Crc.it Crc.s16 8 (s ^^^ x * 256)) := rfl
  obtain ⟨y, hy⟩ : ∃ y, y = s ^^^ x * 256 := ⟨_, rfl⟩
  rw [← hy] at e2 h2 HB
  clear hy
  go_enter Try.func33, Try.ntmps33
  go_wp2
  clear e2
  go_loop [0, 11] (fun s i => ∃ k r : Nat, k ≤ 8 ∧ r < 65536 ∧ i = .int .i64 k ∧ s = .int .u16 (r : Int) ∧ Hid (r = Crc.it Crc.s16 k y)) (fun _ i => 8 - (intOf i).toNat)
  case atStart => exact ⟨0, y, Nat.zero_le _, h2, rfl, rfl, rfl⟩
  case round =>
    obtain ⟨k, r, hk, hr, rfl, rfl, HR⟩ := hrel
    have h5 := Crc.s16_lt r
    by_cases hlt : k < 8
    · by_cases ht : 32768 ≤ r
      · have HS := Lib.hid (s16_hi hr ht)
        have e3 : (r : Int) / 32768 = 1 := by omega
        obtain ⟨m, hm⟩ : ∃ m, m = 2 * r - 65536 := ⟨_, rfl⟩
        have e4 : IntKind.u16.wrap ((r : Int) * 2) = (m : Int) := by rw [wrap_u16]; omega
        have e5 : bits BinOp.xor IntKind.u16 (m : Int) 4129 = (Crc.s16 r : Int) := by rw [HS.out, ← hm]; exact u16_xor_nat m 4129 (by omega) (by omega)
        clear hm
        go_wp2
        go_round
        case rel => exact ⟨k + 1, Crc.s16 r, by omega, h5, by go_num, rfl, by unfold Hid; rw [Crc.it_succ, ← HR.out]⟩
        case measure => simp [intOf] <;> omega
      · have HS := Lib.hid (s16_lo (s := r) (by omega))
        have e3 : (r : Int) / 32768 = 0 := by omega
        go_wp2
        go_round
        case rel => exact ⟨k + 1, Crc.s16 r, by omega, h5, by go_num, by rw [HS.out]; go_num, by unfold Hid; rw [Crc.it_succ, ← HR.out]⟩
        case measure => simp [intOf] <;> omega
    · go_wp2
      go_ret
      refine ⟨ret_int' ?_, rfl⟩
      rw [HB.out, HR.out, show k = 8 by omega]

theorem bit_u32 (s k : Nat) (hs : s < 4294967296) : bits BinOp.and IntKind.u32 ((s : Int) / 2 ^ k) 1 = ((s / 2 ^ k % 2 : Nat) : Int) := by
  have e : ((s : Int) / 2 ^ k) = ((s / 2 ^ k : Nat) : Int) := by simp
  have hle : s / 2 ^ k ≤ s := Nat.div_le_self _ _
  rw [e, show (1 : Int) = ((1 : Nat) : Int) from rfl, u32_and_nat _ _ (by omega) (by omega), nat_mask1]
theorem bit_u32_one (s : Nat) (hs : s < 4294967296) : bits BinOp.and IntKind.u32 (s : Int) 1 = ((s % 2 : Nat) : Int) := by
  have := bit_u32 s 0 hs
  simpa using this

set_option maxHeartbeats 400000 in
/-- crc32.take. -/
theorem take32 (s x : Nat) (w : World) (hs : s < 4294967296) (hx : x < 256) :
    Calls Try.prog 32 #[.int .u32 (s : Int), .int .u8 (x : Int)] w fun e w' => e = .returned (.int .u32 (Crc.tk Crc.s32 1 s x : Nat)) ∧ w = w' := by
  have e2 := u32_xor_nat s x hs (by omega)
  have h2 : s ^^^ x < 4294967296 := Nat.xor_lt_two_pow (n := 32) hs (by omega)
  have HB : Hid (Crc.tk Crc.s32 1 s x = Crc.it Crc.s32 8 (s ^^^ x)) := by unfold Hid Crc.tk; rw [Nat.mul_one]
  obtain ⟨y, hy⟩ : ∃ y, y = s ^^^ x := ⟨_, rfl⟩
  rw [← hy] at e2 h2 HB
  clear hy
  go_enter Try.func32, Try.ntmps32
  go_wp2
  clear e2
  go_loop [0, 10] (fun s i => ∃ k r : Nat, k ≤ 8 ∧ r < 4294967296 ∧ i = .int .i64 k ∧ s = .int .u32 (r : Int) ∧ Hid (r = Crc.it Crc.s32 k y)) (fun _ i => 8 - (intOf i).toNat)
  case atStart => exact ⟨0, y, Nat.zero_le _, h2, rfl, rfl, rfl⟩
  case round =>
    obtain ⟨k, r, hk, hr, rfl, rfl, HR⟩ := hrel
    have h5 := Crc.s32_lt r hr
    by_cases hlt : k < 8
    · have e3 := bit_u32_one r hr
      obtain ⟨m, hm⟩ : ∃ m, m = r / 2 := ⟨_, rfl⟩
      have e4 : (r : Int) / 2 = (m : Int) := by omega
      by_cases ht : r % 2 = 1
      · have HS := Lib.hid (s32_hi ht)
        rw [ht] at e3
        have e5 : bits BinOp.xor IntKind.u32 (m : Int) 3988292384 = (Crc.s32 r : Int) := by rw [HS.out, ← hm]; exact u32_xor_nat m 3988292384 (by omega) (by omega)
        clear ht hm
        go_wp2
        go_round
        case rel => exact ⟨k + 1, Crc.s32 r, by omega, h5, by go_num, rfl, by unfold Hid; rw [Crc.it_succ, ← HR.out]⟩
        case measure => simp [intOf] <;> omega
      · have HS := Lib.hid (s32_lo ht)
        rw [← hm] at HS
        rw [show r % 2 = 0 by omega] at e3
        clear ht hm
        go_wp2
        go_round
        case rel => exact ⟨k + 1, Crc.s32 r, by omega, h5, by go_num, by rw [HS.out], by unfold Hid; rw [Crc.it_succ, ← HR.out]⟩
        case measure => simp [intOf] <;> omega
    · go_wp2
      go_ret
      refine ⟨ret_int' ?_, rfl⟩
      rw [HB.out, HR.out, show k = 8 by omega]

set_option maxHeartbeats 400000 in
/-- crc16.Sum. -/
theorem sum16 (A : Option Addr) (n c : Nat) (bs : List Nat) (w : World) (hr : Rd w w.heap.size A n (U8 bs)) (hb : ∀ b ∈ bs, b < 256) (hn : n ≤ 65536) :
    Calls Try.prog 18 #[.slice A n c] w fun e w' => e = .returned (.int .u16 (Crc.r16 bs : Nat)) ∧ w = w' := by
  have HN := Lib.hid hr.len8
  have HL := Lib.hid (fun k => Crc.r16_lt (bs.take k) (take256 hb k))
  have HT := Lib.hid (Crc.run_take Crc.s16 256 65535 bs)
  go_enter Try.func18, Try.ntmps18
  go_wp2
  go_loop [3, 8] (fun s i => ∃ k r : Nat, k ≤ n ∧ i = .int .i64 k ∧ s = .int .u16 (r : Int) ∧ r < 65536 ∧ Hid (r = Crc.r16 (bs.take k))) (fun _ i => n - (intOf i).toNat)
  case atStart => exact ⟨0, 65535, Nat.zero_le _, rfl, rfl, by omega, rfl⟩
  case round =>
    obtain ⟨k, r, hk, rfl, rfl, hr2, HR⟩ := hrel
    by_cases hlt : k < n
    · obtain ⟨b', off, rfl, hlt2, hcell⟩ := hr.cell8 k hlt
      have hx := Bm.byte_lt bs hb k
      have HS : Hid (Crc.r16 (bs.take (k + 1)) = Crc.tk Crc.s16 256 r (bs.getD k 0)) := by unfold Hid; rw [HR.out]; exact HT.out k (by rw [← HN.out]; exact hlt)
      have hl := HL.out (k + 1)
      rw [HS.out] at hl
      obtain ⟨x, hxe⟩ : ∃ x, x = bs.getD k 0 := ⟨_, rfl⟩
      rw [← hxe] at hx hcell HS hl
      clear hxe
      go_wp2_with (go_at_call 33; refine (take16 r x _ hr2 hx).mono ?_; rintro e w' ⟨rfl, rfl⟩)
      go_round
      case rel => exact ⟨k + 1, _, by omega, by go_num, rfl, hl, HS.out.symm⟩
      case measure => simp [intOf] <;> omega
    · go_wp2
      go_ret
      refine ⟨ret_int' ?_, rfl⟩
      rw [HR.out, List.take_of_length_le (by rw [← HN.out]; omega)]

set_option maxHeartbeats 400000 in
/-- crc32.Sum. -/
theorem sum32 (A : Option Addr) (n c : Nat) (bs : List Nat) (w : World) (hr : Rd w w.heap.size A n (U8 bs)) (hb : ∀ b ∈ bs, b < 256) (hn : n ≤ 65536) :
    Calls Try.prog 14 #[.slice A n c] w fun e w' => e = .returned (.int .u32 (Crc.c32 bs : Nat)) ∧ w = w' := by
  have HN := Lib.hid hr.len8
  have HL := Lib.hid (fun k => Crc.r32_lt (bs.take k) (take256 hb k))
  have HT := Lib.hid (Crc.run_take Crc.s32 1 4294967295 bs)
  go_enter Try.func14, Try.ntmps14
  go_wp2
  go_loop [3, 8] (fun s i => ∃ k r : Nat, k ≤ n ∧ i = .int .i64 k ∧ s = .int .u32 (r : Int) ∧ r < 4294967296 ∧ Hid (r = Crc.r32 (bs.take k))) (fun _ i => n - (intOf i).toNat)
  case atStart => exact ⟨0, 4294967295, Nat.zero_le _, rfl, rfl, by omega, rfl⟩
  case round =>
    obtain ⟨k, r, hk, rfl, rfl, hr2, HR⟩ := hrel
    by_cases hlt : k < n
    · obtain ⟨b', off, rfl, hlt2, hcell⟩ := hr.cell8 k hlt
      have hx := Bm.byte_lt bs hb k
      have HS : Hid (Crc.r32 (bs.take (k + 1)) = Crc.tk Crc.s32 1 r (bs.getD k 0)) := by unfold Hid; rw [HR.out]; exact HT.out k (by rw [← HN.out]; exact hlt)
      have hl := HL.out (k + 1)
      rw [HS.out] at hl
      obtain ⟨x, hxe⟩ : ∃ x, x = bs.getD k 0 := ⟨_, rfl⟩
      rw [← hxe] at hx hcell HS hl
      clear hxe
      go_wp2_with (go_at_call 32; refine (take32 r x _ hr2 hx).mono ?_; rintro e w' ⟨rfl, rfl⟩)
      go_round
      case rel => exact ⟨k + 1, _, by omega, by go_num, rfl, hl, HS.out.symm⟩
      case measure => simp [intOf] <;> omega
    · go_wp2
      go_ret
      refine ⟨ret_int' ?_, rfl⟩
      unfold Crc.c32
      rw [← List.take_of_length_le (l := bs) (i := k) (by rw [← HN.out]; omega), ← HR.out]
      exact u32_xor_nat 4294967295 r (by omega) hr2
end Go.Proofs.Ytmafkcjlehlebaa
