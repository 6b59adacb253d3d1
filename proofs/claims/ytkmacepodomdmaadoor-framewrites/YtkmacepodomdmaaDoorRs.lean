/-
  Contracts of bits.Of, crc32.take, crc32.Sum, stands, cut.
-/
import Derived.Test.YtkmacepodomdmaaDoorMem
import Derived.Test.YtkmacepodomdmaaDoorCm
import Derived.Lib.SlBytesConst
namespace Go.Proofs.YtkmacepodomdmaaDoor
open Go.RowKit
set_option maxRecDepth 100000
set_option linter.unusedVariables false
set_option maxHeartbeats 1000000 in
/-- bits.Of. -/
theorem bitsOf (A : Option Addr) (n c : Nat) (bs : List Nat) (w : World) (hr : Rd w w.heap.size A n (U8 bs)) (hb : ∀ b ∈ bs, b < 256) (hn : n ≤ 65536) :
    Calls Tryd.prog 118 #[.slice A n c] w (Made w (Bm.ofBytes bs)) := by
  obtain ⟨i0, hi0, hz0, hz1, hz2⟩ := info_parts info5
  have HN := Lib.hid hr.len8
  go_enter Tryd.func118, Tryd.ntmps118
  go_wp2_with (at_make; refine wpList_make_own _ rfl _ _ 22 rfl w.heap.size 5 i0 (.int .u8 0) 1 Tryd.underlying22 hi0 hz0 hz1 .i64 .i64 _ (8 * n) rfl rfl (by first | rfl | omega) (by rw [hz2]; omega) (by unfold maxLen; omega) (Nat.le_refl _) ?_; intro w0 hown0 hgrow0)
  clear hz0 hz1 hz2 hi0
  go_loopw [3, 13] (fun l i wr => ∃ k : Nat, k ≤ n ∧ i = .int .i64 k ∧ ∃ A1 c1, l = .slice A1 (8 * k) c1 ∧ Own wr w.heap.size 5 A1 (8 * k) c1 (U8 (Bm.ofBytes (bs.take k))) ∧ Below w.heap.size w wr) (fun _ i _ => n - (intOf i).toNat)
  case atStart => exact ⟨0, Nat.zero_le _, rfl, _, _, rfl, ⟨hown0⟩, (Below.refl _ _).grown hgrow0 (Nat.le_refl _) (fun k h => by cases h)⟩
  case round =>
    clear hown0 hgrow0
    obtain ⟨k, hk, rfl, A1, c1, rfl, hown, hbel⟩ := hrel
    by_cases hlt : k < n
    · obtain ⟨b, off, rfl, hlt2, hcell⟩ := (hr.below hbel).cell8 k hlt
      have hx := Bm.byte_lt bs hb k
      have HT := Lib.hid (Bm.ofBytes_take bs k (by rw [← HN.out]; exact hlt))
      obtain ⟨x, hxe⟩ : ∃ x, x = bs.getD k 0 := ⟨_, rfl⟩
      rw [← hxe] at hx hcell HT
      clear hxe
      go_wp2
      go_loopw [3, 6] (fun l i wr2 => ∃ m : Nat, m ≤ 8 ∧ i = .int .i64 ((m : Int) - 1) ∧ ∃ A2 c2, l = .slice A2 (8 * k + (8 - m)) c2 ∧ Own wr2 w.heap.size 5 A2 (8 * k + (8 - m)) c2 (U8 (Bm.ofBytes (bs.take k) ++ (Bm.bits8 x).take (8 - m))) ∧ Below w.heap.size w wr2) (fun _ i _ => (intOf i + 1).toNat)
      case atStart => exact ⟨8, by omega, rfl, A1, c1, rfl, by simpa using hown, hbel⟩
      case round =>
        clear hown hbel hcell
        rename_i wr2 _
        obtain ⟨m, hm, rfl, A2, c2, rfl, hown, hbel⟩ := hrel
        have hsz := hbel.size
        cases m with
        | zero =>
          go_wp2
          go_roundw
          case rel =>
            refine ⟨k + 1, by omega, by go_num, A2, c2, slice_len (by omega), ?_, hbel⟩
            refine hown.to (by omega) ?_
            rw [HT.out, Nat.sub_zero, Bm.bits8_all]
          case measure => simp [intOf] <;> omega
        | succ p =>
          have hp : ((p + 1 : Nat) : Int) - 1 = (p : Int) := by omega
          rw [hp]
          clear hp
          go_wp2_with (at_builtin; refine app8 _ rfl _ _ rfl w.heap.size _ _ _ _ (x / 2 ^ p % 2) _ (bit_u8 x p hx) rfl hown rfl (by omega) hsz ?_; intro A3 c3 w3 hown3 hgrow3)
          go_roundw
          case rel =>
            refine ⟨p, by omega, by go_num, A3, c3, slice_len (by omega), ?_, hbel.grown hgrow3 hsz (fun j hj => (hown.block j hj).1)⟩
            refine hown3.to (by omega) ?_
            rw [show 8 - p = 8 - (p + 1) + 1 by omega, Bm.bits8_take x _ (by omega), show 7 - (8 - (p + 1)) = p by omega, ← List.append_assoc]
          case measure => simp [intOf] <;> omega
    · go_wp2
      go_ret
      have hkn : k = n := by omega
      refine ⟨A1, 8 * k, c1, rfl, ?_, hbel⟩
      rw [hkn, HN.out, List.take_length] at hown
      rw [hkn, HN.out]
      exact hown
theorem s32_hi {s : Nat} (h : s % 2 = 1) : Crc.s32 s = (s / 2) ^^^ 3988292384 := by unfold Crc.s32; rw [if_pos h]
theorem s32_lo {s : Nat} (h : ¬ s % 2 = 1) : Crc.s32 s = s / 2 := by unfold Crc.s32; rw [if_neg h]
theorem bit_u32 (s k : Nat) (hs : s < 4294967296) : bits BinOp.and IntKind.u32 ((s : Int) / 2 ^ k) 1 = ((s / 2 ^ k % 2 : Nat) : Int) := by
  have e : ((s : Int) / 2 ^ k) = ((s / 2 ^ k : Nat) : Int) := by simp
  have hle : s / 2 ^ k ≤ s := Nat.div_le_self _ _
  rw [e, show (1 : Int) = ((1 : Nat) : Int) from rfl, u32_and_nat _ _ (by omega) (by omega), nat_mask1]
theorem bit_u32_one (s : Nat) (hs : s < 4294967296) : bits BinOp.and IntKind.u32 (s : Int) 1 = ((s % 2 : Nat) : Int) := by
  have := bit_u32 s 0 hs
  simpa using this
set_option maxHeartbeats 400000 in
/-- crc32.take. -/
theorem take32 (s x : Nat) (w : World) (hs : s < 4294967296) (hx : x < 256) :
    Calls Tryd.prog 190 #[.int .u32 (s : Int), .int .u8 (x : Int)] w fun e w' => e = .returned (.int .u32 (Crc.tk Crc.s32 1 s x : Nat)) ∧ w = w' := by
  have e2 := u32_xor_nat s x hs (by omega)
  have h2 : s ^^^ x < 4294967296 := Nat.xor_lt_two_pow (n := 32) hs (by omega)
  have HB : Hid (Crc.tk Crc.s32 1 s x = Crc.it Crc.s32 8 (s ^^^ x)) := by unfold Hid Crc.tk; rw [Nat.mul_one]
  obtain ⟨y, hy⟩ : ∃ y, y = s ^^^ x := ⟨_, rfl⟩
  rw [← hy] at e2 h2 HB
  clear hy
  go_enter Tryd.func190, Tryd.ntmps190
  go_wp2
  clear e2
  go_loop [0, 10] (fun s i => ∃ k r : Nat, k ≤ 8 ∧ r < 4294967296 ∧ i = .int .i64 k ∧ s = .int .u32 (r : Int) ∧ Hid (r = Crc.it Crc.s32 k y)) (fun _ i => 8 - (intOf i).toNat)
  case atStart => exact ⟨0, y, Nat.zero_le _, h2, rfl, rfl, rfl⟩
  case round =>
    obtain ⟨k, r, hk, hr, rfl, rfl, HR⟩ := hrel
    have h5 := Crc.s32_lt r hr
    by_cases hlt : k < 8
    · have e3 := bit_u32_one r hr
      obtain ⟨m, hm⟩ : ∃ m, m = r / 2 := ⟨_, rfl⟩
      have e4 : (r : Int) / 2 = (m : Int) := by omega
      by_cases ht : r % 2 = 1
      · have HS := Lib.hid (s32_hi ht)
        rw [ht] at e3
        have e5 : bits BinOp.xor IntKind.u32 (m : Int) 3988292384 = (Crc.s32 r : Int) := by rw [HS.out, ← hm]; exact u32_xor_nat m 3988292384 (by omega) (by omega)
        clear ht hm
        go_wp2
        go_round
        case rel => exact ⟨k + 1, Crc.s32 r, by omega, h5, by go_num, rfl, by unfold Hid; rw [Crc.it_succ, ← HR.out]⟩
        case measure => simp [intOf] <;> omega
      · have HS := Lib.hid (s32_lo ht)
        rw [← hm] at HS
        rw [show r % 2 = 0 by omega] at e3
        clear ht hm
        go_wp2
        go_round
        case rel => exact ⟨k + 1, Crc.s32 r, by omega, h5, by go_num, by rw [HS.out], by unfold Hid; rw [Crc.it_succ, ← HR.out]⟩
        case measure => simp [intOf] <;> omega
    · go_wp2
      go_ret
      refine ⟨ret_int' ?_, rfl⟩
      rw [HB.out, HR.out, show k = 8 by omega]
set_option maxHeartbeats 400000 in
/-- crc32.Sum. -/
theorem sum32 (A : Option Addr) (n c : Nat) (bs : List Nat) (w : World) (hr : Rd w w.heap.size A n (U8 bs)) (hb : ∀ b ∈ bs, b < 256) (hn : n ≤ 65536) :
    Calls Tryd.prog 163 #[.slice A n c] w fun e w' => e = .returned (.int .u32 (Crc.c32 bs : Nat)) ∧ w = w' := by
  have HN := Lib.hid hr.len8
  have HL := Lib.hid (fun k => Crc.r32_lt (bs.take k) (take256 hb k))
  have HT := Lib.hid (Crc.run_take Crc.s32 1 4294967295 bs)
  go_enter Tryd.func163, Tryd.ntmps163
  go_wp2
  go_loop [3, 8] (fun s i => ∃ k r : Nat, k ≤ n ∧ i = .int .i64 k ∧ s = .int .u32 (r : Int) ∧ r < 4294967296 ∧ Hid (r = Crc.r32 (bs.take k))) (fun _ i => n - (intOf i).toNat)
  case atStart => exact ⟨0, 4294967295, Nat.zero_le _, rfl, rfl, by omega, rfl⟩
  case round =>
    obtain ⟨k, r, hk, rfl, rfl, hr2, HR⟩ := hrel
    by_cases hlt : k < n
    · obtain ⟨b', off, rfl, hlt2, hcell⟩ := hr.cell8 k hlt
      have hx := Bm.byte_lt bs hb k
      have HS : Hid (Crc.r32 (bs.take (k + 1)) = Crc.tk Crc.s32 1 r (bs.getD k 0)) := by unfold Hid; rw [HR.out]; exact HT.out k (by rw [← HN.out]; exact hlt)
      have hl := HL.out (k + 1)
      rw [HS.out] at hl
      obtain ⟨x, hxe⟩ : ∃ x, x = bs.getD k 0 := ⟨_, rfl⟩
      rw [← hxe] at hx hcell HS hl
      clear hxe
      go_wp2_with (go_at_call 190; refine (take32 r x _ hr2 hx).mono ?_; rintro e w' ⟨rfl, rfl⟩)
      go_round
      case rel => exact ⟨k + 1, _, by omega, by go_num, rfl, hl, HS.out.symm⟩
      case measure => simp [intOf] <;> omega
    · go_wp2
      go_ret
      refine ⟨ret_int' ?_, rfl⟩
      unfold Crc.c32
      rw [← List.take_of_length_le (l := bs) (i := k) (by rw [← HN.out]; omega), ← HR.out]
      exact u32_xor_nat 4294967295 r (by omega) hr2
theorem known32 : Crc.c32 [49, 50, 51, 52, 53, 54, 55, 56, 57] = 3421780262 := by decide +kernel
theorem known_lt : ∀ b ∈ [49, 50, 51, 52, 53, 54, 55, 56, 57], b < 256 := by decide
end Go.Proofs.YtkmacepodomdmaaDoor
