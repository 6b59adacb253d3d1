/-
  Contracts of bits.Of, crc32.take, crc32.Sum, stands, cut.
-/
import Derived.Test.YtoiibjblaafgpabMem
import Derived.Test.YtoiibjblaafgpabCm
import Derived.Lib.SlBytesConst
namespace Go.Proofs.Ytoiibjblaafgpab
open Go.RowKit
set_option linter.unusedVariables false
theorem s32_hi {s : Nat} (h : s % 2 = 1) : Crc.s32 s = (s / 2) ^^^ 3988292384 := by unfold Crc.s32; rw [if_pos h]
theorem s32_lo {s : Nat} (h : ¬ s % 2 = 1) : Crc.s32 s = s / 2 := by unfold Crc.s32; rw [if_neg h]
theorem bit_u32 (s k : Nat) (hs : s < 4294967296) : bits BinOp.and IntKind.u32 ((s : Int) / 2 ^ k) 1 = ((s / 2 ^ k % 2 : Nat) : Int) := by
  have e : ((s : Int) / 2 ^ k) = ((s / 2 ^ k : Nat) : Int) := by simp
  have hle : s / 2 ^ k ≤ s := Nat.div_le_self _ _
  rw [e, show (1 : Int) = ((1 : Nat) : Int) from rfl, u32_and_nat _ _ (by omega) (by omega), nat_mask1]
theorem bit_u32_one (s : Nat) (hs : s < 4294967296) : bits BinOp.and IntKind.u32 (s : Int) 1 = ((s % 2 : Nat) : Int) := by
  have := bit_u32 s 0 hs
  simpa using this
set_option maxHeartbeats 400000 in
/-- crc32.take. -/
theorem take32 (s x : Nat) (w : World) (hs : s < 4294967296) (hx : x < 256) :
    Calls Try.prog 30 #[.int .u32 (s : Int), .int .u8 (x : Int)] w fun e w' => e = .returned (.int .u32 (Crc.tk Crc.s32 1 s x : Nat)) ∧ w = w' := by
  have e2 := u32_xor_nat s x hs (by omega)
  have h2 : s ^^^ x < 4294967296 := Nat.xor_lt_two_pow (n := 32) hs (by omega)
  have HB : Hid (Crc.tk Crc.s32 1 s x = Crc.it Crc.s32 8 (s ^^^ x)) := by unfold Hid Crc.tk; rw [Nat.mul_one]
  obtain ⟨y, hy⟩ : ∃ y, y = s ^^^ x := ⟨_, rfl⟩
  rw [← hy] at e2 h2 HB
  clear hy
  go_enter Try.func30, Try.ntmps30
  go_wp2
  clear e2
  go_loop [0, 10] (fun s i => ∃ k r : Nat, k ≤ 8 ∧ r < 4294967296 ∧ i = .int .i64 k ∧ s = .int .u32 (r : Int) ∧ Hid (r = Crc.it Crc.s32 k y)) (fun _ i => 8 - (intOf i).toNat)
  case atStart => exact ⟨0, y, Nat.zero_le _, h2, rfl, rfl, rfl⟩
  case round =>
    obtain ⟨k, r, hk, hr, rfl, rfl, HR⟩ := hrel
    have h5 := Crc.s32_lt r hr
    by_cases hlt : k < 8
    · have e3 := bit_u32_one r hr
      obtain ⟨m, hm⟩ : ∃ m, m = r / 2 := ⟨_, rfl⟩
      have e4 : (r : Int) / 2 = (m : Int) := by omega
      by_cases ht : r % 2 = 1
      · have HS := Lib.hid (s32_hi ht)
        rw [ht] at e3
        have e5 : bits BinOp.xor IntKind.u32 (m : Int) 3988292384 = (Crc.s32 r : Int) := by rw [HS.out, ← hm]; exact u32_xor_nat m 3988292384 (by omega) (by omega)
        clear ht hm
        go_wp2
        go_round
        case rel => exact ⟨k + 1, Crc.s32 r, by omega, h5, by go_num, rfl, by unfold Hid; rw [Crc.it_succ, ← HR.out]⟩
        case measure => simp [intOf] <;> omega
      · have HS := Lib.hid (s32_lo ht)
        rw [← hm] at HS
        rw [show r % 2 = 0 by omega] at e3
        clear ht hm
        go_wp2
        go_round
        case rel => exact ⟨k + 1, Crc.s32 r, by omega, h5, by go_num, by rw [HS.out], by unfold Hid; rw [Crc.it_succ, ← HR.out]⟩
        case measure => simp [intOf] <;> omega
    · go_wp2
      go_ret
      refine ⟨ret_int' ?_, rfl⟩
      rw [HB.out, HR.out, show k = 8 by omega]
set_option maxHeartbeats 400000 in
/-- crc32.Sum. -/
theorem sum32 (A : Option Addr) (n c : Nat) (bs : List Nat) (w : World) (hr : Rd w w.heap.size A n (U8 bs)) (hb : ∀ b ∈ bs, b < 256) (hn : n ≤ 65536) :
    Calls Try.prog 29 #[.slice A n c] w fun e w' => e = .returned (.int .u32 (Crc.c32 bs : Nat)) ∧ w = w' := by
  have HN := Lib.hid hr.len8
  have HL := Lib.hid (fun k => Crc.r32_lt (bs.take k) (take256 hb k))
  have HT := Lib.hid (Crc.run_take Crc.s32 1 4294967295 bs)
  go_enter Try.func29, Try.ntmps29
  go_wp2
  go_loop [3, 8] (fun s i => ∃ k r : Nat, k ≤ n ∧ i = .int .i64 k ∧ s = .int .u32 (r : Int) ∧ r < 4294967296 ∧ Hid (r = Crc.r32 (bs.take k))) (fun _ i => n - (intOf i).toNat)
  case atStart => exact ⟨0, 4294967295, Nat.zero_le _, rfl, rfl, by omega, rfl⟩
  case round =>
    obtain ⟨k, r, hk, rfl, rfl, hr2, HR⟩ := hrel
    by_cases hlt : k < n
    · obtain ⟨b', off, rfl, hlt2, hcell⟩ := hr.cell8 k hlt
      have hx := Bm.byte_lt bs hb k
      have HS : Hid (Crc.r32 (bs.take (k + 1)) = Crc.tk Crc.s32 1 r (bs.getD k 0)) := by unfold Hid; rw [HR.out]; exact HT.out k (by rw [← HN.out]; exact hlt)
      have hl := HL.out (k + 1)
      rw [HS.out] at hl
      obtain ⟨x, hxe⟩ : ∃ x, x = bs.getD k 0 := ⟨_, rfl⟩
      rw [← hxe] at hx hcell HS hl
      clear hxe
      go_wp2_with (go_at_call 30; refine (take32 r x _ hr2 hx).mono ?_; rintro e w' ⟨rfl, rfl⟩)
      go_round
      case rel => exact ⟨k + 1, _, by omega, by go_num, rfl, hl, HS.out.symm⟩
      case measure => simp [intOf] <;> omega
    · go_wp2
      go_ret
      refine ⟨ret_int' ?_, rfl⟩
      unfold Crc.c32
      rw [← List.take_of_length_le (l := bs) (i := k) (by rw [← HN.out]; omega), ← HR.out]
      exact u32_xor_nat 4294967295 r (by omega) hr2
theorem known32 : Crc.c32 [49, 50, 51, 52, 53, 54, 55, 56, 57] = 3421780262 := by decide +kernel
theorem known_lt : ∀ b ∈ [49, 50, 51, 52, 53, 54, 55, 56, 57], b < 256 := by decide
set_option maxHeartbeats 400000 in
theorem stands (w : World) : Calls Try.prog 18 #[] w fun e w' => e = .returned (.bool true) ∧ Below w.heap.size w w' := by
  have kc := fun (w : World) (C : Array Value) (n c : Nat) => Lib.run_convert_bytes_const (P := Try.prog) w 22 5 C n c Try.underlying22 Try.underlying5
  have C := Lib.hid (sum32 _ 9 9 [49, 50, 51, 52, 53, 54, 55, 56, 57] _ (rd_block w 5 #[.int .u8 49, .int .u8 50, .int .u8 51, .int .u8 52, .int .u8 53, .int .u8 54, .int .u8 55, .int .u8 56, .int .u8 57] (9, 10) (U8 [49, 50, 51, 52, 53, 54, 55, 56, 57]) 9 rfl rfl) known_lt (by omega))
  rw [known32] at C
  go_enter Try.func18, Try.ntmps18
  go_wp2_with (go_at_call 29; refine C.out.mono ?_; rintro e w' ⟨rfl, rfl⟩)
  go_ret
  exact ⟨rfl, (Below.refl _ _).alloc (Nat.le_refl _) _⟩
set_option maxHeartbeats 400000 in
/-- cut. -/
theorem cutC (A : Option Addr) (n c : Nat) (bs : List Nat) (w : World) (hr : Rd w w.heap.size A n (U8 bs)) (hnc : n ≤ c) (hc : c ≤ 9223372036854775807) (hnone : A = none → n = 0 ∧ c = 0) :
    Calls Try.prog 16 #[.slice A n c, .int .i64 8] w (Made w (bs.take 8)) := by
  obtain ⟨i0, hi0, hz0, hz1, hz2⟩ := info_parts info5
  have hl := hr.len8
  obtain ⟨k, hk, hk2, hk3⟩ := min_if n 8
  obtain ⟨hm1, hm2⟩ := hk3 8 rfl
  clear hk3
  have hkt : bs.take 8 = bs.take k := by
    by_cases h : k = 8
    · rw [h]
    · rw [List.take_of_length_le (by omega), List.take_of_length_le (by omega)]
  rw [hkt]
  have r1 := hr.cut8 k hk2
  generalize bs.take k = ls at *
  have bel0 : Below w.heap.size w (w.alloc (.cells #[] 5)) := (Below.refl _ _).alloc (Nat.le_refl _) _
  have hn2 : A = none → k = 0 ∧ c = 0 := fun h => ⟨by have := (hnone h).1; omega, (hnone h).2⟩
  have o1 : Own (w.alloc (.cells #[] 5)) w.heap.size 5 (some ⟨w.heap.size, 0, none⟩) 0 0 [] := ⟨World.ownsRow_made w #[] 0 (Nat.le_refl _) (by unfold maxLen; omega) (by simp)⟩
  clear hkt hr hl hnone
  go_enter Try.func16, Try.ntmps16
  go_wp2_with (at_builtin; refine wpList_app _ rfl _ _ 22 rfl w.heap.size 5 i0 _ 1 Try.underlying22 hi0 hz0 hz1 hz2 rfl _ 0 0 [] rfl o1 w.heap.size A k c (U8 ls) rfl (r1.below bel0) hn2 (U8_one ls) (by omega) (by unfold maxLen; omega) bel0.size ?_; intro A5 c5 w5 hown5 hgrow5)
  go_ret
  exact ⟨A5, k, c5, rfl, hown5.to (Nat.zero_add k) (List.nil_append (U8 ls)), bel0.grown hgrow5 bel0.size (fun j hj => by simp [Value.ownBlock] at hj; omega)⟩
end Go.Proofs.Ytoiibjblaafgpab
