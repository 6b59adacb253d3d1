/-
  Contracts of the reference's Sum and Seal of 16 bits.
-/
import Derived.Test.YtmafkcjlehlebaaCe
namespace Go.Proofs.Ytmafkcjlehlebaa
open Go.RowKit
set_option linter.unusedVariables false

theorem i64_xor_nat (a b : Nat) (ha : a < 4294967296) (hb : b < 4294967296) : bits BinOp.xor IntKind.i64 (a : Int) (b : Int) = ((a ^^^ b : Nat) : Int) := by
  have hx : a ^^^ b < 2 ^ 32 := Nat.xor_lt_two_pow (by omega) (by omega)
  show IntKind.i64.wrap ((BitVec.ofInt 64 (a : Int) ^^^ BitVec.ofInt 64 (b : Int)).toNat : Int) = _
  rw [BitVec.toNat_xor, ofInt_u64 a (by omega), ofInt_u64 b (by omega)]
  exact IntWalk.i64_in _ (by omega)

set_option maxHeartbeats 400000 in
/-- The reference's Sum. -/
theorem refSum16 (A : Option Addr) (n c : Nat) (bs : List Nat) (w : World) (hr : Rd w w.heap.size A n (U8 bs)) (hb : ∀ b ∈ bs, b < 256) (hn : n ≤ 65536) :
    Calls Try.prog 19 #[.slice A n c] w fun e w' => e = .returned (.int .u16 (Crc.r16 bs : Nat)) ∧ w = w' := by
  have HN := Lib.hid hr.len8
  have HL := Lib.hid (fun k => Crc.r16_lt (bs.take k) (take256 hb k))
  have HT := Lib.hid (Crc.run_take Crc.s16 256 65535 bs)
  go_enter Try.func19, Try.ntmps19
  go_wp2
  go_loop [3, 4] (fun s i => ∃ k r : Nat, k ≤ n ∧ i = .int .i64 k ∧ s = .int .i64 (r : Int) ∧ r < 65536 ∧ Hid (r = Crc.r16 (bs.take k))) (fun _ i => n - (intOf i).toNat)
  case atStart => exact ⟨0, 65535, Nat.zero_le _, rfl, rfl, by omega, rfl⟩
  case round =>
    obtain ⟨k, r, hk, rfl, rfl, hr2, HR⟩ := hrel
    by_cases hlt : k < n
    · obtain ⟨b', off, rfl, hlt2, hcell⟩ := hr.cell8 k hlt
      have hx := Bm.byte_lt bs hb k
      have HS : Hid (Crc.r16 (bs.take (k + 1)) = Crc.it Crc.s16 8 (r ^^^ bs.getD k 0 * 256)) := by unfold Hid; rw [HR.out]; exact HT.out k (by rw [← HN.out]; exact hlt)
      obtain ⟨x, hxe⟩ : ∃ x, x = bs.getD k 0 := ⟨_, rfl⟩
      rw [← hxe] at hx hcell HS
      clear hxe
      have e2 : bits BinOp.xor IntKind.i64 (r : Int) ((x : Int) * 256) = ((r ^^^ x * 256 : Nat) : Int) := by
        have := i64_xor_nat r (x * 256) (by omega) (by omega)
        simpa using this
      have h2 : r ^^^ x * 256 < 65536 := Nat.xor_lt_two_pow (n := 16) hr2 (by omega)
      generalize r ^^^ x * 256 = y at *
      go_wp2
      clear e2
      go_loop [3, 5] (fun s i => ∃ j z : Nat, j ≤ 8 ∧ z < 65536 ∧ i = .int .i64 j ∧ s = .int .i64 (z : Int) ∧ Hid (z = Crc.it Crc.s16 j y)) (fun _ i => 8 - (intOf i).toNat)
      case atStart => exact ⟨0, y, Nat.zero_le _, h2, rfl, rfl, rfl⟩
      case round =>
        obtain ⟨j, z, hj, hz, rfl, rfl, HZ⟩ := hrel
        have h5 := Crc.s16_lt z
        by_cases hj8 : j < 8
        · by_cases ht : 32768 ≤ z
          · have HS2 := Lib.hid (s16_hi hz ht)
            have e3 : (z : Int) / 32768 = 1 := by omega
            obtain ⟨m, hm⟩ : ∃ m, m = 2 * z - 65536 := ⟨_, rfl⟩
            have e4 : (z : Int) * 2 % 65536 = (m : Int) := by omega
            have e5 : bits BinOp.xor IntKind.i64 (m : Int) 4129 = (Crc.s16 z : Int) := by rw [HS2.out, ← hm]; exact i64_xor_nat m 4129 (by omega) (by omega)
            clear hm
            go_wp2
            go_round
            case rel => exact ⟨j + 1, Crc.s16 z, by omega, h5, by go_num, rfl, by unfold Hid; rw [Crc.it_succ, ← HZ.out]⟩
            case measure => simp [intOf] <;> omega
          · have HS2 := Lib.hid (s16_lo (s := z) (by omega))
            have e3 : (z : Int) / 32768 = 0 := by omega
            have e4 : (z : Int) * 2 % 65536 = ((2 * z : Nat) : Int) := by omega
            go_wp2
            go_round
            case rel => exact ⟨j + 1, Crc.s16 z, by omega, h5, by go_num, by rw [HS2.out]; go_num, by unfold Hid; rw [Crc.it_succ, ← HZ.out]⟩
            case measure => simp [intOf] <;> omega
        · go_wp2
          go_round
          case rel => exact ⟨k + 1, z, by omega, by go_num, rfl, hz, by unfold Hid; rw [HS.out, HZ.out, show j = 8 by omega]⟩
          case measure => simp [intOf] <;> omega
    · go_wp2
      go_ret
      refine ⟨ret_int' ?_, rfl⟩
      rw [HR.out, List.take_of_length_le (by rw [← HN.out]; omega)]

set_option maxHeartbeats 400000 in
/-- The reference's Seal. -/
theorem refSeal16 (A : Option Addr) (n c : Nat) (bs : List Nat) (w : World) (hr : Rd w w.heap.size A n (U8 bs)) (hb : ∀ b ∈ bs, b < 256) (hnone : A = none → n = 0 ∧ c = 0) (hn : n ≤ 65536) :
    Calls Try.prog 21 #[.slice A n c] w (Made w (Crc.seal16 bs)) := by
  obtain ⟨i0, hi0, hz0, hz1, hz2⟩ := info_parts info5
  have HN := Lib.hid hr.len8
  have C := Lib.hid (refSum16 A n c bs w hr hb hn)
  have hl := Crc.r16_lt bs hb
  have HS : Hid (Crc.seal16 bs = bs ++ [Crc.r16 bs / 256, Crc.r16 bs % 256]) := rfl
  generalize Crc.r16 bs = s at *
  obtain ⟨h, hh⟩ : ∃ h, h = s / 256 := ⟨_, rfl⟩
  obtain ⟨l, hll⟩ : ∃ l, l = s % 256 := ⟨_, rfl⟩
  have e1 : (s : Int) / 256 = (h : Int) := by omega
  have e2 : (s : Int) % 256 = (l : Int) := by omega
  have h1 : h < 256 := by omega
  have h2 : l < 256 := by omega
  rw [← hh, ← hll] at HS
  clear hh hll
  have o1 : Own (w.alloc (.cells #[] 5)) w.heap.size 5 (some ⟨w.heap.size, 0, none⟩) 0 0 [] := ⟨World.ownsRow_made w #[] 0 (Nat.le_refl _) (by unfold maxLen; omega) (by simp)⟩
  have bel0 : Below w.heap.size w (w.alloc (.cells #[] 5)) := (Below.refl _ _).alloc (Nat.le_refl _) _
  go_enter Try.func21, Try.ntmps21
  go_wp2_with (first
    | (go_at_call 19; refine C.out.mono ?_; rintro e w' ⟨rfl, rfl⟩)
    | (at_builtin; refine wpList_app _ rfl _ _ 22 rfl w.heap.size 5 i0 _ 1 Try.underlying22 hi0 hz0 hz1 hz2 rfl _ 0 0 [] rfl o1 w.heap.size A n c (U8 bs) rfl (hr.below bel0) hnone (U8_one bs) (by omega) (by unfold maxLen; omega) bel0.size ?_; intro A5 c5 w5 hown5 hgrow5; have own5 := hown5.to (Nat.zero_add n) (List.nil_append (U8 bs)); have hbel5 : Below w.heap.size w w5 := bel0.grown hgrow5 bel0.size (fun j hj => by simp [Value.ownBlock] at hj; omega))
    | (at_builtin; refine wpList_app _ rfl _ _ 22 rfl w.heap.size 5 i0 _ 1 Try.underlying22 hi0 hz0 hz1 hz2 rfl A5 n c5 (U8 bs) rfl (own5.below ((Below.refl _ _).alloc (Nat.le_refl _) _) (Nat.le_refl _)) _ _ 2 2 (U8 [h, l]) rfl (rd_block w5 5 _ (0, 0) _ 2 rfl rfl) (by simp) (U8_one _) (by omega) (by unfold maxLen; omega) (by simp; exact Nat.le_trans hbel5.size (Nat.le_succ _)) ?_; intro A6 c6 w6 hown6 hgrow6))
  go_ret
  refine ⟨A6, n + 2, c6, rfl, ?_, ?_⟩
  · rw [HS.out, U8_append]; exact hown6
  · exact (hbel5.alloc hbel5.size _).grown hgrow6 (by simp; exact Nat.le_trans hbel5.size (Nat.le_succ _)) (fun j hj => (own5.block j hj).1)
end Go.Proofs.Ytmafkcjlehlebaa
