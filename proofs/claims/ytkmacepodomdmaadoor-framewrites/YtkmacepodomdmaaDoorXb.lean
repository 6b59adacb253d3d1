/-
  Layer 5 and its reference: take, Sum, Seal, Right.
-/
import Derived.Test.YtkmacepodomdmaaDoorZa
import Derived.Test.YtkmacepodomdmaaDoorCm
import Derived.Test.YtkmacepodomdmaaDoorCn
import Derived.BigQuiet
import Derived.Deep.QuietTactic
namespace Go.Proofs.YtkmacepodomdmaaDoor
open Go.RowKit
set_option maxRecDepth 100000
set_option linter.unusedVariables false
set_option linter.unusedSimpArgs false

theorem s16_hi {s : Nat} (hs : s < 65536) (h : 32768 ≤ s) : Crc.s16 s = (2 * s - 65536) ^^^ 4129 := by
  unfold Crc.s16; rw [if_pos (by omega), show 2 * s % 65536 = 2 * s - 65536 by omega]
theorem s16_lo {s : Nat} (h : s < 32768) : Crc.s16 s = 2 * s := by unfold Crc.s16; rw [if_neg (by omega), show 2 * s % 65536 = 2 * s by omega]
set_option maxHeartbeats 400000 in
/-- crc16.take. -/
theorem take16 (s x : Nat) (w : World) (hs : s < 65536) (hx : x < 256) :
    Calls Tryd.prog 149 #[.int .u16 (s : Int), .int .u8 (x : Int)] w fun e w' => e = .returned (.int .u16 (Crc.tk Crc.s16 256 s x : Nat)) ∧ w = w' := by
  have e2 : bits BinOp.xor IntKind.u16 (s : Int) ((x : Int) * 256) = ((s ^^^ x * 256 : Nat) : Int) := by
    have := u16_xor_nat s (x * 256) hs (by omega)
    simpa using this
  have h2 : s ^^^ x * 256 < 65536 := Nat.xor_lt_two_pow (n := 16) hs (by omega)
  have HB : Hid (Crc.tk Crc.s16 256 s x = Crc.it Crc.s16 8 (s ^^^ x * 256)) := rfl
  obtain ⟨y, hy⟩ : ∃ y, y = s ^^^ x * 256 := ⟨_, rfl⟩
  rw [← hy] at e2 h2 HB
  clear hy
  go_enter Tryd.func149, Tryd.ntmps149
  go_wp2
  clear e2
  go_loop [0, 11] (fun s i => ∃ k r : Nat, k ≤ 8 ∧ r < 65536 ∧ i = .int .i64 k ∧ s = .int .u16 (r : Int) ∧ Hid (r = Crc.it Crc.s16 k y)) (fun _ i => 8 - (intOf i).toNat)
  case atStart => exact ⟨0, y, Nat.zero_le _, h2, rfl, rfl, rfl⟩
  case round =>
    obtain ⟨k, r, hk, hr, rfl, rfl, HR⟩ := hrel
    have h5 := Crc.s16_lt r
    by_cases hlt : k < 8
    · by_cases ht : 32768 ≤ r
      · have HS := Lib.hid (s16_hi hr ht)
        have e3 : (r : Int) / 32768 = 1 := by omega
        obtain ⟨m, hm⟩ : ∃ m, m = 2 * r - 65536 := ⟨_, rfl⟩
        have e4 : IntKind.u16.wrap ((r : Int) * 2) = (m : Int) := by rw [wrap_u16]; omega
        have e5 : bits BinOp.xor IntKind.u16 (m : Int) 4129 = (Crc.s16 r : Int) := by rw [HS.out, ← hm]; exact u16_xor_nat m 4129 (by omega) (by omega)
        clear hm
        go_wp2
        go_round
        case rel => exact ⟨k + 1, Crc.s16 r, by omega, h5, by go_num, rfl, by unfold Hid; rw [Crc.it_succ, ← HR.out]⟩
        case measure => simp [intOf] <;> omega
      · have HS := Lib.hid (s16_lo (s := r) (by omega))
        have e3 : (r : Int) / 32768 = 0 := by omega
        go_wp2
        go_round
        case rel => exact ⟨k + 1, Crc.s16 r, by omega, h5, by go_num, by rw [HS.out]; go_num, by unfold Hid; rw [Crc.it_succ, ← HR.out]⟩
        case measure => simp [intOf] <;> omega
    · go_wp2
      go_ret
      refine ⟨ret_int' ?_, rfl⟩
      rw [HB.out, HR.out, show k = 8 by omega]
set_option maxHeartbeats 400000 in
/-- crc16.Sum. -/
theorem sum16 (A : Option Addr) (n c : Nat) (bs : List Nat) (w : World) (hr : Rd w w.heap.size A n (U8 bs)) (hb : ∀ b ∈ bs, b < 256) (hn : n ≤ 65536) :
    Calls Tryd.prog 117 #[.slice A n c] w fun e w' => e = .returned (.int .u16 (Crc.r16 bs : Nat)) ∧ w = w' := by
  have HN := Lib.hid hr.len8
  have HL := Lib.hid (fun k => Crc.r16_lt (bs.take k) (take256 hb k))
  have HT := Lib.hid (Crc.run_take Crc.s16 256 65535 bs)
  go_enter Tryd.func117, Tryd.ntmps117
  go_wp2
  go_loop [3, 8] (fun s i => ∃ k r : Nat, k ≤ n ∧ i = .int .i64 k ∧ s = .int .u16 (r : Int) ∧ r < 65536 ∧ Hid (r = Crc.r16 (bs.take k))) (fun _ i => n - (intOf i).toNat)
  case atStart => exact ⟨0, 65535, Nat.zero_le _, rfl, rfl, by omega, rfl⟩
  case round =>
    obtain ⟨k, r, hk, rfl, rfl, hr2, HR⟩ := hrel
    by_cases hlt : k < n
    · obtain ⟨b', off, rfl, hlt2, hcell⟩ := hr.cell8 k hlt
      have hx := Bm.byte_lt bs hb k
      have HS : Hid (Crc.r16 (bs.take (k + 1)) = Crc.tk Crc.s16 256 r (bs.getD k 0)) := by unfold Hid; rw [HR.out]; exact HT.out k (by rw [← HN.out]; exact hlt)
      have hl := HL.out (k + 1)
      rw [HS.out] at hl
      obtain ⟨x, hxe⟩ : ∃ x, x = bs.getD k 0 := ⟨_, rfl⟩
      rw [← hxe] at hx hcell HS hl
      clear hxe
      go_wp2_with (go_at_call 149; refine (take16 r x _ hr2 hx).mono ?_; rintro e w' ⟨rfl, rfl⟩)
      go_round
      case rel => exact ⟨k + 1, _, by omega, by go_num, rfl, hl, HS.out.symm⟩
      case measure => simp [intOf] <;> omega
    · go_wp2
      go_ret
      refine ⟨ret_int' ?_, rfl⟩
      rw [HR.out, List.take_of_length_le (by rw [← HN.out]; omega)]
set_option maxHeartbeats 400000 in
/-- crc16.Seal. -/
theorem sealC16 (A : Option Addr) (n c : Nat) (bs : List Nat) (w : World) (hr : Rd w w.heap.size A n (U8 bs)) (hb : ∀ b ∈ bs, b < 256) (hnone : A = none → n = 0 ∧ c = 0) (hn : n ≤ 65536) :
    Calls Tryd.prog 73 #[.slice A n c] w (Made w (Crc.seal16 bs)) := by
  obtain ⟨i0, hi0, hz0, hz1, hz2⟩ := info_parts info5
  have HN := Lib.hid hr.len8
  have C := Lib.hid (sum16 A n c bs w hr hb hn)
  have hl := Crc.r16_lt bs hb
  have HS : Hid (Crc.seal16 bs = bs ++ [Crc.r16 bs / 256, Crc.r16 bs % 256]) := rfl
  generalize Crc.r16 bs = s at *
  obtain ⟨h, hh⟩ : ∃ h, h = s / 256 := ⟨_, rfl⟩
  obtain ⟨l, hll⟩ : ∃ l, l = s % 256 := ⟨_, rfl⟩
  have e1 : (s : Int) / 256 = (h : Int) := by omega
  have e2 : (s : Int) % 256 = (l : Int) := by omega
  have h1 : h < 256 := by omega
  have h2 : l < 256 := by omega
  rw [← hh, ← hll] at HS
  clear hh hll
  go_enter Tryd.func73, Tryd.ntmps73
  go_wp2_with (first
    | (go_at_call 117; refine C.out.mono ?_; rintro e w' ⟨rfl, rfl⟩)
    | (at_make; refine wpList_make_own _ rfl _ _ 22 rfl w.heap.size 5 i0 (.int .u8 0) 1 Tryd.underlying22 hi0 hz0 hz1 .i64 .i64 _ (n + 2) rfl rfl (by first | rfl | omega) (by rw [hz2]; omega) (by unfold maxLen; omega) (Nat.le_refl _) ?_; intro w0 hown0 hgrow0; have hbel0 : Below w.heap.size w w0 := (Below.refl _ _).grown hgrow0 (Nat.le_refl _) (fun k h => by cases h))
    | (at_builtin; refine wpList_app _ rfl _ _ 22 rfl w.heap.size 5 i0 _ 1 Tryd.underlying22 hi0 hz0 hz1 hz2 rfl _ 0 (n + 2) [] rfl ⟨hown0⟩ w.heap.size A n c (U8 bs) rfl (hr.below hbel0) hnone (U8_one bs) (by omega) (by unfold maxLen; omega) hbel0.size ?_; intro A5 c5 w5 hown5 hgrow5; have own5 := hown5.to (Nat.zero_add n) (List.nil_append (U8 bs)); have hbel5 : Below w.heap.size w w5 := hbel0.grown hgrow5 hbel0.size (fun j hj => by simp [Value.ownBlock] at hj; omega))
    | (at_builtin; refine wpList_app _ rfl _ _ 22 rfl w.heap.size 5 i0 _ 1 Tryd.underlying22 hi0 hz0 hz1 hz2 rfl A5 n c5 (U8 bs) rfl (own5.below ((Below.refl _ _).alloc (Nat.le_refl _) _) (Nat.le_refl _)) _ _ 2 2 (U8 [h, l]) rfl (rd_block w5 5 _ (0, 0) _ 2 rfl rfl) (by simp) (U8_one _) (by omega) (by unfold maxLen; omega) (by simp; exact Nat.le_trans hbel5.size (Nat.le_succ _)) ?_; intro A6 c6 w6 hown6 hgrow6))
  go_ret
  refine ⟨A6, n + 2, c6, rfl, ?_, ?_⟩
  · rw [HS.out, U8_append]; exact hown6
  · exact (hbel5.alloc hbel5.size _).grown hgrow6 (by simp; exact Nat.le_trans hbel5.size (Nat.le_succ _)) (fun j hj => (own5.block j hj).1)
theorem or_16 (x y : Nat) (hx : x < 256) (hy : y < 256) : bits BinOp.or IntKind.u16 ((x : Int) * 256) (y : Int) = ((x * 256 + y : Nat) : Int) := by
  rw [show ((x : Int) * 256) = ((x * 256 : Nat) : Int) by omega, u16_or_nat _ _ (by omega) (by omega), nat_join 8 (x * 256) y (by omega) (by omega)]
set_option maxHeartbeats 400000 in
/-- crc16.Right. -/
theorem rightC16 (A : Option Addr) (n c : Nat) (bs : List Nat) (w : World) (hr : Rd w w.heap.size A n (U8 bs)) (hb : ∀ b ∈ bs, b < 256) (hnc : n ≤ c) (hn : n ≤ 65536) (hc : c ≤ 9223372036854775807) :
    Calls Tryd.prog 120 #[.slice A n c] w fun e w' => e = .returned (.bool (Crc.ok16 bs)) ∧ ∃ m, w' = w.drewN m := by
  have HN := Lib.hid hr.len8
  by_cases h2 : 2 ≤ n
  · obtain ⟨m, hm⟩ : ∃ m, m = n - 2 := ⟨_, rfl⟩
    have r1 := hr.cut8 m (by omega)
    obtain ⟨b, off, rfl, hlt, g1⟩ := hr.cell8 m (by omega)
    obtain ⟨b', off', he, _, g2⟩ := hr.cell8 (m + 1) (by omega)
    have C := Lib.hid (fun j => Calls.quiet_of_same ((sum16 (some ⟨b, off, none⟩) m c (bs.take m) (w.drewN j) (r1.below (below_drawn j)) (take256 hb m) (by omega)).mono fun e w' h => ⟨h.1, h.2.symm⟩))
    injection he with he
    injection he with he1 he2
    subst he1 he2
    have HO : Hid (Crc.ok16 bs = ((Crc.r16 (bs.take m) : Int) == ((bs.getD m 0 * 256 + bs.getD (m + 1) 0 : Nat) : Int))) := by
      unfold Hid Crc.ok16
      rw [← HN.out, ← hm, show n - 1 = m + 1 by omega, Bool.eq_iff_iff]
      simp only [decide_eq_true_eq, beq_iff_eq]
      omega
    have x1 := Bm.byte_lt bs hb m
    have x2 := Bm.byte_lt bs hb (m + 1)
    generalize bs.getD m 0 = x at *
    generalize bs.getD (m + 1) 0 = y at *
    generalize Crc.r16 (bs.take m) = s at *
    have e5 := or_16 x y x1 x2
    generalize x * 256 + y = u at *
    have t0 : decide ((0 : Int) ≤ (m : Int)) = true := by simp
    have e0 : (n : Int) - 2 = (m : Int) := by omega
    have f0 : (0 : Int) ≤ (m : Int) := by omega
    have f2 : (0 : Int) ≤ (m : Int) + 1 := by omega
    have f6 : (m : Int) < (n : Int) := by omega
    have f7 : (m : Int) + 1 < (n : Int) := by omega
    have f8 : (m : Int) ≤ (c : Int) := by omega
    have f1 : IntKind.i64.wrap ((m : Int) + 1) = (m : Int) + 1 := IntWalk.i64_in _ (by omega)
    have f4 : IntKind.u16.wrap ((x : Int) * 256) = (x : Int) * 256 := IntWalk.u16_in _ (by omega)
    have f3 : ((m : Int) + 1).toNat = m + 1 := by omega
    have g2' : w.cell? ⟨b, off + m + 1, none⟩ = some (.int .u8 (y : Int)) := by rw [Nat.add_assoc]; exact g2
    clear hm h2
    go_enter Tryd.func120, Tryd.ntmps120
    go_wp2_with fail
    go_quiet ((go_at_call 117; exact C.out _))
    go_wp2
    go_ret
    exact ⟨by rw [HO.out]; rfl, _, rfl⟩
  · have t0 : decide ((0 : Int) ≤ (n : Int) - 2) = false := by simp; omega
    have t1 : decide ((2 : Int) ≤ (n : Int)) = false := by simp; omega
    have t2 : decide (2 ≤ n) = false := by simp; omega
    have HO : Hid (Crc.ok16 bs = false) := by
      unfold Hid Crc.ok16
      rw [← HN.out]; simp; omega
    go_enter Tryd.func120, Tryd.ntmps120
    go_wp2_with fail
    go_quiet (fail)
    go_wp2
    go_ret
    exact ⟨by rw [HO.out]; rfl, _, rfl⟩
theorem i64_xor_nat (a b : Nat) (ha : a < 4294967296) (hb : b < 4294967296) : bits BinOp.xor IntKind.i64 (a : Int) (b : Int) = ((a ^^^ b : Nat) : Int) := by
  have hx : a ^^^ b < 2 ^ 32 := Nat.xor_lt_two_pow (by omega) (by omega)
  show IntKind.i64.wrap ((BitVec.ofInt 64 (a : Int) ^^^ BitVec.ofInt 64 (b : Int)).toNat : Int) = _
  rw [BitVec.toNat_xor, ofInt_u64 a (by omega), ofInt_u64 b (by omega)]
  exact IntWalk.i64_in _ (by omega)
set_option maxHeartbeats 400000 in
/-- The reference's Sum. -/
theorem refSum16 (A : Option Addr) (n c : Nat) (bs : List Nat) (w : World) (hr : Rd w w.heap.size A n (U8 bs)) (hb : ∀ b ∈ bs, b < 256) (hn : n ≤ 65536) :
    Calls Tryd.prog 76 #[.slice A n c] w fun e w' => e = .returned (.int .u16 (Crc.r16 bs : Nat)) ∧ w = w' := by
  have HN := Lib.hid hr.len8
  have HL := Lib.hid (fun k => Crc.r16_lt (bs.take k) (take256 hb k))
  have HT := Lib.hid (Crc.run_take Crc.s16 256 65535 bs)
  go_enter Tryd.func76, Tryd.ntmps76
  go_wp2
  go_loop [3, 4] (fun s i => ∃ k r : Nat, k ≤ n ∧ i = .int .i64 k ∧ s = .int .i64 (r : Int) ∧ r < 65536 ∧ Hid (r = Crc.r16 (bs.take k))) (fun _ i => n - (intOf i).toNat)
  case atStart => exact ⟨0, 65535, Nat.zero_le _, rfl, rfl, by omega, rfl⟩
  case round =>
    obtain ⟨k, r, hk, rfl, rfl, hr2, HR⟩ := hrel
    by_cases hlt : k < n
    · obtain ⟨b', off, rfl, hlt2, hcell⟩ := hr.cell8 k hlt
      have hx := Bm.byte_lt bs hb k
      have HS : Hid (Crc.r16 (bs.take (k + 1)) = Crc.it Crc.s16 8 (r ^^^ bs.getD k 0 * 256)) := by unfold Hid; rw [HR.out]; exact HT.out k (by rw [← HN.out]; exact hlt)
      obtain ⟨x, hxe⟩ : ∃ x, x = bs.getD k 0 := ⟨_, rfl⟩
      rw [← hxe] at hx hcell HS
      clear hxe
      have e2 : bits BinOp.xor IntKind.i64 (r : Int) ((x : Int) * 256) = ((r ^^^ x * 256 : Nat) : Int) := by
        have := i64_xor_nat r (x * 256) (by omega) (by omega)
        simpa using this
      have h2 : r ^^^ x * 256 < 65536 := Nat.xor_lt_two_pow (n := 16) hr2 (by omega)
      generalize r ^^^ x * 256 = y at *
      go_wp2
      clear e2
      go_loop [3, 5] (fun s i => ∃ j z : Nat, j ≤ 8 ∧ z < 65536 ∧ i = .int .i64 j ∧ s = .int .i64 (z : Int) ∧ Hid (z = Crc.it Crc.s16 j y)) (fun _ i => 8 - (intOf i).toNat)
      case atStart => exact ⟨0, y, Nat.zero_le _, h2, rfl, rfl, rfl⟩
      case round =>
        obtain ⟨j, z, hj, hz, rfl, rfl, HZ⟩ := hrel
        have h5 := Crc.s16_lt z
        by_cases hj8 : j < 8
        · by_cases ht : 32768 ≤ z
          · have HS2 := Lib.hid (s16_hi hz ht)
            have e3 : (z : Int) / 32768 = 1 := by omega
            obtain ⟨m, hm⟩ : ∃ m, m = 2 * z - 65536 := ⟨_, rfl⟩
            have e4 : (z : Int) * 2 % 65536 = (m : Int) := by omega
            have e5 : bits BinOp.xor IntKind.i64 (m : Int) 4129 = (Crc.s16 z : Int) := by rw [HS2.out, ← hm]; exact i64_xor_nat m 4129 (by omega) (by omega)
            clear hm
            go_wp2
            go_round
            case rel => exact ⟨j + 1, Crc.s16 z, by omega, h5, by go_num, rfl, by unfold Hid; rw [Crc.it_succ, ← HZ.out]⟩
            case measure => simp [intOf] <;> omega
          · have HS2 := Lib.hid (s16_lo (s := z) (by omega))
            have e3 : (z : Int) / 32768 = 0 := by omega
            have e4 : (z : Int) * 2 % 65536 = ((2 * z : Nat) : Int) := by omega
            go_wp2
            go_round
            case rel => exact ⟨j + 1, Crc.s16 z, by omega, h5, by go_num, by rw [HS2.out]; go_num, by unfold Hid; rw [Crc.it_succ, ← HZ.out]⟩
            case measure => simp [intOf] <;> omega
        · go_wp2
          go_round
          case rel => exact ⟨k + 1, z, by omega, by go_num, rfl, hz, by unfold Hid; rw [HS.out, HZ.out, show j = 8 by omega]⟩
          case measure => simp [intOf] <;> omega
    · go_wp2
      go_ret
      refine ⟨ret_int' ?_, rfl⟩
      rw [HR.out, List.take_of_length_le (by rw [← HN.out]; omega)]
set_option maxHeartbeats 400000 in
/-- The reference's Seal. -/
theorem refSeal16 (A : Option Addr) (n c : Nat) (bs : List Nat) (w : World) (hr : Rd w w.heap.size A n (U8 bs)) (hb : ∀ b ∈ bs, b < 256) (hnone : A = none → n = 0 ∧ c = 0) (hn : n ≤ 65536) :
    Calls Tryd.prog 40 #[.slice A n c] w (Made w (Crc.seal16 bs)) := by
  obtain ⟨i0, hi0, hz0, hz1, hz2⟩ := info_parts info5
  have HN := Lib.hid hr.len8
  have C := Lib.hid (refSum16 A n c bs w hr hb hn)
  have hl := Crc.r16_lt bs hb
  have HS : Hid (Crc.seal16 bs = bs ++ [Crc.r16 bs / 256, Crc.r16 bs % 256]) := rfl
  generalize Crc.r16 bs = s at *
  obtain ⟨h, hh⟩ : ∃ h, h = s / 256 := ⟨_, rfl⟩
  obtain ⟨l, hll⟩ : ∃ l, l = s % 256 := ⟨_, rfl⟩
  have e1 : (s : Int) / 256 = (h : Int) := by omega
  have e2 : (s : Int) % 256 = (l : Int) := by omega
  have h1 : h < 256 := by omega
  have h2 : l < 256 := by omega
  rw [← hh, ← hll] at HS
  clear hh hll
  have o1 : Own (w.alloc (.cells #[] 5)) w.heap.size 5 (some ⟨w.heap.size, 0, none⟩) 0 0 [] := ⟨World.ownsRow_made w #[] 0 (Nat.le_refl _) (by unfold maxLen; omega) (by simp)⟩
  have bel0 : Below w.heap.size w (w.alloc (.cells #[] 5)) := (Below.refl _ _).alloc (Nat.le_refl _) _
  go_enter Tryd.func40, Tryd.ntmps40
  go_wp2_with (first
    | (go_at_call 76; refine C.out.mono ?_; rintro e w' ⟨rfl, rfl⟩)
    | (at_builtin; refine wpList_app _ rfl _ _ 22 rfl w.heap.size 5 i0 _ 1 Tryd.underlying22 hi0 hz0 hz1 hz2 rfl _ 0 0 [] rfl o1 w.heap.size A n c (U8 bs) rfl (hr.below bel0) hnone (U8_one bs) (by omega) (by unfold maxLen; omega) bel0.size ?_; intro A5 c5 w5 hown5 hgrow5; have own5 := hown5.to (Nat.zero_add n) (List.nil_append (U8 bs)); have hbel5 : Below w.heap.size w w5 := bel0.grown hgrow5 bel0.size (fun j hj => by simp [Value.ownBlock] at hj; omega))
    | (at_builtin; refine wpList_app _ rfl _ _ 22 rfl w.heap.size 5 i0 _ 1 Tryd.underlying22 hi0 hz0 hz1 hz2 rfl A5 n c5 (U8 bs) rfl (own5.below ((Below.refl _ _).alloc (Nat.le_refl _) _) (Nat.le_refl _)) _ _ 2 2 (U8 [h, l]) rfl (rd_block w5 5 _ (0, 0) _ 2 rfl rfl) (by simp) (U8_one _) (by omega) (by unfold maxLen; omega) (by simp; exact Nat.le_trans hbel5.size (Nat.le_succ _)) ?_; intro A6 c6 w6 hown6 hgrow6))
  go_ret
  refine ⟨A6, n + 2, c6, rfl, ?_, ?_⟩
  · rw [HS.out, U8_append]; exact hown6
  · exact (hbel5.alloc hbel5.size _).grown hgrow6 (by simp; exact Nat.le_trans hbel5.size (Nat.le_succ _)) (fun j hj => (own5.block j hj).1)
theorem ok16_seal (bs : List Nat) (hb : ∀ b ∈ bs, b < 256) (h : 2 ≤ bs.length) : Crc.ok16 bs = decide (Crc.seal16 (bs.take (bs.length - 2)) = bs) := by
  have e := Crc.split2 bs h
  have h1 := Crc.r16_lt (bs.take (bs.length - 2)) (take256 hb _)
  have h2 := Bm.byte_lt bs hb (bs.length - 2)
  have h3 := Bm.byte_lt bs hb (bs.length - 1)
  unfold Crc.ok16 Crc.seal16
  rw [Bool.eq_iff_iff]
  simp only [decide_eq_true_eq]
  conv => rhs; rhs; rw [e]
  constructor
  · rintro ⟨_, h4⟩
    rw [h4]
    congr 1
    congr 1
    · omega
    · congr 1; omega
  · intro h4
    have h5 := List.append_cancel_left h4
    simp only [List.cons.injEq, and_true] at h5
    exact ⟨h, by omega⟩
set_option maxHeartbeats 1000000 in
/-- The reference's Right. -/
theorem refRight16 (A : Option Addr) (n c : Nat) (bs : List Nat) (w : World) (hr : Rd w w.heap.size A n (U8 bs)) (hb : ∀ b ∈ bs, b < 256) (hnc : n ≤ c) (hn : n ≤ 65536) (hc : c ≤ 9223372036854775807)
    (hcv : Hid (∀ W, Below w.heap.size w W → convO A n c W = .ok (.string (str bs)) W)) :
    Calls Tryd.prog 46 #[.slice A n c] w fun e w' => e = .returned (.bool (Crc.ok16 bs)) ∧ Below w.heap.size w w' := by
  have HN := Lib.hid hr.len8
  by_cases h2 : 2 ≤ n
  · obtain ⟨m, hm⟩ : ∃ m, m = n - 2 := ⟨_, rfl⟩
    have r1 := hr.cut8 m (by omega)
    obtain ⟨b, off, rfl, hlt, g1⟩ := hr.cell8 m (by omega)
    have C := Lib.hid (fun (W : World) (hB : Below w.heap.size w W) => refSeal16 (some ⟨b, off, none⟩) m c (bs.take m) W ((r1.below hB).up hB.size) (take256 hb m) (by simp) (by omega))
    have HO : Hid (Crc.ok16 bs = ((str (Crc.seal16 (bs.take m))).toList == (str bs).toList)) := by
      unfold Hid
      rw [ok16_seal bs hb (by rw [← HN.out]; exact h2), ← HN.out, ← hm]
      by_cases he : Crc.seal16 (bs.take m) = bs
      · rw [he]; simp
      · rw [str_ne (Crc.seal16_lt _ (take256 hb m)) hb he]; simp [he]
    have HQ : Hid (∀ {W : World} {A' : Option Addr} {n' c' : Nat}, Own W w.heap.size 5 A' n' c' (U8 (Crc.seal16 (bs.take m))) → convO A' n' c' W = .ok (.string (str (Crc.seal16 (bs.take m)))) W) := fun h => h.convO _ (Below.refl _ _)
    generalize Crc.seal16 (bs.take m) = ss at *
    generalize str bs = s1 at *
    generalize str ss = s2 at *
    have t0 : decide ((2 : Int) ≤ (n : Int)) = true := by simp; omega
    have t1 : decide (2 ≤ n) = true := by simp; omega
    have e0 : (n : Int) - 2 = (m : Int) := by omega
    have f0 : (0 : Int) ≤ (m : Int) := by omega
    have f8 : (m : Int) ≤ (c : Int) := by omega
    have f1 : IntKind.i64.wrap (m : Int) = (m : Int) := IntWalk.i64_in _ (by omega)
    have HK : Hid (∀ W, Below w.heap.size w W → (Below w.heap.size w W ∧ convO (some ⟨b, off, none⟩) n c W = .ok (.string s1) W)) := fun W hB => ⟨hB, hcv.out W hB⟩
    have hany := convO_eq
    clear hm h2 g1
    go_enter Tryd.func46, Tryd.ntmps46
    go_wp2_with fail
    refine wp_region_noPanic ?_
    refine wp_region_held_drew (S := fun W => Below w.heap.size w W ∧ convO (some ⟨b, off, none⟩) n c W = .ok (.string s1) W) (by kernel_rfl) (HK.out _ (Below.refl _ _).drew) (fun hHeld => ?_)
    refine wpAnyH_take (i := 0) (oi := ⟨some 3, _, _, _, _, _⟩) (v := ?_) rfl (by kernel_rfl) (by kernel_rfl) (by kernel_rfl) (fun _ _ _ h => h) (Or.inl ⟨by rfl, ?_⟩) (by assumption) ?_
    rotate_left
    · intro W hSW; obtain ⟨hSW0, hSW1⟩ := hSW; go_simp; first | done | with_reducible rfl
    (try simp only [Act.put, List.setIfInBounds_toArray, List.set_cons_zero, List.set_cons_succ])
    refine wpAnyH_take (i := 1) (oi := ⟨some 4, _, _, _, _, _⟩) (v := ?_) rfl (by kernel_rfl) (by kernel_rfl) (by kernel_rfl) (fun _ _ _ h => h) (Or.inl ⟨by rfl, ?_⟩) (by assumption) ?_
    rotate_left
    · intro W hSW; obtain ⟨hSW0, hSW1⟩ := hSW; go_simp; first | done | with_reducible rfl
    (try simp only [Act.put, List.setIfInBounds_toArray, List.set_cons_zero, List.set_cons_succ])
    refine wpAnyH_take (i := 2) (oi := ⟨some 5, _, _, _, _, _⟩) (v := ?_) rfl (by kernel_rfl) (by kernel_rfl) (by kernel_rfl) (fun _ _ _ h => h) (Or.inl ⟨by rfl, ?_⟩) (by assumption) ?_
    rotate_left
    · intro W hSW; obtain ⟨hSW0, hSW1⟩ := hSW; go_simp; first | done | with_reducible rfl
    (try simp only [Act.put, List.setIfInBounds_toArray, List.set_cons_zero, List.set_cons_succ])
    refine wpAnyH_take (i := 3) (oi := ⟨some 6, _, _, _, _, _⟩) (v := ?_) rfl (by kernel_rfl) (by kernel_rfl) (by kernel_rfl) (fun _ _ _ h => h) (Or.inl ⟨by rfl, ?_⟩) (by assumption) ?_
    rotate_left
    · intro W hSW; obtain ⟨hSW0, hSW1⟩ := hSW; go_simp; first | done | with_reducible rfl
    (try simp only [Act.put, List.setIfInBounds_toArray, List.set_cons_zero, List.set_cons_succ])
    refine wpAnyH_take (i := 4) (oi := ⟨some 7, _, _, _, _, _⟩) (v := ?_) rfl (by kernel_rfl) (by kernel_rfl) (by kernel_rfl) (fun _ _ _ h => h) (Or.inl ⟨by rfl, ?_⟩) (by assumption) ?_
    rotate_left
    · intro W hSW; obtain ⟨hSW0, hSW1⟩ := hSW; go_simp; first | done | with_reducible rfl
    (try simp only [Act.put, List.setIfInBounds_toArray, List.set_cons_zero, List.set_cons_succ])
    refine wpAnyH_take (i := 5) (oi := ⟨some 8, _, _, _, _, _⟩) (v := ?_) rfl (by kernel_rfl) (by kernel_rfl) (by kernel_rfl) (fun _ _ _ h => h) (Or.inl ⟨by rfl, ?_⟩) (by assumption) ?_
    rotate_left
    · intro W hSW; obtain ⟨hSW0, hSW1⟩ := hSW; go_simp; first | done | with_reducible rfl
    (try simp only [Act.put, List.setIfInBounds_toArray, List.set_cons_zero, List.set_cons_succ])
    refine wpAnyH_take (i := 6) (oi := ⟨some 9, _, _, _, _, _⟩) (v := ?_) rfl (by kernel_rfl) (by kernel_rfl) (by kernel_rfl) (fun _ _ _ h => h) (Or.inl ⟨by rfl, ?_⟩) (by assumption) ?_
    rotate_left
    · intro W hSW; obtain ⟨hSW0, hSW1⟩ := hSW; go_simp; first | done | with_reducible rfl
    (try simp only [Act.put, List.setIfInBounds_toArray, List.set_cons_zero, List.set_cons_succ])
    refine wpAnyH_take (i := 7) (oi := ⟨some 10, _, _, _, _, _⟩) (v := ?_) rfl (by kernel_rfl) (by kernel_rfl) (by kernel_rfl) (fun _ _ _ h => h) (Or.inl ⟨by rfl, ?_⟩) (by assumption) ?_
    rotate_left
    · intro W hSW; obtain ⟨hSW0, hSW1⟩ := hSW; go_simp; first | done | with_reducible rfl
    (try simp only [Act.put, List.setIfInBounds_toArray, List.set_cons_zero, List.set_cons_succ])
    refine wpAnyH_take (i := 8) (oi := ⟨some 11, _, _, _, _, _⟩) (v := ?_) rfl (by kernel_rfl) (by kernel_rfl) (by kernel_rfl) (fun _ _ _ h => h) (Or.inl ⟨by rfl, ?_⟩) (by assumption) ?_
    rotate_left
    · intro W hSW; obtain ⟨hSW0, hSW1⟩ := hSW; go_simp; first | done | with_reducible rfl
    (try simp only [Act.put, List.setIfInBounds_toArray, List.set_cons_zero, List.set_cons_succ])
    refine wpAnyH_take (i := 11) (oi := ⟨some 14, _, _, _, _, _⟩) (v := ?_) rfl (by kernel_rfl) (by kernel_rfl) (by kernel_rfl) (fun _ _ _ h => h) (Or.inl ⟨by rfl, ?_⟩) (by assumption) ?_
    rotate_left
    · intro W hSW; obtain ⟨hSW0, hSW1⟩ := hSW; go_simp; first | done | with_reducible rfl
    (try simp only [Act.put, List.setIfInBounds_toArray, List.set_cons_zero, List.set_cons_succ])
    refine wpAnyH_take (i := 12) (oi := ⟨some 15, _, _, _, _, _⟩) (v := ?_) rfl (by kernel_rfl) (by kernel_rfl) (by kernel_rfl) (fun _ _ _ h => h) (Or.inl ⟨by rfl, ?_⟩) (by assumption) ?_
    rotate_left
    · intro W hSW; obtain ⟨hSW0, hSW1⟩ := hSW; go_simp; first | done | with_reducible rfl
    (try simp only [Act.put, List.setIfInBounds_toArray, List.set_cons_zero, List.set_cons_succ])
    refine wpAnyH_ready (rs := [9]) (by kernel_rfl) (by simp) ?_
    refine AllReadyH.cons (o := ⟨some 12, _, _, _, _, _⟩) rfl (fun K hK => ?_) AllReadyH.nil
    go_simp
    have b1 := hHeld.1
    refine (C.out _ b1).mono ?_
    rintro e wo ⟨Ao, no, co, rfl, owo, beo⟩
    have hq := HQ.out owo
    have bo := Below.then_ b1 beo
    clear hHeld
    refine hK.out _ _ ?_ (fun hHeld => ?_)
    · exact HK.out _ bo
    clear hK K
    (try simp only [Act.put, List.setIfInBounds_toArray, List.set_cons_zero, List.set_cons_succ])
    refine wpAnyH_ready (rs := [10]) (by kernel_rfl) (by simp) ?_
    refine AllReadyH.cons (o := ⟨some 13, _, _, _, _, _⟩) rfl (fun K hK => ?_) AllReadyH.nil
    go_simp
    refine hK.out _ _ ?_ (fun hHeld => ?_)
    · exact HK.out _ bo
    clear hK K
    (try simp only [Act.put, List.setIfInBounds_toArray, List.set_cons_zero, List.set_cons_succ])
    refine wpAnyH_take (i := 13) (oi := ⟨some 16, _, _, _, _, _⟩) (v := ?_) rfl (by kernel_rfl) (by kernel_rfl) (by kernel_rfl) (fun _ _ _ h => h) (Or.inl ⟨by rfl, ?_⟩) (by assumption) ?_
    rotate_left
    · intro W hSW; obtain ⟨hSW0, hSW1⟩ := hSW; go_simp; first | done | with_reducible rfl
    (try simp only [Act.put, List.setIfInBounds_toArray, List.set_cons_zero, List.set_cons_succ])
    refine wpAnyH_take (i := 14) (oi := ⟨some 17, _, _, _, _, _⟩) (v := ?_) rfl (by kernel_rfl) (by kernel_rfl) (by kernel_rfl) (fun _ _ _ h => h) (Or.inl ⟨by rfl, ?_⟩) (by assumption) ?_
    rotate_left
    · intro W hSW; obtain ⟨hSW0, hSW1⟩ := hSW; go_simp; first | done | with_reducible rfl
    (try simp only [Act.put, List.setIfInBounds_toArray, List.set_cons_zero, List.set_cons_succ])
    refine wpAnyH_take (i := 15) (oi := ⟨some 2, _, _, _, _, _⟩) (v := ?_) rfl (by kernel_rfl) (by kernel_rfl) (by kernel_rfl) (fun _ _ _ h => h) (Or.inl ⟨by rfl, ?_⟩) (by assumption) ?_
    rotate_left
    · intro W hSW; obtain ⟨hSW0, hSW1⟩ := hSW; go_simp; first | done | with_reducible rfl
    (try simp only [Act.put, List.setIfInBounds_toArray, List.set_cons_zero, List.set_cons_succ])
    refine wpAnyH_done (by kernel_rfl) ?_ _
    refine NoPanic.normal ?_
    go_wp2
    go_ret
    exact ⟨ret_bool HO.out.symm, bo⟩
  · have t0 : decide ((2 : Int) ≤ (n : Int)) = false := by simp; omega
    have t1 : decide (2 ≤ n) = false := by simp; omega
    have HO : Hid (Crc.ok16 bs = false) := by
      unfold Hid Crc.ok16
      rw [← HN.out]; simp; omega
    go_enter Tryd.func46, Tryd.ntmps46
    go_wp2_with fail
    go_quiet (fail)
    go_wp2
    go_ret
    exact ⟨by rw [HO.out]; rfl, below_drawn _⟩
end Go.Proofs.YtkmacepodomdmaaDoor
