/-
  Layer 1 and its reference: Of, Bytes, Weight.
-/
import Derived.Test.YtkmacepodomdmaaDoorRr
import Derived.Test.YtkmacepodomdmaaDoorRs
namespace Go.Proofs.YtkmacepodomdmaaDoor
open Go.RowKit
set_option maxRecDepth 100000
set_option linter.unusedVariables false
set_option linter.unusedSimpArgs false

theorem half_bit (b d : Nat) : (((b : Int) / (d : Int)) % 2) = ((b / d % 2 : Nat) : Int) := by simp
set_option maxHeartbeats 1000000 in
/-- The reference's Of. -/
theorem r1OfC (A : Option Addr) (n c : Nat) (bs : List Nat) (w : World) (hr : Rd w w.heap.size A n (U8 bs)) (hb : ∀ b ∈ bs, b < 256) (hn : n ≤ 65536) :
    Calls Tryd.prog 47 #[.slice A n c] w (Made w (Bm.ofBytes bs)) := by
  have HN := Lib.hid hr.len8
  go_enter Tryd.func47, Tryd.ntmps47
  go_wp2
  go_loopw [3, 4] (fun l i wr => ∃ k : Nat, k ≤ n ∧ i = .int .i64 k ∧ ∃ A1 c1, l = .slice A1 (8 * k) c1 ∧ Own wr w.heap.size 5 A1 (8 * k) c1 (U8 (Bm.ofBytes (bs.take k))) ∧ Below w.heap.size w wr) (fun _ i _ => n - (intOf i).toNat)
  case atStart => exact ⟨0, Nat.zero_le _, rfl, none, 0, rfl, Own.nil _ _ _, Below.refl _ _⟩
  case round =>
    obtain ⟨k, hk, rfl, A1, c1, rfl, hown, hbel⟩ := hrel
    by_cases hlt : k < n
    · obtain ⟨b, off, rfl, hlt2, hcell⟩ := (hr.below hbel).cell8 k hlt
      have hx := Bm.byte_lt bs hb k
      have HT := Lib.hid (Bm.ofBytes_take bs k (by rw [← HN.out]; exact hlt))
      obtain ⟨x, hxe⟩ : ∃ x, x = bs.getD k 0 := ⟨_, rfl⟩
      rw [← hxe] at hx hcell HT
      clear hxe
      go_wp2
      go_loopw [3, 6] (fun l i wr2 => ∃ m d : Nat, m ≤ 8 ∧ Hid (d = 2 ^ m / 2) ∧ i = .int .i64 (d : Int) ∧ ∃ A2 c2, l = .slice A2 (8 * k + (8 - m)) c2 ∧ Own wr2 w.heap.size 5 A2 (8 * k + (8 - m)) c2 (U8 (Bm.ofBytes (bs.take k) ++ (Bm.bits8 x).take (8 - m))) ∧ Below w.heap.size w wr2) (fun _ i _ => (intOf i).toNat)
      case atStart => exact ⟨8, 128, by omega, rfl, rfl, A1, c1, rfl, by simpa using hown, hbel⟩
      case round =>
        clear hown hbel hcell
        obtain ⟨m, d, hm, HD, rfl, A2, c2, rfl, hown, hbel⟩ := hrel
        have hsz := hbel.size
        cases m with
        | zero =>
          have hd : d = 0 := HD.out
          subst hd
          go_wp2
          go_roundw
          case rel =>
            refine ⟨k + 1, by omega, by go_num, A2, c2, slice_len (by omega), ?_, hbel⟩
            refine hown.to (by omega) ?_
            rw [HT.out, Nat.sub_zero, Bm.bits8_all]
          case measure => simp [intOf] <;> omega
        | succ p =>
          have hd : d = 2 ^ p := by have := HD.out; rw [Nat.pow_succ] at this; omega
          have h1 : 0 < 2 ^ p := Nat.two_pow_pos p
          have h2 : 2 ^ p ≤ 2 ^ 7 := Nat.pow_le_pow_right (by decide) (by omega)
          have h3 : 0 < d := by omega
          have h4 : d ≤ 128 := by omega
          have HE := Lib.hid hd
          clear hd h1 h2 HD
          have q1 : (0 : Int) ≤ (x : Int) / (d : Int) := Int.ediv_nonneg (by omega) (by omega)
          have q2 : (x : Int) / (d : Int) ≤ 255 := Int.le_trans (Int.ediv_le_self _ (by omega)) (by omega)
          go_wp2_with (at_builtin; refine app8 _ rfl _ _ rfl w.heap.size _ _ _ _ (x / d % 2) _ (half_bit x d) rfl hown rfl (by omega) hsz ?_; intro A3 c3 w3 hown3 hgrow3)
          go_roundw
          case rel =>
            refine ⟨p, d / 2, by omega, by unfold Hid; rw [HE.out], by go_num, A3, c3, slice_len (by omega), ?_, hbel.grown hgrow3 hsz (fun j hj => (hown.block j hj).1)⟩
            refine hown3.to (by omega) ?_
            rw [show 8 - p = 8 - (p + 1) + 1 by omega, Bm.bits8_take x _ (by omega), show 7 - (8 - (p + 1)) = p by omega, ← List.append_assoc, ← HE.out]
          case measure => simp [intOf] <;> omega
    · go_wp2
      go_ret
      have hkn : k = n := by omega
      refine ⟨A1, 8 * k, c1, rfl, ?_, hbel⟩
      rw [hkn, HN.out, List.take_length] at hown
      rw [hkn, HN.out]
      exact hown
set_option maxHeartbeats 400000 in
/-- bits.Weight. -/
theorem weight (A : Option Addr) (n c : Nat) (bs : List Nat) (w : World) (hr : Rd w w.heap.size A n (U8 bs)) (hb : ∀ b ∈ bs, b < 256) (hn : n ≤ 65536) :
    Calls Tryd.prog 123 #[.slice A n c] w fun e w' => e = .returned (.int .i64 (Bm.wt bs : Nat)) ∧ w = w' := by
  have HN := Lib.hid hr.len8
  go_enter Tryd.func123, Tryd.ntmps123
  go_wp2
  go_loop [3, 8] (fun s i => ∃ k m : Nat, k ≤ n ∧ m ≤ k ∧ i = .int .i64 k ∧ s = .int .i64 m ∧ Hid (m = Bm.cnt (fun i => bs.getD i 0 != 0) k)) (fun _ i => n - (intOf i).toNat)
  case atStart => exact ⟨0, 0, Nat.zero_le _, Nat.zero_le _, rfl, rfl, rfl⟩
  case round =>
    obtain ⟨k, m, hk, hmk, rfl, rfl, HA⟩ := hrel
    by_cases hlt : k < n
    · obtain ⟨b, off, rfl, hlt2, hcell⟩ := hr.cell8 k hlt
      have hx := Bm.byte_lt bs hb k
      obtain ⟨x, hxe⟩ : ∃ x, x = bs.getD k 0 := ⟨_, rfl⟩
      rw [← hxe] at hx hcell
      have HX := Lib.hid hxe
      clear hxe
      by_cases h1 : x = 0
      · have t : ((x : Int) != 0) = false := by simp [h1]
        have HZ := Lib.hid h1
        clear h1
        go_wp2
        go_round
        case rel => exact ⟨k + 1, m, by omega, by omega, by go_num, rfl, by
          unfold Hid Bm.cnt; rw [← HX.out, HZ.out, ← HA.out]; simp⟩
        case measure => simp [intOf] <;> omega
      · have t : ((x : Int) != 0) = true := by simp [h1]
        go_wp2
        go_round
        case rel => exact ⟨k + 1, m + 1, by omega, by omega, by go_num, by go_num, by
          unfold Hid Bm.cnt; rw [← HX.out, ← HA.out]; simp [h1]⟩
        case measure => simp [intOf] <;> omega
    · go_wp2
      go_ret
      refine ⟨ret_int' ?_, rfl⟩
      unfold Bm.wt
      rw [HA.out, ← HN.out, show k = n by omega]
theorem or_join (a b i : Nat) (ha : a < 256) (hb : b < 256) (h1 : a % 2 ^ i = 0) (h2 : b < 2 ^ i) : bits BinOp.or IntKind.u8 (a : Int) (b : Int) = ((a + b : Nat) : Int) := by
  rw [u8_or_nat a b ha hb, nat_join i a b h1 h2]
set_option maxHeartbeats 1000000 in
/-- bits.Bytes of bits. -/
theorem bytesYes (A : Option Addr) (n c : Nat) (bs : List Nat) (w : World) (hr : Rd w w.heap.size A n (U8 bs)) (hb : ∀ b ∈ bs, b ≤ 1) (hn : n ≤ 65536) :
    Calls Tryd.prog 72 #[.slice A n c] w fun e w' => ∃ A' n' c', e = .returned (.tuple #[.slice A' n' c', .int .i64 0]) ∧ Own w' w.heap.size 5 A' n' c' (U8 (Bm.toBytes bs)) ∧ Below w.heap.size w w' := by
  obtain ⟨i0, hi0, hz0, hz1, hz2⟩ := info_parts info5
  have HN := Lib.hid hr.len8
  have hb2 : ∀ b ∈ bs, b < 256 := fun b h => by have := hb b h; omega
  have C := Lib.hid (right A n c bs w hr hb2 hn)
  rw [Bm.isB_of hb] at C
  obtain ⟨N, hN⟩ : ∃ N, N = (n + 7) / 8 := ⟨_, rfl⟩
  have HNN := Lib.hid hN
  have hN1 : n ≤ 8 * N := by omega
  have hN2 : 8 * N ≤ n + 7 := by omega
  have hN3 : ((n : Int) + 7) / 8 = (N : Int) := by omega
  clear hN
  go_enter Tryd.func72, Tryd.ntmps72
  go_wp2_with (first | (go_at_call 70; refine C.out.mono ?_; rintro e w' ⟨rfl, rfl⟩) | (at_make; refine wpList_make_full _ rfl _ _ 22 rfl w.heap.size 5 i0 (.int .u8 0) 1 Tryd.underlying22 hi0 hz0 hz1 .i64 .i64 _ _ N rfl rfl (by first | rfl | omega) (by first | rfl | omega) (by rw [hz2]; omega) (by unfold maxLen; omega) (Nat.le_refl _) ?_; intro w0 hown0 hgrow0))
  have hbel0 : Below w.heap.size w w0 := (Below.refl _ _).grown hgrow0 (Nat.le_refl _) (fun k h => by cases h)
  have hown1 : Own w0 w.heap.size 5 (some ⟨w.heap.size, 0, none⟩) N N (U8 (Bm.part bs 0)) := by
    rw [made8] at hown0
    rw [Bm.part_zero, ← HN.out, ← HNN.out]
    exact ⟨hown0⟩
  clear hown0 hgrow0 hi0 hz0 hz1 hz2 hN3
  go_loopw [17] (fun i wr => ∃ k : Nat, k ≤ n ∧ i = .int .i64 k ∧ Own wr w.heap.size 5 (some ⟨w.heap.size, 0, none⟩) N N (U8 (Bm.part bs k)) ∧ Below w.heap.size w wr) (fun i _ => n - (intOf i).toNat)
  case atStart => exact ⟨0, Nat.zero_le _, rfl, hown1, hbel0⟩
  case round =>
    clear hown1 hbel0
    obtain ⟨k, hk, rfl, hown, hbel⟩ := hrel
    by_cases hlt : k < n
    · obtain ⟨b, off, rfl, hlt2, hcell⟩ := (hr.below hbel).cell8 k hlt
      have hkl : k < bs.length := by rw [← HN.out]; exact hlt
      have hx := Bm.bit_le bs hb k
      obtain ⟨o1, o2⟩ := Bm.part_or bs hb k hkl
      have HP := Lib.hid (Bm.part_succ bs k hkl)
      obtain ⟨g, hg, hg1, hg2, hgc, hgf, hgs⟩ := hown.slot (k / 8) (by omega)
      have hg3 : w.heap.size = g := by injection hg with hg; injection hg
      subst hg3
      rw [U8_get _ (k / 8) (by rw [Bm.part_length, ← HN.out, ← HNN.out]; omega)] at hgc
      have hy := Bm.byte_lt _ (Bm.part_bounds bs hb k) (k / 8)
      obtain ⟨y, hye⟩ : ∃ y, y = (Bm.part bs k).getD (k / 8) 0 := ⟨_, rfl⟩
      rw [← hye] at hgc hy HP o1
      obtain ⟨x, hxe⟩ : ∃ x, x = bs.getD k 0 := ⟨_, rfl⟩
      rw [← hxe] at hcell hx HP o2
      clear hye hxe hg hkl
      obtain ⟨q, r, hr8, hkq⟩ : ∃ q r, r < 8 ∧ k = 8 * q + r := ⟨k / 8, k % 8, by omega, by omega⟩
      rw [show k / 8 = q by omega] at hgc hgf HP hgs
      rw [show k % 8 = r by omega] at o1 o2 HP
      have e1 : (k : Int) / 8 = (q : Int) := by omega
      have e2 : (k : Int) % 8 = (r : Int) := by omega
      obtain ⟨s, hs⟩ : ∃ s : Nat, 7 - r = s := ⟨_, rfl⟩
      have e3 : (7 : Int) - (r : Int) = (s : Int) := by omega
      rw [hs] at o2 HP
      have hs2 : s ≤ 7 := by omega
      have hqN : (q : Int) < (N : Int) := by omega
      have hq0 : (0 : Int) ≤ (q : Int) := by omega
      clear hkq hs
      have hp2 : 2 ^ (8 - r) ≤ 2 ^ 8 := Nat.pow_le_pow_right (by decide) (by omega)
      have ho : x * 2 ^ s < 256 := by omega
      have hsh : (x : Int) * 2 ^ s % 256 = ((x * 2 ^ s : Nat) : Int) := by
        rw [show ((x : Int) * 2 ^ s) = ((x * 2 ^ s : Nat) : Int) by simp]
        omega
      have hor := or_join y (x * 2 ^ s) (8 - r) hy ho o1 o2
      have HS := Lib.hid (hgs (.int .u8 ((y + x * 2 ^ s : Nat) : Int)))
      have HSH := Lib.hid hsh
      have HOR := Lib.hid hor
      clear hgs hsh hor o1 o2 hp2
      go_wp2_with fail
      go_region
      go_wp2
      go_roundw
      case rel =>
        refine ⟨k + 1, by omega, by go_num, ?_, ?_⟩
        · rw [HSH.out, HOR.out, HP.out, ← U8_set]
          exact ⟨HS.out.row.drew⟩
        · exact (hbel.setCell hg1 _).drew
      case measure => simp [intOf] <;> omega
    · go_wp2
      go_ret2
      refine ⟨_, _, _, rfl, hown.to rfl ?_, hbel⟩
      rw [show k = n by omega, HN.out, Bm.part_all]
/-- The number of the first j bits from i on. -/
def hornB (bs : List Nat) (i : Nat) : Nat → Nat
  | 0 => 0
  | j + 1 => 2 * hornB bs i j + bs.getD (i + j) 0
theorem hornB_lt (bs : List Nat) (hb : ∀ b ∈ bs, b ≤ 1) (i : Nat) : ∀ j, hornB bs i j < 2 ^ j
  | 0 => by simp [hornB]
  | j + 1 => by
    have := hornB_lt bs hb i j
    have := Bm.bit_le bs hb (i + j)
    unfold hornB
    rw [Nat.pow_succ]; omega
theorem hornB_hb (bs : List Nat) (i : Nat) : hornB bs i 8 = Bm.hb bs i := by
  simp only [hornB, Bm.hb, Nat.add_zero]; omega
set_option maxHeartbeats 1000000 in
/-- The reference's Bytes, of bits. -/
theorem refBytes (A : Option Addr) (n c : Nat) (bs : List Nat) (w : World) (hr : Rd w w.heap.size A n (U8 bs)) (hb : ∀ b ∈ bs, b ≤ 1) (hn : n ≤ 65536) :
    Calls Tryd.prog 38 #[.slice A n c] w (Made w (Bm.toBytes bs)) := by
  have HN := Lib.hid hr.len8
  go_enter Tryd.func38, Tryd.ntmps38
  go_wp2
  go_loopw [3, 4] (fun l i wr => ∃ k : Nat, k ≤ (n + 7) / 8 ∧ i = .int .i64 (8 * (k : Int)) ∧ ∃ A1 c1, l = .slice A1 k c1 ∧ Own wr w.heap.size 5 A1 k c1 (U8 ((Bm.toBytes bs).take k)) ∧ Below w.heap.size w wr) (fun _ i _ => n + 7 - (intOf i).toNat)
  case atStart => exact ⟨0, Nat.zero_le _, rfl, none, 0, rfl, Own.nil _ _ _, Below.refl _ _⟩
  case round =>
    obtain ⟨k, hk, rfl, A1, c1, rfl, hown, hbel⟩ := hrel
    have hsz := hbel.size
    by_cases hlt : 8 * k < n
    · have hk2 : k < (Bm.toBytes bs).length := by rw [Bm.toBytes_length, ← HN.out]; omega
      have HT : Hid ((Bm.toBytes bs).take (k + 1) = (Bm.toBytes bs).take k ++ [hornB bs (8 * k) 8]) := by
        unfold Hid
        rw [List.take_succ_eq_append_getElem hk2, hornB_hb]
        simp [Bm.toBytes]
      clear hk2
      go_wp2
      go_loop [5, 6] (fun s i => ∃ j y : Nat, j ≤ 8 ∧ i = .int .i64 j ∧ s = .int .i64 (y : Int) ∧ y < 256 ∧ Hid (y = hornB bs (8 * k) j)) (fun _ i => 8 - (intOf i).toNat)
      case atStart => exact ⟨0, 0, Nat.zero_le _, rfl, rfl, by omega, rfl⟩
      case round =>
        obtain ⟨j, y, hj, rfl, rfl, hy, HY⟩ := hrel
        by_cases hj8 : j < 8
        · have hlt2 := hornB_lt bs hb (8 * k) (j + 1)
          have hp : 2 ^ (j + 1) ≤ 2 ^ 8 := Nat.pow_le_pow_right (by decide) (by omega)
          have hs : hornB bs (8 * k) (j + 1) = 2 * y + bs.getD (8 * k + j) 0 := by rw [HY.out]; rfl
          by_cases hin : 8 * k + j < n
          · obtain ⟨b, off, rfl, hlt3, hcell⟩ := (hr.below hbel).cell8 (8 * k + j) hin
            obtain ⟨x, hxe⟩ : ∃ x, x = bs.getD (8 * k + j) 0 := ⟨_, rfl⟩
            have hx := Bm.bit_le bs hb (8 * k + j)
            rw [← hxe] at hcell hx hs
            have HS := Lib.hid hs
            have hy3 : 2 * y + x < 256 := by omega
            clear hxe hs hlt2 hp
            go_wp2
            go_round
            case rel => exact ⟨j + 1, 2 * y + x, by omega, by go_num, by go_num, hy3, by unfold Hid; rw [HS.out]⟩
            case measure => simp [intOf] <;> omega
          · have hz : bs.getD (8 * k + j) 0 = 0 := Bm.getD_ge _ _ _ (by rw [← HN.out]; omega)
            replace hs : hornB bs (8 * k) (j + 1) = 2 * y := by rw [hs, hz]; rfl
            have HS := Lib.hid hs
            have hy3 : 2 * y < 256 := by omega
            clear hz hs hlt2 hp
            go_wp2
            go_round
            case rel => exact ⟨j + 1, 2 * y, by omega, by go_num, by go_num, hy3, HS.out.symm⟩
            case measure => simp [intOf] <;> omega
        · go_wp2_with (at_builtin; refine app8 _ rfl _ _ rfl w.heap.size _ _ _ _ y _ (by first | rfl | omega) rfl hown rfl (by omega) hsz ?_; intro A3 c3 w3 hown3 hgrow3)
          go_roundw
          case rel =>
            refine ⟨k + 1, by omega, by go_num, A3, c3, rfl, ?_, hbel.grown hgrow3 hsz (fun j hj => (hown.block j hj).1)⟩
            rw [HT.out]
            refine hown3.to rfl ?_
            rw [HY.out, show j = 8 by omega]
          case measure => simp [intOf] <;> omega
    · go_wp2
      go_ret
      refine ⟨A1, k, c1, rfl, hown.to rfl ?_, hbel⟩
      rw [List.take_of_length_le (by rw [Bm.toBytes_length, ← HN.out]; omega)]
end Go.Proofs.YtkmacepodomdmaaDoor
