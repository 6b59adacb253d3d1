/-
  Contracts of layer 1's Turn and Bytes and of the reference's Turn and Bytes.
-/
import Derived.Test.YtcddbcknjcedfaaBa
import Derived.Test.YtcddbcknjcedfaaBb
namespace Go.Proofs.Ytcddbcknjcedfaa
open Go.RowKit
set_option linter.unusedVariables false

theorem lt256 {bs : List Nat} (h : ∀ b ∈ bs, b < 256) (at_ : List Int) : ∀ b ∈ Bm.trn bs at_, b < 256 := Bm.trn_lt 8 (by omega) bs at_ h

set_option maxHeartbeats 1000000 in
/-- bits.Turn. -/
theorem turn (A A2 : Option Addr) (n c m c2 : Nat) (bs : List Nat) (zs : List Int) (w : World) (hr : Rd w w.heap.size A n (U8 bs)) (hnone : A = none → n = 0 ∧ c = 0) (hz : Rd w w.heap.size A2 m (I64 zs)) (hb : ∀ b ∈ bs, b < 256) (hn : n ≤ 65536) (hm : m ≤ 65536) :
    Calls Try.prog 19 #[.slice A n c, .slice A2 m c2] w (Made w (Bm.trn bs zs)) := by
  obtain ⟨i0, hi0, hz0, hz1, hz2⟩ := info_parts info5
  have HN := Lib.hid hr.len8
  have HM := Lib.hid hz.len64
  go_enter Try.func19, Try.ntmps19
  go_wp2_with (at_builtin; refine wpList_app _ rfl _ _ 22 rfl w.heap.size 5 i0 _ 1 Try.underlying22 hi0 hz0 hz1 hz2 rfl none 0 0 [] rfl (Own.nil _ _ _) _ _ _ _ (U8 bs) rfl hr hnone (U8_one bs) (by omega) (by unfold maxLen; omega) (Nat.le_refl _) ?_; intro A5 c5 w5 hown5 hgrow5)
  have hbel5 : Below w.heap.size w w5 := (Below.refl _ _).grown hgrow5 (Nat.le_refl _) (fun k h => by cases h)
  clear hz0 hz1 hz2 hi0 hgrow5
  have hown6 : Own w5 w.heap.size 5 A5 n c5 (U8 (Bm.trn bs [])) := hown5.to (by omega) (by rw [Bm.trn_nil]; rfl)
  clear hown5
  go_loopw [12] (fun i wr => ∃ k : Nat, k ≤ m ∧ i = .int .i64 k ∧ Own wr w.heap.size 5 A5 n c5 (U8 (Bm.trn bs (zs.take k))) ∧ Below w.heap.size w wr) (fun i _ => m - (intOf i).toNat)
  case atStart => exact ⟨0, Nat.zero_le _, rfl, hown6, hbel5⟩
  case round =>
    clear hown6 hbel5
    obtain ⟨k, hk, rfl, hown, hbel⟩ := hrel
    by_cases hlt : k < m
    · obtain ⟨b, off, rfl, hlt2, hcell⟩ := (hz.below hbel).cell64 k hlt
      have HI := Lib.hid (Bm.trn_in bs zs k (by rw [← HM.out]; exact hlt))
      have HO := Lib.hid (Bm.trn_out bs zs k (by rw [← HM.out]; exact hlt))
      obtain ⟨z, hze⟩ : ∃ z, z = zs.getD k 0 := ⟨_, rfl⟩
      rw [← hze] at hcell HI HO
      clear hze
      by_cases h0 : 0 ≤ z
      · by_cases h1 : z < n
        · obtain ⟨p, rfl⟩ := Int.eq_ofNat_of_zero_le h0
          have hp : p < n := by omega
          have hx := Bm.byte_lt _ (lt256 hb (zs.take k)) p
          obtain ⟨g, rfl, hg1, hg2, hgc, hgf, hgs⟩ := hown.slot p hp
          rw [U8_get _ p (by rw [Bm.trn_length, ← HN.out]; exact hp)] at hgc
          have HI2 := Lib.hid (HI.out p (by rw [← HN.out]; exact hp) rfl)
          obtain ⟨x, hxe⟩ : ∃ x, x = (Bm.trn bs (zs.take k)).getD p 0 := ⟨_, rfl⟩
          rw [← hxe] at hx hgc HI2
          clear hxe HI HO
          have hX : bits BinOp.xor IntKind.u8 (x : Int) 1 = ((x ^^^ 1 : Nat) : Int) := u8_xor_nat x 1 hx (by omega)
          have HS := Lib.hid (hgs (.int .u8 ((x ^^^ 1 : Nat) : Int)))
          clear hgs
          have t1 : decide (0 ≤ (p : Int)) = true := by simp
          have t2 : decide ((p : Int) < (n : Int)) = true := by simp; omega
          go_wp2
          go_roundw
          case rel =>
            refine ⟨k + 1, by omega, by go_num, ?_, hbel.setCell hg1 _⟩
            rw [HI2.out, ← U8_set]
            exact HS.out
          case measure => simp [intOf] <;> omega
        · have t1 : decide (0 ≤ z) = true := by simp; omega
          have t2 : decide (z < (n : Int)) = false := by simp; omega
          go_wp2
          go_roundw
          case rel => exact ⟨k + 1, by omega, by go_num, by rw [HO.out (.inr (by rw [← HN.out]; omega))]; exact hown, hbel⟩
          case measure => simp [intOf] <;> omega
      · have t1 : decide (0 ≤ z) = false := by simp; omega
        go_wp2
        go_roundw
        case rel => exact ⟨k + 1, by omega, by go_num, by rw [HO.out (.inl (by omega))]; exact hown, hbel⟩
        case measure => simp [intOf] <;> omega
    · go_wp2
      go_ret
      refine ⟨A5, n, c5, rfl, hown.to rfl ?_, hbel⟩
      rw [List.take_of_length_le (by rw [← HM.out]; omega)]

set_option maxHeartbeats 1000000 in
/-- The reference's Turn. -/
theorem refTurn (A A2 : Option Addr) (n c m c2 : Nat) (bs : List Nat) (zs : List Int) (w : World) (hr : Rd w w.heap.size A n (U8 bs)) (hz : Rd w w.heap.size A2 m (I64 zs)) (hb : ∀ b ∈ bs, b < 256) (hn : n ≤ 65536) (hm : m ≤ 65536) :
    Calls Try.prog 23 #[.slice A n c, .slice A2 m c2] w (Made w (Bm.trn bs zs)) := by
  have HN := Lib.hid hr.len8
  have HM := Lib.hid hz.len64
  go_enter Try.func23, Try.ntmps23
  go_wp2
  go_loopw [5, 6] (fun l i wr => ∃ k : Nat, k ≤ n ∧ i = .int .i64 k ∧ ∃ A1 c1, l = .slice A1 k c1 ∧ Own wr w.heap.size 5 A1 k c1 (U8 ((Bm.trn bs zs).take k)) ∧ Below w.heap.size w wr) (fun _ i _ => n - (intOf i).toNat)
  case atStart => exact ⟨0, Nat.zero_le _, rfl, none, 0, rfl, Own.nil _ _ _, Below.refl _ _⟩
  case round =>
    obtain ⟨k, hk, rfl, A1, c1, rfl, hown, hbel⟩ := hrel
    have hsz := hbel.size
    by_cases hlt : k < n
    · obtain ⟨b, off, rfl, hlt2, hcell⟩ := (hr.below hbel).cell8 k hlt
      have hx := Bm.byte_lt bs hb k
      have hk2 : k < (Bm.trn bs zs).length := by rw [Bm.trn_length, ← HN.out]; exact hlt
      have HT : Hid ((Bm.trn bs zs).take (k + 1) = (Bm.trn bs zs).take k ++ [Bm.tgl (bs.getD k 0) zs k]) := by
        unfold Hid
        rw [List.take_succ_eq_append_getElem hk2, ← Bm.trn_getD bs zs k (by rw [← HN.out]; exact hlt), Bm.getD_lt _ _ _ hk2]
      clear hk2
      obtain ⟨x, hxe⟩ : ∃ x, x = bs.getD k 0 := ⟨_, rfl⟩
      rw [← hxe] at hx hcell HT
      clear hxe
      go_wp2
      go_loop [7, 8] (fun s i => ∃ j y : Nat, j ≤ m ∧ y < 256 ∧ i = .int .i64 j ∧ s = .int .u8 (y : Int) ∧ Hid (y = Bm.tgl x (zs.take j) k)) (fun _ i => m - (intOf i).toNat)
      case atStart => exact ⟨0, x, Nat.zero_le _, hx, rfl, rfl, rfl⟩
      case round =>
        obtain ⟨j, y, hj, hy, rfl, rfl, HY⟩ := hrel
        by_cases hjm : j < m
        · obtain ⟨b', off', rfl, hlt3, hcell2⟩ := (hz.below hbel).cell64 j hjm
          have HS := Lib.hid (Bm.tgl_take x zs j (by rw [← HM.out]; exact hjm) k)
          obtain ⟨z, hze⟩ : ∃ z, z = zs.getD j 0 := ⟨_, rfl⟩
          rw [← hze] at hcell2 HS
          clear hze
          have hX : bits BinOp.xor IntKind.u8 (y : Int) 1 = ((y ^^^ 1 : Nat) : Int) := u8_xor_nat y 1 hy (by omega)
          have hy2 : y ^^^ 1 < 256 := Bm.xor_one_lt y 8 hy (by omega)
          by_cases h1 : z = (k : Int)
          · have t : (z == (k : Int)) = true := by simp [h1]
            have H1 := Lib.hid h1
            clear h1
            go_wp2
            go_round
            case rel => exact ⟨j + 1, y ^^^ 1, by omega, hy2, by go_num, rfl, by unfold Hid; rw [HS.out, if_pos H1.out, ← HY.out]⟩
            case measure => simp [intOf] <;> omega
          · have t : (z == (k : Int)) = false := by simp [h1]
            go_wp2
            go_round
            case rel => exact ⟨j + 1, y, by omega, hy, by go_num, rfl, by unfold Hid; rw [HS.out, if_neg h1, ← HY.out]⟩
            case measure => simp [intOf] <;> omega
        · go_wp2_with (at_builtin; refine app8 _ rfl _ _ rfl w.heap.size _ _ _ _ y _ rfl rfl hown rfl (by omega) hsz ?_; intro A3 c3 w3 hown3 hgrow3)
          go_roundw
          case rel =>
            refine ⟨k + 1, by omega, by go_num, A3, c3, rfl, ?_, hbel.grown hgrow3 hsz (fun j hj => (hown.block j hj).1)⟩
            rw [HT.out]
            refine hown3.to rfl ?_
            have hall : zs.take j = zs := List.take_of_length_le (by rw [← HM.out]; omega)
            rw [HY.out, hall]
          case measure => simp [intOf] <;> omega
    · go_wp2
      go_ret
      refine ⟨A1, k, c1, rfl, hown.to rfl ?_, hbel⟩
      rw [List.take_of_length_le (by rw [Bm.trn_length, ← HN.out]; omega)]

theorem or_join (a b i : Nat) (ha : a < 256) (hb : b < 256) (h1 : a % 2 ^ i = 0) (h2 : b < 2 ^ i) : bits BinOp.or IntKind.u8 (a : Int) (b : Int) = ((a + b : Nat) : Int) := by
  rw [u8_or_nat a b ha hb, nat_join i a b h1 h2]

theorem made8 (N : Nat) : (madeCells (Value.int .u8 0).cells (N * 1)).toList = U8 (List.replicate N 0) := by
  show (madeCells #[Value.int .u8 0] (N * 1)).toList = _
  rw [toList_madeCells_one, Nat.mul_one]
  simp [U8]

set_option maxHeartbeats 1000000 in
/-- bits.Bytes of bits. -/
theorem bytesYes (A : Option Addr) (n c : Nat) (bs : List Nat) (w : World) (hr : Rd w w.heap.size A n (U8 bs)) (hb : ∀ b ∈ bs, b ≤ 1) (hn : n ≤ 65536) :
    Calls Try.prog 16 #[.slice A n c] w fun e w' => ∃ A' n' c', e = .returned (.tuple #[.slice A' n' c', .int .i64 0]) ∧ Own w' w.heap.size 5 A' n' c' (U8 (Bm.toBytes bs)) ∧ Below w.heap.size w w' := by
  obtain ⟨i0, hi0, hz0, hz1, hz2⟩ := info_parts info5
  have HN := Lib.hid hr.len8
  have hb2 : ∀ b ∈ bs, b < 256 := fun b h => by have := hb b h; omega
  have C := Lib.hid (right A n c bs w hr hb2 hn)
  rw [Bm.isB_of hb] at C
  obtain ⟨N, hN⟩ : ∃ N, N = (n + 7) / 8 := ⟨_, rfl⟩
  have HNN := Lib.hid hN
  have hN1 : n ≤ 8 * N := by omega
  have hN2 : 8 * N ≤ n + 7 := by omega
  have hN3 : ((n : Int) + 7) / 8 = (N : Int) := by omega
  clear hN
  go_enter Try.func16, Try.ntmps16
  go_wp2_with (first | (go_at_call 20; refine C.out.mono ?_; rintro e w' ⟨rfl, rfl⟩) | (at_make; refine wpList_make_full _ rfl _ _ 22 rfl w.heap.size 5 i0 (.int .u8 0) 1 Try.underlying22 hi0 hz0 hz1 .i64 .i64 _ _ N rfl rfl (by first | rfl | omega) (by first | rfl | omega) (by rw [hz2]; omega) (by unfold maxLen; omega) (Nat.le_refl _) ?_; intro w0 hown0 hgrow0))
  have hbel0 : Below w.heap.size w w0 := (Below.refl _ _).grown hgrow0 (Nat.le_refl _) (fun k h => by cases h)
  have hown1 : Own w0 w.heap.size 5 (some ⟨w.heap.size, 0, none⟩) N N (U8 (Bm.part bs 0)) := by
    rw [made8] at hown0
    rw [Bm.part_zero, ← HN.out, ← HNN.out]
    exact ⟨hown0⟩
  clear hown0 hgrow0 hi0 hz0 hz1 hz2 hN3
  go_loopw [17] (fun i wr => ∃ k : Nat, k ≤ n ∧ i = .int .i64 k ∧ Own wr w.heap.size 5 (some ⟨w.heap.size, 0, none⟩) N N (U8 (Bm.part bs k)) ∧ Below w.heap.size w wr) (fun i _ => n - (intOf i).toNat)
  case atStart => exact ⟨0, Nat.zero_le _, rfl, hown1, hbel0⟩
  case round =>
    clear hown1 hbel0
    obtain ⟨k, hk, rfl, hown, hbel⟩ := hrel
    by_cases hlt : k < n
    · obtain ⟨b, off, rfl, hlt2, hcell⟩ := (hr.below hbel).cell8 k hlt
      have hkl : k < bs.length := by rw [← HN.out]; exact hlt
      have hx := Bm.bit_le bs hb k
      obtain ⟨o1, o2⟩ := Bm.part_or bs hb k hkl
      have HP := Lib.hid (Bm.part_succ bs k hkl)
      obtain ⟨g, hg, hg1, hg2, hgc, hgf, hgs⟩ := hown.slot (k / 8) (by omega)
      have hg3 : w.heap.size = g := by injection hg with hg; injection hg
      subst hg3
      rw [U8_get _ (k / 8) (by rw [Bm.part_length, ← HN.out, ← HNN.out]; omega)] at hgc
      have hy := Bm.byte_lt _ (Bm.part_bounds bs hb k) (k / 8)
      obtain ⟨y, hye⟩ : ∃ y, y = (Bm.part bs k).getD (k / 8) 0 := ⟨_, rfl⟩
      rw [← hye] at hgc hy HP o1
      obtain ⟨x, hxe⟩ : ∃ x, x = bs.getD k 0 := ⟨_, rfl⟩
      rw [← hxe] at hcell hx HP o2
      clear hye hxe hg hkl
      obtain ⟨q, r, hr8, hkq⟩ : ∃ q r, r < 8 ∧ k = 8 * q + r := ⟨k / 8, k % 8, by omega, by omega⟩
      rw [show k / 8 = q by omega] at hgc hgf HP hgs
      rw [show k % 8 = r by omega] at o1 o2 HP
      have e1 : (k : Int) / 8 = (q : Int) := by omega
      have e2 : (k : Int) % 8 = (r : Int) := by omega
      obtain ⟨s, hs⟩ : ∃ s : Nat, 7 - r = s := ⟨_, rfl⟩
      have e3 : (7 : Int) - (r : Int) = (s : Int) := by omega
      rw [hs] at o2 HP
      have hs2 : s ≤ 7 := by omega
      have hqN : (q : Int) < (N : Int) := by omega
      have hq0 : (0 : Int) ≤ (q : Int) := by omega
      clear hkq hs
      have hp2 : 2 ^ (8 - r) ≤ 2 ^ 8 := Nat.pow_le_pow_right (by decide) (by omega)
      have ho : x * 2 ^ s < 256 := by omega
      have hsh : (x : Int) * 2 ^ s % 256 = ((x * 2 ^ s : Nat) : Int) := by
        rw [show ((x : Int) * 2 ^ s) = ((x * 2 ^ s : Nat) : Int) by simp]
        omega
      have hor := or_join y (x * 2 ^ s) (8 - r) hy ho o1 o2
      have HS := Lib.hid (hgs (.int .u8 ((y + x * 2 ^ s : Nat) : Int)))
      have HSH := Lib.hid hsh
      have HOR := Lib.hid hor
      clear hgs hsh hor o1 o2 hp2
      go_wp2_with fail
      go_region
      go_wp2
      go_roundw
      case rel =>
        refine ⟨k + 1, by omega, by go_num, ?_, ?_⟩
        · rw [HSH.out, HOR.out, HP.out, ← U8_set]
          exact ⟨HS.out.row.drew⟩
        · exact (hbel.setCell hg1 _).drew
      case measure => simp [intOf] <;> omega
    · go_wp2
      go_ret2
      refine ⟨_, _, _, rfl, hown.to rfl ?_, hbel⟩
      rw [show k = n by omega, HN.out, Bm.part_all]

set_option maxHeartbeats 400000 in
/-- bits.Bytes of what are no bits. -/
theorem bytesNo (A : Option Addr) (n c : Nat) (bs : List Nat) (w : World) (hr : Rd w w.heap.size A n (U8 bs)) (hb : ∀ b ∈ bs, b < 256) (hn : n ≤ 65536) (h : Bm.isB bs = false) :
    Calls Try.prog 16 #[.slice A n c] w fun e w' => e = .returned (.tuple #[.slice none 0 0, .int .i64 5]) ∧ w = w' := by
  have C := Lib.hid (right A n c bs w hr hb hn)
  rw [h] at C
  go_enter Try.func16, Try.ntmps16
  go_wp2_with (go_at_call 20; refine C.out.mono ?_; rintro e w' ⟨rfl, rfl⟩)
  go_ret2
  exact ⟨rfl, rfl⟩

/-- The number of the first j bits from i on. -/
def hornB (bs : List Nat) (i : Nat) : Nat → Nat
  | 0 => 0
  | j + 1 => 2 * hornB bs i j + bs.getD (i + j) 0
theorem hornB_lt (bs : List Nat) (hb : ∀ b ∈ bs, b ≤ 1) (i : Nat) : ∀ j, hornB bs i j < 2 ^ j
  | 0 => by simp [hornB]
  | j + 1 => by
    have := hornB_lt bs hb i j
    have := Bm.bit_le bs hb (i + j)
    unfold hornB
    rw [Nat.pow_succ]; omega
theorem hornB_hb (bs : List Nat) (i : Nat) : hornB bs i 8 = Bm.hb bs i := by
  simp only [hornB, Bm.hb, Nat.add_zero]; omega

set_option maxHeartbeats 1000000 in
/-- The reference's Bytes, of bits. -/
theorem refBytes (A : Option Addr) (n c : Nat) (bs : List Nat) (w : World) (hr : Rd w w.heap.size A n (U8 bs)) (hb : ∀ b ∈ bs, b ≤ 1) (hn : n ≤ 65536) :
    Calls Try.prog 25 #[.slice A n c] w (Made w (Bm.toBytes bs)) := by
  have HN := Lib.hid hr.len8
  go_enter Try.func25, Try.ntmps25
  go_wp2
  go_loopw [3, 4] (fun l i wr => ∃ k : Nat, k ≤ (n + 7) / 8 ∧ i = .int .i64 (8 * (k : Int)) ∧ ∃ A1 c1, l = .slice A1 k c1 ∧ Own wr w.heap.size 5 A1 k c1 (U8 ((Bm.toBytes bs).take k)) ∧ Below w.heap.size w wr) (fun _ i _ => n + 7 - (intOf i).toNat)
  case atStart => exact ⟨0, Nat.zero_le _, rfl, none, 0, rfl, Own.nil _ _ _, Below.refl _ _⟩
  case round =>
    obtain ⟨k, hk, rfl, A1, c1, rfl, hown, hbel⟩ := hrel
    have hsz := hbel.size
    by_cases hlt : 8 * k < n
    · have hk2 : k < (Bm.toBytes bs).length := by rw [Bm.toBytes_length, ← HN.out]; omega
      have HT : Hid ((Bm.toBytes bs).take (k + 1) = (Bm.toBytes bs).take k ++ [hornB bs (8 * k) 8]) := by
        unfold Hid
        rw [List.take_succ_eq_append_getElem hk2, hornB_hb]
        simp [Bm.toBytes]
      clear hk2
      go_wp2
      go_loop [5, 6] (fun s i => ∃ j y : Nat, j ≤ 8 ∧ i = .int .i64 j ∧ s = .int .i64 (y : Int) ∧ y < 256 ∧ Hid (y = hornB bs (8 * k) j)) (fun _ i => 8 - (intOf i).toNat)
      case atStart => exact ⟨0, 0, Nat.zero_le _, rfl, rfl, by omega, rfl⟩
      case round =>
        obtain ⟨j, y, hj, rfl, rfl, hy, HY⟩ := hrel
        by_cases hj8 : j < 8
        · have hlt2 := hornB_lt bs hb (8 * k) (j + 1)
          have hp : 2 ^ (j + 1) ≤ 2 ^ 8 := Nat.pow_le_pow_right (by decide) (by omega)
          have hs : hornB bs (8 * k) (j + 1) = 2 * y + bs.getD (8 * k + j) 0 := by rw [HY.out]; rfl
          by_cases hin : 8 * k + j < n
          · obtain ⟨b, off, rfl, hlt3, hcell⟩ := (hr.below hbel).cell8 (8 * k + j) hin
            obtain ⟨x, hxe⟩ : ∃ x, x = bs.getD (8 * k + j) 0 := ⟨_, rfl⟩
            have hx := Bm.bit_le bs hb (8 * k + j)
            rw [← hxe] at hcell hx hs
            have HS := Lib.hid hs
            have hy3 : 2 * y + x < 256 := by omega
            clear hxe hs hlt2 hp
            go_wp2
            go_round
            case rel => exact ⟨j + 1, 2 * y + x, by omega, by go_num, by go_num, hy3, by unfold Hid; rw [HS.out]⟩
            case measure => simp [intOf] <;> omega
          · have hz : bs.getD (8 * k + j) 0 = 0 := Bm.getD_ge _ _ _ (by rw [← HN.out]; omega)
            replace hs : hornB bs (8 * k) (j + 1) = 2 * y := by rw [hs, hz]; rfl
            have HS := Lib.hid hs
            have hy3 : 2 * y < 256 := by omega
            clear hz hs hlt2 hp
            go_wp2
            go_round
            case rel => exact ⟨j + 1, 2 * y, by omega, by go_num, by go_num, hy3, HS.out.symm⟩
            case measure => simp [intOf] <;> omega
        · go_wp2_with (at_builtin; refine app8 _ rfl _ _ rfl w.heap.size _ _ _ _ y _ (by first | rfl | omega) rfl hown rfl (by omega) hsz ?_; intro A3 c3 w3 hown3 hgrow3)
          go_roundw
          case rel =>
            refine ⟨k + 1, by omega, by go_num, A3, c3, rfl, ?_, hbel.grown hgrow3 hsz (fun j hj => (hown.block j hj).1)⟩
            rw [HT.out]
            refine hown3.to rfl ?_
            rw [HY.out, show j = 8 by omega]
          case measure => simp [intOf] <;> omega
    · go_wp2
      go_ret
      refine ⟨A1, k, c1, rfl, hown.to rfl ?_, hbel⟩
      rw [List.take_of_length_le (by rw [Bm.toBytes_length, ← HN.out]; omega)]
end Go.Proofs.Ytcddbcknjcedfaa
