/-
  Contracts of bits.Right, bits.Turn, bits.Bytes.
-/
import Derived.Test.YtmafkcjlehlebaaBa
import Derived.Test.YtmafkcjlehlebaaBn
namespace Go.Proofs.Ytmafkcjlehlebaa
open Go.RowKit
set_option linter.unusedVariables false
set_option maxHeartbeats 400000 in
/-- bits.Right. -/
theorem right (A : Option Addr) (n c : Nat) (bs : List Nat) (w : World) (hr : Rd w w.heap.size A n (U8 bs)) (hb : ∀ b ∈ bs, b < 256) (hn : n ≤ 65536) :
    Calls Try.prog 36 #[.slice A n c] w fun e w' => e = .returned (.bool (Bm.isB bs)) ∧ w = w' := by
  have HN := Lib.hid hr.len8
  go_enter Try.func36, Try.ntmps36
  go_wp2
  go_loop [7] (fun i => ∃ k : Nat, k ≤ n ∧ i = .int .i64 k ∧ Hid (∀ j, j < k → bs.getD j 0 ≤ 1)) (fun i => n - (intOf i).toNat)
  case atStart => exact ⟨0, Nat.zero_le _, rfl, fun j h => absurd h (by omega)⟩
  case round =>
    obtain ⟨k, hk, rfl, HA⟩ := hrel
    by_cases hlt : k < n
    · obtain ⟨b, off, rfl, hlt2, hcell⟩ := hr.cell8 k hlt
      have hx := Bm.byte_lt bs hb k
      obtain ⟨x, hxe⟩ : ∃ x, x = bs.getD k 0 := ⟨_, rfl⟩
      rw [← hxe] at hx hcell
      have HX := Lib.hid hxe
      clear hxe
      by_cases h1 : 1 < x
      · go_wp2
        go_ret
        exact ⟨ret_bool (Bm.isB_false k (by rw [← HN.out]; exact hlt) (by rw [← HX.out]; exact h1)).symm, rfl⟩
      · go_wp2
        go_round
        case rel => exact ⟨k + 1, by omega, by go_num, fun j hj => by
          by_cases hjk : j = k
          · subst hjk; rw [← HX.out]; omega
          · exact HA.out j (by omega)⟩
        case measure => simp [intOf] <;> omega
    · go_wp2
      go_ret
      refine ⟨ret_bool (Bm.isB_of_getD fun i hi => HA.out i ?_).symm, rfl⟩
      rw [← HN.out] at hi; omega
theorem lt256 {bs : List Nat} (h : ∀ b ∈ bs, b < 256) (at_ : List Int) : ∀ b ∈ Bm.trn bs at_, b < 256 := Bm.trn_lt 8 (by omega) bs at_ h
set_option maxHeartbeats 1000000 in
/-- bits.Turn. -/
theorem turn (A A2 : Option Addr) (n c m c2 : Nat) (bs : List Nat) (zs : List Int) (w : World) (hr : Rd w w.heap.size A n (U8 bs)) (hnone : A = none → n = 0 ∧ c = 0) (hz : Rd w w.heap.size A2 m (I64 zs)) (hb : ∀ b ∈ bs, b < 256) (hn : n ≤ 65536) (hm : m ≤ 65536) :
    Calls Try.prog 27 #[.slice A n c, .slice A2 m c2] w (Made w (Bm.trn bs zs)) := by
  obtain ⟨i0, hi0, hz0, hz1, hz2⟩ := info_parts info5
  have HN := Lib.hid hr.len8
  have HM := Lib.hid hz.len64
  go_enter Try.func27, Try.ntmps27
  go_wp2_with (at_builtin; refine wpList_app _ rfl _ _ 22 rfl w.heap.size 5 i0 _ 1 Try.underlying22 hi0 hz0 hz1 hz2 rfl none 0 0 [] rfl (Own.nil _ _ _) _ _ _ _ (U8 bs) rfl hr hnone (U8_one bs) (by omega) (by unfold maxLen; omega) (Nat.le_refl _) ?_; intro A5 c5 w5 hown5 hgrow5)
  have hbel5 : Below w.heap.size w w5 := (Below.refl _ _).grown hgrow5 (Nat.le_refl _) (fun k h => by cases h)
  clear hz0 hz1 hz2 hi0 hgrow5
  have hown6 : Own w5 w.heap.size 5 A5 n c5 (U8 (Bm.trn bs [])) := hown5.to (by omega) (by rw [Bm.trn_nil]; rfl)
  clear hown5
  go_loopw [12] (fun i wr => ∃ k : Nat, k ≤ m ∧ i = .int .i64 k ∧ Own wr w.heap.size 5 A5 n c5 (U8 (Bm.trn bs (zs.take k))) ∧ Below w.heap.size w wr) (fun i _ => m - (intOf i).toNat)
  case atStart => exact ⟨0, Nat.zero_le _, rfl, hown6, hbel5⟩
  case round =>
    clear hown6 hbel5
    obtain ⟨k, hk, rfl, hown, hbel⟩ := hrel
    by_cases hlt : k < m
    · obtain ⟨b, off, rfl, hlt2, hcell⟩ := (hz.below hbel).cell64 k hlt
      have HI := Lib.hid (Bm.trn_in bs zs k (by rw [← HM.out]; exact hlt))
      have HO := Lib.hid (Bm.trn_out bs zs k (by rw [← HM.out]; exact hlt))
      obtain ⟨z, hze⟩ : ∃ z, z = zs.getD k 0 := ⟨_, rfl⟩
      rw [← hze] at hcell HI HO
      clear hze
      by_cases h0 : 0 ≤ z
      · by_cases h1 : z < n
        · obtain ⟨p, rfl⟩ := Int.eq_ofNat_of_zero_le h0
          have hp : p < n := by omega
          have hx := Bm.byte_lt _ (lt256 hb (zs.take k)) p
          obtain ⟨g, rfl, hg1, hg2, hgc, hgf, hgs⟩ := hown.slot p hp
          rw [U8_get _ p (by rw [Bm.trn_length, ← HN.out]; exact hp)] at hgc
          have HI2 := Lib.hid (HI.out p (by rw [← HN.out]; exact hp) rfl)
          obtain ⟨x, hxe⟩ : ∃ x, x = (Bm.trn bs (zs.take k)).getD p 0 := ⟨_, rfl⟩
          rw [← hxe] at hx hgc HI2
          clear hxe HI HO
          have hX : bits BinOp.xor IntKind.u8 (x : Int) 1 = ((x ^^^ 1 : Nat) : Int) := u8_xor_nat x 1 hx (by omega)
          have HS := Lib.hid (hgs (.int .u8 ((x ^^^ 1 : Nat) : Int)))
          clear hgs
          have t1 : decide (0 ≤ (p : Int)) = true := by simp
          have t2 : decide ((p : Int) < (n : Int)) = true := by simp; omega
          go_wp2
          go_roundw
          case rel =>
            refine ⟨k + 1, by omega, by go_num, ?_, hbel.setCell hg1 _⟩
            rw [HI2.out, ← U8_set]
            exact HS.out
          case measure => simp [intOf] <;> omega
        · have t1 : decide (0 ≤ z) = true := by simp; omega
          have t2 : decide (z < (n : Int)) = false := by simp; omega
          go_wp2
          go_roundw
          case rel => exact ⟨k + 1, by omega, by go_num, by rw [HO.out (.inr (by rw [← HN.out]; omega))]; exact hown, hbel⟩
          case measure => simp [intOf] <;> omega
      · have t1 : decide (0 ≤ z) = false := by simp; omega
        go_wp2
        go_roundw
        case rel => exact ⟨k + 1, by omega, by go_num, by rw [HO.out (.inl (by omega))]; exact hown, hbel⟩
        case measure => simp [intOf] <;> omega
    · go_wp2
      go_ret
      refine ⟨A5, n, c5, rfl, hown.to rfl ?_, hbel⟩
      rw [List.take_of_length_le (by rw [← HM.out]; omega)]
theorem or_join (a b i : Nat) (ha : a < 256) (hb : b < 256) (h1 : a % 2 ^ i = 0) (h2 : b < 2 ^ i) : bits BinOp.or IntKind.u8 (a : Int) (b : Int) = ((a + b : Nat) : Int) := by
  rw [u8_or_nat a b ha hb, nat_join i a b h1 h2]
set_option maxHeartbeats 1000000 in
/-- bits.Bytes of bits. -/
theorem bytesYes (A : Option Addr) (n c : Nat) (bs : List Nat) (w : World) (hr : Rd w w.heap.size A n (U8 bs)) (hb : ∀ b ∈ bs, b ≤ 1) (hn : n ≤ 65536) :
    Calls Try.prog 30 #[.slice A n c] w fun e w' => ∃ A' n' c', e = .returned (.tuple #[.slice A' n' c', .int .i64 0]) ∧ Own w' w.heap.size 5 A' n' c' (U8 (Bm.toBytes bs)) ∧ Below w.heap.size w w' := by
  obtain ⟨i0, hi0, hz0, hz1, hz2⟩ := info_parts info5
  have HN := Lib.hid hr.len8
  have hb2 : ∀ b ∈ bs, b < 256 := fun b h => by have := hb b h; omega
  have C := Lib.hid (right A n c bs w hr hb2 hn)
  rw [Bm.isB_of hb] at C
  obtain ⟨N, hN⟩ : ∃ N, N = (n + 7) / 8 := ⟨_, rfl⟩
  have HNN := Lib.hid hN
  have hN1 : n ≤ 8 * N := by omega
  have hN2 : 8 * N ≤ n + 7 := by omega
  have hN3 : ((n : Int) + 7) / 8 = (N : Int) := by omega
  clear hN
  go_enter Try.func30, Try.ntmps30
  go_wp2_with (first | (go_at_call 36; refine C.out.mono ?_; rintro e w' ⟨rfl, rfl⟩) | (at_make; refine wpList_make_full _ rfl _ _ 22 rfl w.heap.size 5 i0 (.int .u8 0) 1 Try.underlying22 hi0 hz0 hz1 .i64 .i64 _ _ N rfl rfl (by first | rfl | omega) (by first | rfl | omega) (by rw [hz2]; omega) (by unfold maxLen; omega) (Nat.le_refl _) ?_; intro w0 hown0 hgrow0))
  have hbel0 : Below w.heap.size w w0 := (Below.refl _ _).grown hgrow0 (Nat.le_refl _) (fun k h => by cases h)
  have hown1 : Own w0 w.heap.size 5 (some ⟨w.heap.size, 0, none⟩) N N (U8 (Bm.part bs 0)) := by
    rw [made8] at hown0
    rw [Bm.part_zero, ← HN.out, ← HNN.out]
    exact ⟨hown0⟩
  clear hown0 hgrow0 hi0 hz0 hz1 hz2 hN3
  go_loopw [17] (fun i wr => ∃ k : Nat, k ≤ n ∧ i = .int .i64 k ∧ Own wr w.heap.size 5 (some ⟨w.heap.size, 0, none⟩) N N (U8 (Bm.part bs k)) ∧ Below w.heap.size w wr) (fun i _ => n - (intOf i).toNat)
  case atStart => exact ⟨0, Nat.zero_le _, rfl, hown1, hbel0⟩
  case round =>
    clear hown1 hbel0
    obtain ⟨k, hk, rfl, hown, hbel⟩ := hrel
    by_cases hlt : k < n
    · obtain ⟨b, off, rfl, hlt2, hcell⟩ := (hr.below hbel).cell8 k hlt
      have hkl : k < bs.length := by rw [← HN.out]; exact hlt
      have hx := Bm.bit_le bs hb k
      obtain ⟨o1, o2⟩ := Bm.part_or bs hb k hkl
      have HP := Lib.hid (Bm.part_succ bs k hkl)
      obtain ⟨g, hg, hg1, hg2, hgc, hgf, hgs⟩ := hown.slot (k / 8) (by omega)
      have hg3 : w.heap.size = g := by injection hg with hg; injection hg
      subst hg3
      rw [U8_get _ (k / 8) (by rw [Bm.part_length, ← HN.out, ← HNN.out]; omega)] at hgc
      have hy := Bm.byte_lt _ (Bm.part_bounds bs hb k) (k / 8)
      obtain ⟨y, hye⟩ : ∃ y, y = (Bm.part bs k).getD (k / 8) 0 := ⟨_, rfl⟩
      rw [← hye] at hgc hy HP o1
      obtain ⟨x, hxe⟩ : ∃ x, x = bs.getD k 0 := ⟨_, rfl⟩
      rw [← hxe] at hcell hx HP o2
      clear hye hxe hg hkl
      obtain ⟨q, r, hr8, hkq⟩ : ∃ q r, r < 8 ∧ k = 8 * q + r := ⟨k / 8, k % 8, by omega, by omega⟩
      rw [show k / 8 = q by omega] at hgc hgf HP hgs
      rw [show k % 8 = r by omega] at o1 o2 HP
      have e1 : (k : Int) / 8 = (q : Int) := by omega
      have e2 : (k : Int) % 8 = (r : Int) := by omega
      obtain ⟨s, hs⟩ : ∃ s : Nat, 7 - r = s := ⟨_, rfl⟩
      have e3 : (7 : Int) - (r : Int) = (s : Int) := by omega
      rw [hs] at o2 HP
      have hs2 : s ≤ 7 := by omega
      have hqN : (q : Int) < (N : Int) := by omega
      have hq0 : (0 : Int) ≤ (q : Int) := by omega
      clear hkq hs
      have hp2 : 2 ^ (8 - r) ≤ 2 ^ 8 := Nat.pow_le_pow_right (by decide) (by omega)
      have ho : x * 2 ^ s < 256 := by omega
      have hsh : (x : Int) * 2 ^ s % 256 = ((x * 2 ^ s : Nat) : Int) := by
        rw [show ((x : Int) * 2 ^ s) = ((x * 2 ^ s : Nat) : Int) by simp]
        omega
      have hor := or_join y (x * 2 ^ s) (8 - r) hy ho o1 o2
      have HS := Lib.hid (hgs (.int .u8 ((y + x * 2 ^ s : Nat) : Int)))
      have HSH := Lib.hid hsh
      have HOR := Lib.hid hor
      clear hgs hsh hor o1 o2 hp2
      go_wp2_with fail
      go_region
      go_wp2
      go_roundw
      case rel =>
        refine ⟨k + 1, by omega, by go_num, ?_, ?_⟩
        · rw [HSH.out, HOR.out, HP.out, ← U8_set]
          exact ⟨HS.out.row.drew⟩
        · exact (hbel.setCell hg1 _).drew
      case measure => simp [intOf] <;> omega
    · go_wp2
      go_ret2
      refine ⟨_, _, _, rfl, hown.to rfl ?_, hbel⟩
      rw [show k = n by omega, HN.out, Bm.part_all]
end Go.Proofs.Ytmafkcjlehlebaa
