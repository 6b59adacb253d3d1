/-
  Contracts of the reference of layer 1: Turn, Apart.
-/
import Derived.Test.YtknfpdlomgllhaaDoorMem
import Derived.Test.YtknfpdlomgllhaaDoorMz
namespace Go.Proofs.YtknfpdlomgllhaaDoor
open Go.RowKit
set_option maxRecDepth 100000
set_option linter.unusedVariables false
theorem lt256 {bs : List Nat} (h : ∀ b ∈ bs, b < 256) (at_ : List Int) : ∀ b ∈ Bm.trn bs at_, b < 256 := Bm.trn_lt 8 (by omega) bs at_ h
set_option maxHeartbeats 1000000 in
/-- The reference's Turn. -/
theorem refTurn (A A2 : Option Addr) (n c m c2 : Nat) (bs : List Nat) (zs : List Int) (w : World) (hr : Rd w w.heap.size A n (U8 bs)) (hz : Rd w w.heap.size A2 m (I64 zs)) (hb : ∀ b ∈ bs, b < 256) (hn : n ≤ 65536) (hm : m ≤ 65536) :
    Calls Tryd.prog 60 #[.slice A n c, .slice A2 m c2] w (Made w (Bm.trn bs zs)) := by
  have HN := Lib.hid hr.len8
  have HM := Lib.hid hz.len64
  go_enter Tryd.func60, Tryd.ntmps60
  go_wp2
  go_loopw [5, 6] (fun l i wr => ∃ k : Nat, k ≤ n ∧ i = .int .i64 k ∧ ∃ A1 c1, l = .slice A1 k c1 ∧ Own wr w.heap.size 5 A1 k c1 (U8 ((Bm.trn bs zs).take k)) ∧ Below w.heap.size w wr) (fun _ i _ => n - (intOf i).toNat)
  case atStart => exact ⟨0, Nat.zero_le _, rfl, none, 0, rfl, Own.nil _ _ _, Below.refl _ _⟩
  case round =>
    obtain ⟨k, hk, rfl, A1, c1, rfl, hown, hbel⟩ := hrel
    have hsz := hbel.size
    by_cases hlt : k < n
    · obtain ⟨b, off, rfl, hlt2, hcell⟩ := (hr.below hbel).cell8 k hlt
      have hx := Bm.byte_lt bs hb k
      have hk2 : k < (Bm.trn bs zs).length := by rw [Bm.trn_length, ← HN.out]; exact hlt
      have HT : Hid ((Bm.trn bs zs).take (k + 1) = (Bm.trn bs zs).take k ++ [Bm.tgl (bs.getD k 0) zs k]) := by
        unfold Hid
        rw [List.take_succ_eq_append_getElem hk2, ← Bm.trn_getD bs zs k (by rw [← HN.out]; exact hlt), Bm.getD_lt _ _ _ hk2]
      clear hk2
      obtain ⟨x, hxe⟩ : ∃ x, x = bs.getD k 0 := ⟨_, rfl⟩
      rw [← hxe] at hx hcell HT
      clear hxe
      go_wp2
      go_loop [7, 8] (fun s i => ∃ j y : Nat, j ≤ m ∧ y < 256 ∧ i = .int .i64 j ∧ s = .int .u8 (y : Int) ∧ Hid (y = Bm.tgl x (zs.take j) k)) (fun _ i => m - (intOf i).toNat)
      case atStart => exact ⟨0, x, Nat.zero_le _, hx, rfl, rfl, rfl⟩
      case round =>
        obtain ⟨j, y, hj, hy, rfl, rfl, HY⟩ := hrel
        by_cases hjm : j < m
        · obtain ⟨b', off', rfl, hlt3, hcell2⟩ := (hz.below hbel).cell64 j hjm
          have HS := Lib.hid (Bm.tgl_take x zs j (by rw [← HM.out]; exact hjm) k)
          obtain ⟨z, hze⟩ : ∃ z, z = zs.getD j 0 := ⟨_, rfl⟩
          rw [← hze] at hcell2 HS
          clear hze
          have hX : bits BinOp.xor IntKind.u8 (y : Int) 1 = ((y ^^^ 1 : Nat) : Int) := u8_xor_nat y 1 hy (by omega)
          have hy2 : y ^^^ 1 < 256 := Bm.xor_one_lt y 8 hy (by omega)
          by_cases h1 : z = (k : Int)
          · have t : (z == (k : Int)) = true := by simp [h1]
            have H1 := Lib.hid h1
            clear h1
            go_wp2
            go_round
            case rel => exact ⟨j + 1, y ^^^ 1, by omega, hy2, by go_num, rfl, by unfold Hid; rw [HS.out, if_pos H1.out, ← HY.out]⟩
            case measure => simp [intOf] <;> omega
          · have t : (z == (k : Int)) = false := by simp [h1]
            go_wp2
            go_round
            case rel => exact ⟨j + 1, y, by omega, hy, by go_num, rfl, by unfold Hid; rw [HS.out, if_neg h1, ← HY.out]⟩
            case measure => simp [intOf] <;> omega
        · go_wp2_with (at_builtin; refine app8 _ rfl _ _ rfl w.heap.size _ _ _ _ y _ rfl rfl hown rfl (by omega) hsz ?_; intro A3 c3 w3 hown3 hgrow3)
          go_roundw
          case rel =>
            refine ⟨k + 1, by omega, by go_num, A3, c3, rfl, ?_, hbel.grown hgrow3 hsz (fun j hj => (hown.block j hj).1)⟩
            rw [HT.out]
            refine hown3.to rfl ?_
            have hall : zs.take j = zs := List.take_of_length_le (by rw [← HM.out]; omega)
            rw [HY.out, hall]
          case measure => simp [intOf] <;> omega
    · go_wp2
      go_ret
      refine ⟨A1, k, c1, rfl, hown.to rfl ?_, hbel⟩
      rw [List.take_of_length_le (by rw [Bm.trn_length, ← HN.out]; omega)]
end Go.Proofs.YtknfpdlomgllhaaDoor
