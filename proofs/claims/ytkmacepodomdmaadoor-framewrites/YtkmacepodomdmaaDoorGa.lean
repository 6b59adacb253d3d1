/-
  The reference of layer 16: number, Bits; from.
-/
import Derived.Test.YtkmacepodomdmaaDoorFt
namespace Go.Proofs.YtkmacepodomdmaaDoor
open Go.RowKit
set_option maxRecDepth 100000
set_option linter.unusedVariables false
set_option linter.unusedSimpArgs false

theorem num_take_succ (bs : List Nat) (k : Nat) (h : k < bs.length) : num (bs.take (k + 1)) = 2 * num (bs.take k) + bs.getD k 0 := by
  rw [List.take_succ_eq_append_getElem h, num_snoc, List.getD_eq_getElem?_getD, List.getElem?_eq_getElem h]; rfl
theorem num_take_le (bs : List Nat) (hb : ∀ b ∈ bs, b ≤ 1) (k n : Nat) (h : k ≤ n) (hn : n ≤ 40) : num (bs.take k) < 1099511627776 :=
  Nat.lt_of_lt_of_le (num_take_lt bs hb k) (Nat.le_trans (Nat.pow_le_pow_right (by omega) (show k ≤ 40 by omega)) (by decide))
set_option maxHeartbeats 400000 in
/-- number. -/
theorem rnumberC (A : Option Addr) (n c : Nat) (bs : List Nat) (w : World) (hr : Rd w w.heap.size A n (U8 bs)) (hb : ∀ b ∈ bs, b ≤ 1) (hn : n ≤ 40) :
    Calls Tryd.prog 48 #[.slice A n c] w fun e w' => e = .returned (.int .i64 (num bs : Nat)) ∧ w = w' := by
  have HN := Lib.hid hr.len8
  go_enter Tryd.func48, Tryd.ntmps48
  go_wp2
  go_loop [3, 4] (fun s i => ∃ k m : Nat, k ≤ n ∧ m < 1099511627776 ∧ i = .int .i64 k ∧ s = .int .i64 m ∧ Hid (m = num (bs.take k))) (fun _ i => n - (intOf i).toNat)
  case atStart => exact ⟨0, 0, Nat.zero_le _, by omega, rfl, rfl, rfl⟩
  case round =>
    obtain ⟨k, m, hk, hmk, rfl, rfl, HA⟩ := hrel
    by_cases hlt : k < n
    · obtain ⟨b, off, rfl, hlt2, hcell⟩ := hr.cell8 k hlt
      have hx := Bm.byte_lt bs (fun b h => by have := hb b h; omega) k
      have HS := Lib.hid (num_take_succ bs k (by rw [← HN.out]; exact hlt))
      have HL := Lib.hid (num_take_le bs hb (k + 1) n (by omega) hn)
      obtain ⟨x, hxe⟩ : ∃ x, x = bs.getD k 0 := ⟨_, rfl⟩
      rw [← hxe] at hx hcell
      have HX := Lib.hid hxe
      clear hxe
      go_wp2
      go_round
      case rel => exact ⟨k + 1, 2 * m + x, by omega, by rw [HX.out, HA.out, ← HS.out]; exact HL.out, by go_num, by go_num, by
        unfold Hid; rw [HX.out, HA.out, ← HS.out]⟩
      case measure => simp [intOf] <;> omega
    · go_wp2
      go_ret
      refine ⟨ret_int' ?_, rfl⟩
      rw [HA.out, List.take_of_length_le (by have := HN.out; omega)]
set_option maxHeartbeats 400000 in
/-- Bits. -/
theorem rbitsC (n : Nat) (w : World) (h : n ≤ 65536) : Calls Tryd.prog 37 #[.int .i64 (n : Int)] w fun e w' => e = .returned (.int .i64 ((8 * (n + 4) + 6 : Nat) : Int)) ∧ w = w' := by
  go_enter Tryd.func37, Tryd.ntmps37
  go_wp2
  go_ret
  exact ⟨ret_int' (by omega), rfl⟩
set_option maxHeartbeats 800000 in
/-- from. -/
theorem fromC (kind ver len : Int) (q : Nat) (A : Option Addr) (n c : Nat) (b m : Nat) (w : World) (hq : q < 65536) (hb : b < 65536) :
    Calls Tryd.prog 18 #[.agg (FV kind q ver len (.slice A n c) b m)] w fun e w' => e = .returned (.agg (RV kind q ver len (.slice A n c) b m)) ∧ Below w.heap.size w w' := by
  go_enter Tryd.func18, Tryd.ntmps18
  go_upto_region 1 with (first | (refine at_box rfl 32 _ rfl (FV kind q ver len (.slice A n c) b m) rfl ?_; intro w1 L1) | (refine at_alloc rfl 25 rfl _ zeroR ?_; intro w2 L2))
  have p2 := L1.row.after L2.bel
  have q2 := L2.row
  have bel2 := Below.then_ L1.bel L2.bel
  obtain ⟨g1, hg1⟩ : ∃ g, g = w.heap.size := ⟨_, rfl⟩
  obtain ⟨r2, hr2⟩ : ∃ g, g = w1.heap.size := ⟨_, rfl⟩
  have HR2 : Hid (w.heap.size ≤ r2) := by unfold Hid; have := L1.size; omega
  rw [← hg1] at p2 ⊢
  rw [← hr2] at q2 ⊢
  clear L1 L2 hg1 hr2
  have c0 : w2.cell? ⟨g1, 0, none⟩ = some (.int .i64 kind) := (p2.cell 0).trans rfl
  have c1 : w2.cell? ⟨g1, 1, none⟩ = some (.int .u16 (q : Int)) := (p2.cell 1).trans rfl
  have c2 : w2.cell? ⟨g1, 2, none⟩ = some (.int .i64 ver) := (p2.cell 2).trans rfl
  have c3 : w2.cell? ⟨g1, 3, none⟩ = some (.int .i64 len) := (p2.cell 3).trans rfl
  have c4 : w2.cell? ⟨g1, 4, none⟩ = some (.slice A n c) := (p2.cell 4).trans rfl
  have c5 : w2.cell? ⟨g1, 5, none⟩ = some (.int .u16 (b : Int)) := (p2.cell 5).trans rfl
  have c6 : w2.cell? ⟨g1, 6, none⟩ = some (.int .u32 (m : Int)) := (p2.cell 6).trans rfl
  go_wp2_with (refine at_store rfl 25 _ _ rfl r2 (RV kind q ver len (.slice A n c) b m) rfl rfl 25 _ q2 (infoR _ _ _ _ _ _ _) rfl (RV_all _ _ _ _ _ _ _ _ _) ?_; intro w8 H8)
  refine bodyPost_ret (v := .agg (RV kind q ver len (.slice A n c) b m)) (results_row rfl _ _ r2 25 _ _ rfl H8.row Tryd.underlying25 rfl (infoR _ _ _ _ _ _ _)) rfl ?_
  exact ⟨rfl, bel2.trans (H8.below HR2.out)⟩
