/-
  The reference's Read: what is refused by its head.
-/
import Derived.Test.YtkmacepodomdmaaDoorGa
import Derived.Test.YtkmacepodomdmaaDoorRc
namespace Go.Proofs.YtkmacepodomdmaaDoor
open Go.RowKit
set_option maxRecDepth 100000
set_option linter.unusedVariables false
set_option linter.unusedSimpArgs false

theorem Rd.from8y {w : World} {B : Nat} {b off n : Nat} {bs : List Nat} (h : Rd w B (some ⟨b, off, none⟩) n (U8 bs)) (m : Nat) (hm : m ≤ n) (hn : 0 < n) : Rd w B (some ⟨b, off + m, none⟩) (n - m) (U8 (bs.drop m)) := by
  obtain ⟨b', off', e, hlt, hc⟩ := h.at_ hn
  injection e with e
  injection e with e1 e2
  subst e1 e2
  refine ⟨by rw [U8_length, List.length_drop, ← h.len8], fun _ => ⟨b, off + m, rfl, hlt, fun i u hu => ?_⟩⟩
  rw [Nat.add_assoc]
  refine hc (m + i) u ?_
  rw [← hu]
  simp [U8]
/-- A part of a row, from one place up to another. -/
theorem Rd.mid8 {w : World} {B : Nat} {b off n : Nat} {bs : List Nat} (h : Rd w B (some ⟨b, off, none⟩) n (U8 bs)) (lo k : Nat) (hm : lo + k ≤ n) (hn : 0 < n) : Rd w B (some ⟨b, off + lo, none⟩) k (U8 ((bs.drop lo).take k)) :=
  (h.from8y lo (by omega) hn).cut8 k (by omega)
/-- What is refused. -/
def RNo (er : Int) (w : World) (e : Ending) (w' : World) : Prop := e = .returned (.tuple #[.agg (RV 0 0 0 0 (.slice none 0 0) 0 0), .int .i64 er]) ∧ Below w.heap.size w w'
theorem Rd.conv_hid {w : World} {A : Option Addr} {n c : Nat} {bs : List Nat} (h : Rd w w.heap.size A n (U8 bs)) (hnone : A = none → n = 0) : Hid (∀ W, Below w.heap.size w W → convO A n c W = .ok (.string (str bs)) W) := fun W hb => h.conv hnone W hb
set_option maxHeartbeats 1000000 in
theorem rreadShort (A : Option Addr) (c : Nat) (w : World) : Calls Tryd.prog 16 #[.slice A 0 c] w (RNo 2 w) := by
  go_enter Tryd.func16, Tryd.ntmps16
  go_upto_region 1 with (refine at_alloc rfl 25 rfl _ zeroR ?_; intro w1 L1)
  have q1 := L1.row
  have bel1 := L1.bel
  obtain ⟨g, hg⟩ : ∃ g, g = w.heap.size := ⟨_, rfl⟩
  have HG : Hid (w.heap.size ≤ g) := by unfold Hid; omega
  rw [← hg] at q1 ⊢
  clear L1 hg
  go_wp2_with (refine at_store rfl 25 _ _ rfl g (RV 0 0 0 0 (.slice none 0 0) 0 0) rfl rfl 25 _ q1 (infoR _ _ _ _ _ _ _) rfl (RV_all _ _ _ _ _ _ _ _ _) ?_; intro w8 H8)
  refine bodyPost_ret (v := .tuple #[.agg (RV 0 0 0 0 (.slice none 0 0) 0 0), .int .i64 2]) (results_row_tmp rfl _ _ g 25 _ _ rfl _ rfl H8.row Tryd.underlying25 rfl (infoR _ _ _ _ _ _ _)) rfl ?_
  exact ⟨rfl, bel1.trans (H8.below HG.out)⟩
set_option maxHeartbeats 1000000 in
theorem rreadKind (A : Option Addr) (n c : Nat) (bs : List Nat) (w : World) (hr : Rd w w.heap.size A n (U8 bs)) (hb : ∀ b ∈ bs, b < 256) (hn : 0 < n) (hk1 : bs.getD 0 0 / 16 ≠ 1) (hk2 : bs.getD 0 0 / 16 ≠ 2) : Calls Tryd.prog 16 #[.slice A n c] w (RNo 4 w) := by
  have hx := Bm.byte_lt bs hb 0
  go_enter Tryd.func16, Tryd.ntmps16
  go_upto_region 1 with (refine at_alloc rfl 25 rfl _ zeroR ?_; intro w1 L1)
  have q1 := L1.row
  have bel1 := L1.bel
  obtain ⟨b, off, rfl, hlt2, hcell⟩ := (hr.below bel1).cell8 0 hn
  rw [Nat.add_zero] at hcell
  generalize bs.getD 0 0 = x at *
  obtain ⟨g, hg⟩ : ∃ g, g = w.heap.size := ⟨_, rfl⟩
  have HG : Hid (w.heap.size ≤ g) := by unfold Hid; omega
  rw [← hg] at q1 ⊢
  clear L1 hg
  have t1 : (((x : Int) / 16) != 1) = true := by simp; omega
  have t2 : (((x : Int) / 16) != 2) = true := by simp; omega
  go_wp2_with (refine at_store rfl 25 _ _ rfl g (RV 0 0 0 0 (.slice none 0 0) 0 0) rfl rfl 25 _ q1 (infoR _ _ _ _ _ _ _) rfl (RV_all _ _ _ _ _ _ _ _ _) ?_; intro w8 H8)
  refine bodyPost_ret (v := .tuple #[.agg (RV 0 0 0 0 (.slice none 0 0) 0 0), .int .i64 4]) (results_row_tmp rfl _ _ g 25 _ _ rfl _ rfl H8.row Tryd.underlying25 rfl (infoR _ _ _ _ _ _ _)) rfl ?_
  exact ⟨rfl, bel1.trans (H8.below HG.out)⟩
set_option maxHeartbeats 1000000 in
theorem rreadFew (A : Option Addr) (n c : Nat) (bs : List Nat) (w : World) (hr : Rd w w.heap.size A n (U8 bs)) (hb : ∀ b ∈ bs, b < 256) (hn : 0 < n) (k : Nat) (hk : bs.getD 0 0 / 16 = k) (hk2 : k = 1 ∨ k = 2) (hh : n < 3 + 3 * k) : Calls Tryd.prog 16 #[.slice A n c] w (RNo 2 w) := by
  have hx := Bm.byte_lt bs hb 0
  go_enter Tryd.func16, Tryd.ntmps16
  go_upto_region 1 with (refine at_alloc rfl 25 rfl _ zeroR ?_; intro w1 L1)
  have q1 := L1.row
  have bel1 := L1.bel
  obtain ⟨b, off, rfl, hlt2, hcell⟩ := (hr.below bel1).cell8 0 hn
  rw [Nat.add_zero] at hcell
  generalize bs.getD 0 0 = x at *
  obtain ⟨g, hg⟩ : ∃ g, g = w.heap.size := ⟨_, rfl⟩
  have HG : Hid (w.heap.size ≤ g) := by unfold Hid; omega
  rw [← hg] at q1 ⊢
  clear L1 hg
  have e1 : (x : Int) / 16 = (k : Int) := by omega
  clear hk
  rcases hk2 with rfl | rfl
  · go_wp2_with (refine at_store rfl 25 _ _ rfl g (RV 0 0 0 0 (.slice none 0 0) 0 0) rfl rfl 25 _ q1 (infoR _ _ _ _ _ _ _) rfl (RV_all _ _ _ _ _ _ _ _ _) ?_; intro w8 H8)
    refine bodyPost_ret (v := .tuple #[.agg (RV 0 0 0 0 (.slice none 0 0) 0 0), .int .i64 2]) (results_row_tmp rfl _ _ g 25 _ _ rfl _ rfl H8.row Tryd.underlying25 rfl (infoR _ _ _ _ _ _ _)) rfl ?_
    exact ⟨rfl, bel1.trans (H8.below HG.out)⟩
  · go_wp2_with (refine at_store rfl 25 _ _ rfl g (RV 0 0 0 0 (.slice none 0 0) 0 0) rfl rfl 25 _ q1 (infoR _ _ _ _ _ _ _) rfl (RV_all _ _ _ _ _ _ _ _ _) ?_; intro w8 H8)
    refine bodyPost_ret (v := .tuple #[.agg (RV 0 0 0 0 (.slice none 0 0) 0 0), .int .i64 2]) (results_row_tmp rfl _ _ g 25 _ _ rfl _ rfl H8.row Tryd.underlying25 rfl (infoR _ _ _ _ _ _ _)) rfl ?_
    exact ⟨rfl, bel1.trans (H8.below HG.out)⟩
set_option maxHeartbeats 1000000 in
theorem rreadSum (A : Option Addr) (n c : Nat) (bs : List Nat) (w : World) (hr : Rd w w.heap.size A n (U8 bs)) (hb : ∀ b ∈ bs, b < 256) (hnc : n ≤ c) (hc : c ≤ 9223372036854775807) (k h : Nat) (hk : bs.getD 0 0 / 16 = k) (hk2 : k = 1 ∧ h = 6 ∨ k = 2 ∧ h = 9) (hh : h ≤ n) (hok : Crc.ok16 (bs.take h) = false) : Calls Tryd.prog 16 #[.slice A n c] w (RNo 6 w) := by
  have hx := Bm.byte_lt bs hb 0
  go_enter Tryd.func16, Tryd.ntmps16
  go_upto_region 1 with (refine at_alloc rfl 25 rfl _ zeroR ?_; intro w1 L1)
  have q1 := L1.row
  have bel1 := L1.bel
  have r1 := (hr.below bel1).up bel1.size
  obtain ⟨b, off, rfl, hlt2, hcell⟩ := r1.cell8 0 (by omega)
  rw [Nat.add_zero] at hcell
  have rh := r1.cut8 h hh
  have C := Lib.hid (refRight16 _ h c _ w1 rh (fun b hb' => hb b (List.mem_of_mem_take hb')) (by omega) (by omega) hc (rh.conv_hid (fun h => by cases h)))
  rw [hok] at C
  generalize bs.getD 0 0 = x at *
  obtain ⟨g, hg⟩ : ∃ g, g = w.heap.size := ⟨_, rfl⟩
  have HG : Hid (w.heap.size ≤ g) := by unfold Hid; omega
  rw [← hg] at q1 ⊢
  clear L1 hg rh r1 hr hok
  have e1 : (x : Int) / 16 = (k : Int) := by omega
  clear hk
  rcases hk2 with ⟨rfl, rfl⟩ | ⟨rfl, rfl⟩
  · go_wp2_with (first | (go_at_call 46; refine C.out.mono ?_; rintro e w2 ⟨rfl, b2⟩; have q2 := q1.after b2; have bel2 := Below.then_ bel1 b2) | (refine at_store rfl 25 _ _ rfl g (RV 0 0 0 0 (.slice none 0 0) 0 0) rfl rfl 25 _ q2 (infoR _ _ _ _ _ _ _) rfl (RV_all _ _ _ _ _ _ _ _ _) ?_; intro w8 H8))
    refine bodyPost_ret (v := .tuple #[.agg (RV 0 0 0 0 (.slice none 0 0) 0 0), .int .i64 6]) (results_row_tmp rfl _ _ g 25 _ _ rfl _ rfl H8.row Tryd.underlying25 rfl (infoR _ _ _ _ _ _ _)) rfl ?_
    exact ⟨rfl, bel2.trans (H8.below HG.out)⟩
  · go_wp2_with (first | (go_at_call 46; refine C.out.mono ?_; rintro e w2 ⟨rfl, b2⟩; have q2 := q1.after b2; have bel2 := Below.then_ bel1 b2) | (refine at_store rfl 25 _ _ rfl g (RV 0 0 0 0 (.slice none 0 0) 0 0) rfl rfl 25 _ q2 (infoR _ _ _ _ _ _ _) rfl (RV_all _ _ _ _ _ _ _ _ _) ?_; intro w8 H8))
    refine bodyPost_ret (v := .tuple #[.agg (RV 0 0 0 0 (.slice none 0 0) 0 0), .int .i64 6]) (results_row_tmp rfl _ _ g 25 _ _ rfl _ rfl H8.row Tryd.underlying25 rfl (infoR _ _ _ _ _ _ _)) rfl ?_
    exact ⟨rfl, bel2.trans (H8.below HG.out)⟩
