/-
  The walks of RateTells and RateWorse.
-/
import Derived.Test.YtepcipcppdndfaaJb
namespace Go.Proofs.Ytepcipcppdndfaa
open Go.RowKit
set_option linter.unusedVariables false
set_option linter.unusedSimpArgs false
set_option maxRecDepth 100000

/-- How many versions go out at first. -/
def bu (l : Int) : Int := if l = 0 then 1 else if l = 1 then 2 else 4
theorem bu_is {l : Int} (h : 0 ≤ l ∧ l ≤ 2) : (l = 0 ∧ bu l = 1) ∨ (l = 1 ∧ bu l = 2) ∨ (l = 2 ∧ bu l = 4) := by
  unfold bu
  (repeat' split)
  all_goals omega
theorem bu_mono {x y : Int} (h : x ≤ y) (hx : 0 ≤ x) : bu x ≤ bu y := by
  unfold bu
  (repeat' split)
  all_goals omega
theorem dl_mono (l r t : Int) (h : 0 ≤ l ∧ l ≤ 2 ∧ 0 ≤ r ∧ r ≤ 3) (ht : 1 ≤ t) : dl l r t ≤ dl l r (t + 1) := by
  unfold dl
  (repeat' split)
  all_goals omega
theorem bb (x y : Int) : ((x == x) && (y == y)) = true := by simp

set_option maxHeartbeats 1600000 in
theorem tellsNo (l r t : Int) (w : World) (h : ¬(0 ≤ l ∧ l ≤ 2 ∧ 0 ≤ r ∧ r ≤ 3)) :
    Calls Try.prog 9 #[.int .i64 l, .int .i64 r, .int .i64 t] w fun e w' => e = .returned (.bool true) ∧ Below w.heap.size w w' := by
  have CR := Lib.hid ratesC
  have CB := Lib.hid (fun W => burstNo l r W h)
  have CD := Lib.hid (fun W => doneNo l r t W h)
  have CC := Lib.hid (fun W => checkNo l r W h)
  have RR : Hid (∀ W, Calls Try.prog 32 #[.int .i64 l, .int .i64 r] W fun e w' => e = .returned (.bool false) ∧ W = w') := Lib.hid (fun W => by have := refRight21 l r W; rw [decide_eq_false h] at this; exact this)
  clear h
  go_enter Try.func9, Try.ntmps9
  go_upto_region 2 with (first | (refine at_alloc rfl 52 rfl (pv 0 0) zeroPol ?_; intro w1 L1) | (refine at_store rfl 52 _ _ rfl w.heap.size (pv l r) rfl rfl 52 _ L1.row (infoPol _ _) rfl (pv_all _ _) ?_; intro w2 U2))
  have bel2 : Below w.heap.size w w2 := L1.bel.trans (U2.below (Nat.le_refl _))
  have q7 := U2.row
  clear L1 U2
  generalize w.heap.size = g7 at q7 ⊢
  go_upto_region 3 with (first | (refine at_load rfl 52 _ rfl g7 rfl 52 (pv l r) _ q7 Try.underlying52 rfl (infoPol _ _) ?_) | (go_at_call 30; refine (CB.out _).mono ?_; rintro e w3 ⟨rfl, be3⟩))
  have bel3 := Below.then_ bel2 be3
  have q7 := q7.after be3
  clear be3 bel2
  go_upto_region 4 with (first | (refine at_load rfl 52 _ rfl g7 rfl 52 (pv l r) _ q7 Try.underlying52 rfl (infoPol _ _) ?_) | (go_at_call 31; refine (CD.out _).mono ?_; rintro e w4 ⟨rfl, be4⟩) | (refine at_alloc rfl 52 rfl (pv 0 0) zeroPol ?_; intro w5 L5) | (refine at_store rfl 52 _ _ rfl w4.heap.size (pv 0 0) rfl rfl 52 _ L5.row (infoPol _ _) rfl (pv_all _ _) ?_; intro w6 U6))
  have hne : g7 < w4.heap.size := Nat.lt_of_lt_of_le q7.lt be4.size
  have bel6 : Below w.heap.size w w6 := (Below.then_ (Below.then_ bel3 be4) L5.bel).trans (U6.below (Nat.le_trans bel3.size be4.size))
  have q7 := U6.blk ((q7.after be4).after L5.bel) (by omega)
  have q10 := U6.row
  clear L5 U6 be4 bel3
  generalize w4.heap.size = g10 at q10 hne ⊢
  go_upto_region 5 with (go_at_call 32; refine (RR.out _).mono ?_; rintro e w7 ⟨rfl, rfl⟩)
  go_upto_region 7 with (first | (go_at_call 33; refine (CR.out _).mono ?_; rintro e w8 ⟨rfl, be8⟩) | (refine at_load_g rfl 52 _ rfl g7 rfl 52 (pv l r) _ (q7.after be8) Try.underlying52 rfl (infoPol _ _) ?_) | (go_at_call 34; refine (CC.out _).mono ?_; rintro e w9 ⟨rfl, be9⟩))
  have bel9 := Below.then_ (Below.then_ bel6 be8) be9
  have q7 := (q7.after be8).after be9
  have q10 := (q10.after be8).after be9
  clear be8 be9 bel6
  go_wp2_with (first | (refine at_load_g rfl 52 _ rfl g10 rfl 52 (pv 0 0) _ q10 Try.underlying52 rfl (infoPol _ _) ?_) | (refine at_eqS rfl .eql 52 _ _ _ rfl (pv 0 0) (pv 0 0) rfl rfl polGuard (.bool true) (polEq 0 0 0 0 true rfl) ?_) | (refine at_load_g rfl 52 _ rfl g7 rfl 52 (pv l r) _ q7 Try.underlying52 rfl (infoPol _ _) ?_) | (go_at_call 34; refine (CC.out _).mono ?_; rintro e wA ⟨rfl, beA⟩))
  go_ret
  exact ⟨rfl, Below.then_ bel9 beA⟩
set_option maxHeartbeats 1600000 in
theorem tellsArg0 (r t : Int) (w : World) (hr : 0 ≤ r ∧ r ≤ 3) (ht : t < 1) :
    Calls Try.prog 9 #[.int .i64 0, .int .i64 r, .int .i64 t] w fun e w' => e = .returned (.bool true) ∧ Below w.heap.size w w' := by
  have CR := Lib.hid ratesC
  have CB := Lib.hid (fun W => burstC 0 r 1 W hr (by omega))
  have CC := Lib.hid (fun W => checkYes 0 r W (by omega))
  have RR : Hid (∀ W, Calls Try.prog 32 #[.int .i64 0, .int .i64 r] W fun e w' => e = .returned (.bool true) ∧ W = w') := Lib.hid (fun W => by have := refRight21 0 r W; rw [decide_eq_true (by omega)] at this; exact this)
  have CD := Lib.hid (fun W => doneArg 0 r t W (by omega) ht)
  go_enter Try.func9, Try.ntmps9
  go_upto_region 2 with (first | (refine at_alloc rfl 52 rfl (pv 0 0) zeroPol ?_; intro w1 L1) | (refine at_store rfl 52 _ _ rfl w.heap.size (pv 0 r) rfl rfl 52 _ L1.row (infoPol _ _) rfl (pv_all _ _) ?_; intro w2 U2))
  have bel2 : Below w.heap.size w w2 := L1.bel.trans (U2.below (Nat.le_refl _))
  have q7 := U2.row
  clear L1 U2
  generalize w.heap.size = g7 at q7 ⊢
  go_upto_region 3 with (first | (refine at_load rfl 52 _ rfl g7 rfl 52 (pv 0 r) _ q7 Try.underlying52 rfl (infoPol _ _) ?_) | (go_at_call 30; refine (CB.out _).mono ?_; rintro e w3 ⟨rfl, be3⟩))
  have bel3 := Below.then_ bel2 be3
  have q7 := q7.after be3
  clear be3 bel2
  go_upto_region 4 with (first | (refine at_load rfl 52 _ rfl g7 rfl 52 (pv 0 r) _ q7 Try.underlying52 rfl (infoPol _ _) ?_) | (go_at_call 31; refine (CD.out _).mono ?_; rintro e w4 ⟨rfl, be4⟩) | (refine at_alloc rfl 52 rfl (pv 0 0) zeroPol ?_; intro w5 L5) | (refine at_store rfl 52 _ _ rfl w4.heap.size (pv 0 0) rfl rfl 52 _ L5.row (infoPol _ _) rfl (pv_all _ _) ?_; intro w6 U6))
  have hne : g7 < w4.heap.size := Nat.lt_of_lt_of_le q7.lt be4.size
  have bel6 : Below w.heap.size w w6 := (Below.then_ (Below.then_ bel3 be4) L5.bel).trans (U6.below (Nat.le_trans bel3.size be4.size))
  have q7 := U6.blk ((q7.after be4).after L5.bel) (by omega)
  have q10 := U6.row
  clear L5 U6 be4 bel3
  generalize w4.heap.size = g10 at q10 hne ⊢
  go_upto_region 5 with (go_at_call 32; refine (RR.out _).mono ?_; rintro e w7 ⟨rfl, rfl⟩)
  go_upto_region 7 with (first | (go_at_call 33; refine (CR.out _).mono ?_; rintro e w8 ⟨rfl, be8⟩) | (refine at_load_g rfl 52 _ rfl g7 rfl 52 (pv 0 r) _ (q7.after be8) Try.underlying52 rfl (infoPol _ _) ?_) | (go_at_call 34; refine (CC.out _).mono ?_; rintro e w9 ⟨rfl, be9⟩))
  have bel9 := Below.then_ (Below.then_ bel6 be8) be9
  have q7 := (q7.after be8).after be9
  have q10 := (q10.after be8).after be9
  clear be8 be9 bel6
  go_wp2_with (first | (refine at_load_g rfl 52 _ rfl g10 rfl 52 (pv 0 0) _ q10 Try.underlying52 rfl (infoPol _ _) ?_) | (refine at_eqS rfl .eql 52 _ _ _ rfl (pv 0 0) (pv 0 0) rfl rfl polGuard (.bool true) (polEq 0 0 0 0 true rfl) ?_))
  go_ret
  exact ⟨rfl, bel9⟩
set_option maxHeartbeats 1600000 in
theorem tellsYes0 (r t : Int) (w : World) (hr : 0 ≤ r ∧ r ≤ 3) (ht : 1 ≤ t) :
    Calls Try.prog 9 #[.int .i64 0, .int .i64 r, .int .i64 t] w fun e w' => e = .returned (.bool true) ∧ Below w.heap.size w w' := by
  have CR := Lib.hid ratesC
  have CB := Lib.hid (fun W => burstC 0 r 1 W hr (by omega))
  have CC := Lib.hid (fun W => checkYes 0 r W (by omega))
  have RR : Hid (∀ W, Calls Try.prog 32 #[.int .i64 0, .int .i64 r] W fun e w' => e = .returned (.bool true) ∧ W = w') := Lib.hid (fun W => by have := refRight21 0 r W; rw [decide_eq_true (by omega)] at this; exact this)
  obtain ⟨x, hx⟩ : ∃ x, x = dl 0 r t := ⟨_, rfl⟩
  obtain ⟨y, hy⟩ : ∃ y, y = dr 0 r t := ⟨_, rfl⟩
  have hd := d_in t (show 0 ≤ (0 : Int) ∧ (0 : Int) ≤ 2 ∧ 0 ≤ r ∧ r ≤ 3 by omega)
  have CD := Lib.hid (fun W => doneC 0 r t W (by omega) ht)
  have CF := Lib.hid (fun W => refDone21 0 r t W (by omega) ht)
  rw [← hx, ← hy] at hd
  simp only [← hx, ← hy] at CD CF
  have CQ := Lib.hid (fun W => checkYes x y W hd)
  clear hx hy hd
  go_enter Try.func9, Try.ntmps9
  go_upto_region 2 with (first | (refine at_alloc rfl 52 rfl (pv 0 0) zeroPol ?_; intro w1 L1) | (refine at_store rfl 52 _ _ rfl w.heap.size (pv 0 r) rfl rfl 52 _ L1.row (infoPol _ _) rfl (pv_all _ _) ?_; intro w2 U2))
  have bel2 : Below w.heap.size w w2 := L1.bel.trans (U2.below (Nat.le_refl _))
  have q7 := U2.row
  clear L1 U2
  generalize w.heap.size = g7 at q7 ⊢
  go_upto_region 3 with (first | (refine at_load rfl 52 _ rfl g7 rfl 52 (pv 0 r) _ q7 Try.underlying52 rfl (infoPol _ _) ?_) | (go_at_call 30; refine (CB.out _).mono ?_; rintro e w3 ⟨rfl, be3⟩))
  have bel3 := Below.then_ bel2 be3
  have q7 := q7.after be3
  clear be3 bel2
  go_upto_region 4 with (first | (refine at_load rfl 52 _ rfl g7 rfl 52 (pv 0 r) _ q7 Try.underlying52 rfl (infoPol _ _) ?_) | (go_at_call 31; refine (CD.out _).mono ?_; rintro e w4 ⟨rfl, be4⟩) | (refine at_alloc rfl 52 rfl (pv 0 0) zeroPol ?_; intro w5 L5) | (refine at_store rfl 52 _ _ rfl w4.heap.size (pv x y) rfl rfl 52 _ L5.row (infoPol _ _) rfl (pv_all _ _) ?_; intro w6 U6))
  have hne : g7 < w4.heap.size := Nat.lt_of_lt_of_le q7.lt be4.size
  have bel6 : Below w.heap.size w w6 := (Below.then_ (Below.then_ bel3 be4) L5.bel).trans (U6.below (Nat.le_trans bel3.size be4.size))
  have q7 := U6.blk ((q7.after be4).after L5.bel) (by omega)
  have q10 := U6.row
  clear L5 U6 be4 bel3
  generalize w4.heap.size = g10 at q10 hne ⊢
  go_upto_region 5 with (go_at_call 32; refine (RR.out _).mono ?_; rintro e w7 ⟨rfl, rfl⟩)
  go_upto_region 7 with (first | (go_at_call 33; refine (CR.out _).mono ?_; rintro e w8 ⟨rfl, be8⟩) | (refine at_load_g rfl 52 _ rfl g7 rfl 52 (pv 0 r) _ (q7.after be8) Try.underlying52 rfl (infoPol _ _) ?_) | (go_at_call 34; refine (CC.out _).mono ?_; rintro e w9 ⟨rfl, be9⟩))
  have bel9 := Below.then_ (Below.then_ bel6 be8) be9
  have q7 := (q7.after be8).after be9
  have q10 := (q10.after be8).after be9
  clear be8 be9 bel6
  go_upto_region 14 with (go_at_call 35; refine (CF.out _).mono ?_; rintro e wB ⟨rfl, rfl⟩)
  go_wp2_with (first | (refine at_load rfl 52 _ rfl g10 rfl 52 (pv x y) _ q10 Try.underlying52 rfl (infoPol _ _) ?_) | (refine at_eqS rfl .eql 52 _ _ _ rfl (pv x y) (pv x y) rfl rfl polGuard (.bool true) (polEq x x y y true (bb x y)) ?_) | (refine at_load_g rfl 52 _ rfl g10 rfl 52 (pv x y) _ q10 Try.underlying52 rfl (infoPol _ _) ?_) | (go_at_call 34; refine (CQ.out _).mono ?_; rintro e wA ⟨rfl, beA⟩))
  go_ret
  exact ⟨rfl, Below.then_ bel9 beA⟩
set_option maxHeartbeats 1600000 in
theorem tellsArg1 (r t : Int) (w : World) (hr : 0 ≤ r ∧ r ≤ 3) (ht : t < 1) :
    Calls Try.prog 9 #[.int .i64 1, .int .i64 r, .int .i64 t] w fun e w' => e = .returned (.bool true) ∧ Below w.heap.size w w' := by
  have CR := Lib.hid ratesC
  have CB := Lib.hid (fun W => burstC 1 r 2 W hr (by omega))
  have CC := Lib.hid (fun W => checkYes 1 r W (by omega))
  have RR : Hid (∀ W, Calls Try.prog 32 #[.int .i64 1, .int .i64 r] W fun e w' => e = .returned (.bool true) ∧ W = w') := Lib.hid (fun W => by have := refRight21 1 r W; rw [decide_eq_true (by omega)] at this; exact this)
  have CD := Lib.hid (fun W => doneArg 1 r t W (by omega) ht)
  go_enter Try.func9, Try.ntmps9
  go_upto_region 2 with (first | (refine at_alloc rfl 52 rfl (pv 0 0) zeroPol ?_; intro w1 L1) | (refine at_store rfl 52 _ _ rfl w.heap.size (pv 1 r) rfl rfl 52 _ L1.row (infoPol _ _) rfl (pv_all _ _) ?_; intro w2 U2))
  have bel2 : Below w.heap.size w w2 := L1.bel.trans (U2.below (Nat.le_refl _))
  have q7 := U2.row
  clear L1 U2
  generalize w.heap.size = g7 at q7 ⊢
  go_upto_region 3 with (first | (refine at_load rfl 52 _ rfl g7 rfl 52 (pv 1 r) _ q7 Try.underlying52 rfl (infoPol _ _) ?_) | (go_at_call 30; refine (CB.out _).mono ?_; rintro e w3 ⟨rfl, be3⟩))
  have bel3 := Below.then_ bel2 be3
  have q7 := q7.after be3
  clear be3 bel2
  go_upto_region 4 with (first | (refine at_load rfl 52 _ rfl g7 rfl 52 (pv 1 r) _ q7 Try.underlying52 rfl (infoPol _ _) ?_) | (go_at_call 31; refine (CD.out _).mono ?_; rintro e w4 ⟨rfl, be4⟩) | (refine at_alloc rfl 52 rfl (pv 0 0) zeroPol ?_; intro w5 L5) | (refine at_store rfl 52 _ _ rfl w4.heap.size (pv 0 0) rfl rfl 52 _ L5.row (infoPol _ _) rfl (pv_all _ _) ?_; intro w6 U6))
  have hne : g7 < w4.heap.size := Nat.lt_of_lt_of_le q7.lt be4.size
  have bel6 : Below w.heap.size w w6 := (Below.then_ (Below.then_ bel3 be4) L5.bel).trans (U6.below (Nat.le_trans bel3.size be4.size))
  have q7 := U6.blk ((q7.after be4).after L5.bel) (by omega)
  have q10 := U6.row
  clear L5 U6 be4 bel3
  generalize w4.heap.size = g10 at q10 hne ⊢
  go_upto_region 5 with (go_at_call 32; refine (RR.out _).mono ?_; rintro e w7 ⟨rfl, rfl⟩)
  go_upto_region 7 with (first | (go_at_call 33; refine (CR.out _).mono ?_; rintro e w8 ⟨rfl, be8⟩) | (refine at_load_g rfl 52 _ rfl g7 rfl 52 (pv 1 r) _ (q7.after be8) Try.underlying52 rfl (infoPol _ _) ?_) | (go_at_call 34; refine (CC.out _).mono ?_; rintro e w9 ⟨rfl, be9⟩))
  have bel9 := Below.then_ (Below.then_ bel6 be8) be9
  have q7 := (q7.after be8).after be9
  have q10 := (q10.after be8).after be9
  clear be8 be9 bel6
  go_wp2_with (first | (refine at_load_g rfl 52 _ rfl g10 rfl 52 (pv 0 0) _ q10 Try.underlying52 rfl (infoPol _ _) ?_) | (refine at_eqS rfl .eql 52 _ _ _ rfl (pv 0 0) (pv 0 0) rfl rfl polGuard (.bool true) (polEq 0 0 0 0 true rfl) ?_))
  go_ret
  exact ⟨rfl, bel9⟩
set_option maxHeartbeats 1600000 in
theorem tellsYes1 (r t : Int) (w : World) (hr : 0 ≤ r ∧ r ≤ 3) (ht : 1 ≤ t) :
    Calls Try.prog 9 #[.int .i64 1, .int .i64 r, .int .i64 t] w fun e w' => e = .returned (.bool true) ∧ Below w.heap.size w w' := by
  have CR := Lib.hid ratesC
  have CB := Lib.hid (fun W => burstC 1 r 2 W hr (by omega))
  have CC := Lib.hid (fun W => checkYes 1 r W (by omega))
  have RR : Hid (∀ W, Calls Try.prog 32 #[.int .i64 1, .int .i64 r] W fun e w' => e = .returned (.bool true) ∧ W = w') := Lib.hid (fun W => by have := refRight21 1 r W; rw [decide_eq_true (by omega)] at this; exact this)
  obtain ⟨x, hx⟩ : ∃ x, x = dl 1 r t := ⟨_, rfl⟩
  obtain ⟨y, hy⟩ : ∃ y, y = dr 1 r t := ⟨_, rfl⟩
  have hd := d_in t (show 0 ≤ (1 : Int) ∧ (1 : Int) ≤ 2 ∧ 0 ≤ r ∧ r ≤ 3 by omega)
  have CD := Lib.hid (fun W => doneC 1 r t W (by omega) ht)
  have CF := Lib.hid (fun W => refDone21 1 r t W (by omega) ht)
  rw [← hx, ← hy] at hd
  simp only [← hx, ← hy] at CD CF
  have CQ := Lib.hid (fun W => checkYes x y W hd)
  clear hx hy hd
  go_enter Try.func9, Try.ntmps9
  go_upto_region 2 with (first | (refine at_alloc rfl 52 rfl (pv 0 0) zeroPol ?_; intro w1 L1) | (refine at_store rfl 52 _ _ rfl w.heap.size (pv 1 r) rfl rfl 52 _ L1.row (infoPol _ _) rfl (pv_all _ _) ?_; intro w2 U2))
  have bel2 : Below w.heap.size w w2 := L1.bel.trans (U2.below (Nat.le_refl _))
  have q7 := U2.row
  clear L1 U2
  generalize w.heap.size = g7 at q7 ⊢
  go_upto_region 3 with (first | (refine at_load rfl 52 _ rfl g7 rfl 52 (pv 1 r) _ q7 Try.underlying52 rfl (infoPol _ _) ?_) | (go_at_call 30; refine (CB.out _).mono ?_; rintro e w3 ⟨rfl, be3⟩))
  have bel3 := Below.then_ bel2 be3
  have q7 := q7.after be3
  clear be3 bel2
  go_upto_region 4 with (first | (refine at_load rfl 52 _ rfl g7 rfl 52 (pv 1 r) _ q7 Try.underlying52 rfl (infoPol _ _) ?_) | (go_at_call 31; refine (CD.out _).mono ?_; rintro e w4 ⟨rfl, be4⟩) | (refine at_alloc rfl 52 rfl (pv 0 0) zeroPol ?_; intro w5 L5) | (refine at_store rfl 52 _ _ rfl w4.heap.size (pv x y) rfl rfl 52 _ L5.row (infoPol _ _) rfl (pv_all _ _) ?_; intro w6 U6))
  have hne : g7 < w4.heap.size := Nat.lt_of_lt_of_le q7.lt be4.size
  have bel6 : Below w.heap.size w w6 := (Below.then_ (Below.then_ bel3 be4) L5.bel).trans (U6.below (Nat.le_trans bel3.size be4.size))
  have q7 := U6.blk ((q7.after be4).after L5.bel) (by omega)
  have q10 := U6.row
  clear L5 U6 be4 bel3
  generalize w4.heap.size = g10 at q10 hne ⊢
  go_upto_region 5 with (go_at_call 32; refine (RR.out _).mono ?_; rintro e w7 ⟨rfl, rfl⟩)
  go_upto_region 7 with (first | (go_at_call 33; refine (CR.out _).mono ?_; rintro e w8 ⟨rfl, be8⟩) | (refine at_load_g rfl 52 _ rfl g7 rfl 52 (pv 1 r) _ (q7.after be8) Try.underlying52 rfl (infoPol _ _) ?_) | (go_at_call 34; refine (CC.out _).mono ?_; rintro e w9 ⟨rfl, be9⟩))
  have bel9 := Below.then_ (Below.then_ bel6 be8) be9
  have q7 := (q7.after be8).after be9
  have q10 := (q10.after be8).after be9
  clear be8 be9 bel6
  go_upto_region 14 with (go_at_call 35; refine (CF.out _).mono ?_; rintro e wB ⟨rfl, rfl⟩)
  go_wp2_with (first | (refine at_load rfl 52 _ rfl g10 rfl 52 (pv x y) _ q10 Try.underlying52 rfl (infoPol _ _) ?_) | (refine at_eqS rfl .eql 52 _ _ _ rfl (pv x y) (pv x y) rfl rfl polGuard (.bool true) (polEq x x y y true (bb x y)) ?_) | (refine at_load_g rfl 52 _ rfl g10 rfl 52 (pv x y) _ q10 Try.underlying52 rfl (infoPol _ _) ?_) | (go_at_call 34; refine (CQ.out _).mono ?_; rintro e wA ⟨rfl, beA⟩))
  go_ret
  exact ⟨rfl, Below.then_ bel9 beA⟩
set_option maxHeartbeats 1600000 in
theorem tellsArg2 (r t : Int) (w : World) (hr : 0 ≤ r ∧ r ≤ 3) (ht : t < 1) :
    Calls Try.prog 9 #[.int .i64 2, .int .i64 r, .int .i64 t] w fun e w' => e = .returned (.bool true) ∧ Below w.heap.size w w' := by
  have CR := Lib.hid ratesC
  have CB := Lib.hid (fun W => burstC 2 r 4 W hr (by omega))
  have CC := Lib.hid (fun W => checkYes 2 r W (by omega))
  have RR : Hid (∀ W, Calls Try.prog 32 #[.int .i64 2, .int .i64 r] W fun e w' => e = .returned (.bool true) ∧ W = w') := Lib.hid (fun W => by have := refRight21 2 r W; rw [decide_eq_true (by omega)] at this; exact this)
  have CD := Lib.hid (fun W => doneArg 2 r t W (by omega) ht)
  go_enter Try.func9, Try.ntmps9
  go_upto_region 2 with (first | (refine at_alloc rfl 52 rfl (pv 0 0) zeroPol ?_; intro w1 L1) | (refine at_store rfl 52 _ _ rfl w.heap.size (pv 2 r) rfl rfl 52 _ L1.row (infoPol _ _) rfl (pv_all _ _) ?_; intro w2 U2))
  have bel2 : Below w.heap.size w w2 := L1.bel.trans (U2.below (Nat.le_refl _))
  have q7 := U2.row
  clear L1 U2
  generalize w.heap.size = g7 at q7 ⊢
  go_upto_region 3 with (first | (refine at_load rfl 52 _ rfl g7 rfl 52 (pv 2 r) _ q7 Try.underlying52 rfl (infoPol _ _) ?_) | (go_at_call 30; refine (CB.out _).mono ?_; rintro e w3 ⟨rfl, be3⟩))
  have bel3 := Below.then_ bel2 be3
  have q7 := q7.after be3
  clear be3 bel2
  go_upto_region 4 with (first | (refine at_load rfl 52 _ rfl g7 rfl 52 (pv 2 r) _ q7 Try.underlying52 rfl (infoPol _ _) ?_) | (go_at_call 31; refine (CD.out _).mono ?_; rintro e w4 ⟨rfl, be4⟩) | (refine at_alloc rfl 52 rfl (pv 0 0) zeroPol ?_; intro w5 L5) | (refine at_store rfl 52 _ _ rfl w4.heap.size (pv 0 0) rfl rfl 52 _ L5.row (infoPol _ _) rfl (pv_all _ _) ?_; intro w6 U6))
  have hne : g7 < w4.heap.size := Nat.lt_of_lt_of_le q7.lt be4.size
  have bel6 : Below w.heap.size w w6 := (Below.then_ (Below.then_ bel3 be4) L5.bel).trans (U6.below (Nat.le_trans bel3.size be4.size))
  have q7 := U6.blk ((q7.after be4).after L5.bel) (by omega)
  have q10 := U6.row
  clear L5 U6 be4 bel3
  generalize w4.heap.size = g10 at q10 hne ⊢
  go_upto_region 5 with (go_at_call 32; refine (RR.out _).mono ?_; rintro e w7 ⟨rfl, rfl⟩)
  go_upto_region 7 with (first | (go_at_call 33; refine (CR.out _).mono ?_; rintro e w8 ⟨rfl, be8⟩) | (refine at_load_g rfl 52 _ rfl g7 rfl 52 (pv 2 r) _ (q7.after be8) Try.underlying52 rfl (infoPol _ _) ?_) | (go_at_call 34; refine (CC.out _).mono ?_; rintro e w9 ⟨rfl, be9⟩))
  have bel9 := Below.then_ (Below.then_ bel6 be8) be9
  have q7 := (q7.after be8).after be9
  have q10 := (q10.after be8).after be9
  clear be8 be9 bel6
  go_wp2_with (first | (refine at_load_g rfl 52 _ rfl g10 rfl 52 (pv 0 0) _ q10 Try.underlying52 rfl (infoPol _ _) ?_) | (refine at_eqS rfl .eql 52 _ _ _ rfl (pv 0 0) (pv 0 0) rfl rfl polGuard (.bool true) (polEq 0 0 0 0 true rfl) ?_))
  go_ret
  exact ⟨rfl, bel9⟩
set_option maxHeartbeats 1600000 in
theorem tellsYes2 (r t : Int) (w : World) (hr : 0 ≤ r ∧ r ≤ 3) (ht : 1 ≤ t) :
    Calls Try.prog 9 #[.int .i64 2, .int .i64 r, .int .i64 t] w fun e w' => e = .returned (.bool true) ∧ Below w.heap.size w w' := by
  have CR := Lib.hid ratesC
  have CB := Lib.hid (fun W => burstC 2 r 4 W hr (by omega))
  have CC := Lib.hid (fun W => checkYes 2 r W (by omega))
  have RR : Hid (∀ W, Calls Try.prog 32 #[.int .i64 2, .int .i64 r] W fun e w' => e = .returned (.bool true) ∧ W = w') := Lib.hid (fun W => by have := refRight21 2 r W; rw [decide_eq_true (by omega)] at this; exact this)
  obtain ⟨x, hx⟩ : ∃ x, x = dl 2 r t := ⟨_, rfl⟩
  obtain ⟨y, hy⟩ : ∃ y, y = dr 2 r t := ⟨_, rfl⟩
  have hd := d_in t (show 0 ≤ (2 : Int) ∧ (2 : Int) ≤ 2 ∧ 0 ≤ r ∧ r ≤ 3 by omega)
  have CD := Lib.hid (fun W => doneC 2 r t W (by omega) ht)
  have CF := Lib.hid (fun W => refDone21 2 r t W (by omega) ht)
  rw [← hx, ← hy] at hd
  simp only [← hx, ← hy] at CD CF
  have CQ := Lib.hid (fun W => checkYes x y W hd)
  clear hx hy hd
  go_enter Try.func9, Try.ntmps9
  go_upto_region 2 with (first | (refine at_alloc rfl 52 rfl (pv 0 0) zeroPol ?_; intro w1 L1) | (refine at_store rfl 52 _ _ rfl w.heap.size (pv 2 r) rfl rfl 52 _ L1.row (infoPol _ _) rfl (pv_all _ _) ?_; intro w2 U2))
  have bel2 : Below w.heap.size w w2 := L1.bel.trans (U2.below (Nat.le_refl _))
  have q7 := U2.row
  clear L1 U2
  generalize w.heap.size = g7 at q7 ⊢
  go_upto_region 3 with (first | (refine at_load rfl 52 _ rfl g7 rfl 52 (pv 2 r) _ q7 Try.underlying52 rfl (infoPol _ _) ?_) | (go_at_call 30; refine (CB.out _).mono ?_; rintro e w3 ⟨rfl, be3⟩))
  have bel3 := Below.then_ bel2 be3
  have q7 := q7.after be3
  clear be3 bel2
  go_upto_region 4 with (first | (refine at_load rfl 52 _ rfl g7 rfl 52 (pv 2 r) _ q7 Try.underlying52 rfl (infoPol _ _) ?_) | (go_at_call 31; refine (CD.out _).mono ?_; rintro e w4 ⟨rfl, be4⟩) | (refine at_alloc rfl 52 rfl (pv 0 0) zeroPol ?_; intro w5 L5) | (refine at_store rfl 52 _ _ rfl w4.heap.size (pv x y) rfl rfl 52 _ L5.row (infoPol _ _) rfl (pv_all _ _) ?_; intro w6 U6))
  have hne : g7 < w4.heap.size := Nat.lt_of_lt_of_le q7.lt be4.size
  have bel6 : Below w.heap.size w w6 := (Below.then_ (Below.then_ bel3 be4) L5.bel).trans (U6.below (Nat.le_trans bel3.size be4.size))
  have q7 := U6.blk ((q7.after be4).after L5.bel) (by omega)
  have q10 := U6.row
  clear L5 U6 be4 bel3
  generalize w4.heap.size = g10 at q10 hne ⊢
  go_upto_region 5 with (go_at_call 32; refine (RR.out _).mono ?_; rintro e w7 ⟨rfl, rfl⟩)
  go_upto_region 7 with (first | (go_at_call 33; refine (CR.out _).mono ?_; rintro e w8 ⟨rfl, be8⟩) | (refine at_load_g rfl 52 _ rfl g7 rfl 52 (pv 2 r) _ (q7.after be8) Try.underlying52 rfl (infoPol _ _) ?_) | (go_at_call 34; refine (CC.out _).mono ?_; rintro e w9 ⟨rfl, be9⟩))
  have bel9 := Below.then_ (Below.then_ bel6 be8) be9
  have q7 := (q7.after be8).after be9
  have q10 := (q10.after be8).after be9
  clear be8 be9 bel6
  go_upto_region 14 with (go_at_call 35; refine (CF.out _).mono ?_; rintro e wB ⟨rfl, rfl⟩)
  go_wp2_with (first | (refine at_load rfl 52 _ rfl g10 rfl 52 (pv x y) _ q10 Try.underlying52 rfl (infoPol _ _) ?_) | (refine at_eqS rfl .eql 52 _ _ _ rfl (pv x y) (pv x y) rfl rfl polGuard (.bool true) (polEq x x y y true (bb x y)) ?_) | (refine at_load_g rfl 52 _ rfl g10 rfl 52 (pv x y) _ q10 Try.underlying52 rfl (infoPol _ _) ?_) | (go_at_call 34; refine (CQ.out _).mono ?_; rintro e wA ⟨rfl, beA⟩))
  go_ret
  exact ⟨rfl, Below.then_ bel9 beA⟩
/-- The walk of RateTells. -/
theorem rateTells (l r t : Int) (w : World) :
    Calls Try.prog 9 #[.int .i64 l, .int .i64 r, .int .i64 t] w fun e w' => e = .returned (.bool true) ∧ Below w.heap.size w w' := by
  by_cases h : 0 ≤ l ∧ l ≤ 2 ∧ 0 ≤ r ∧ r ≤ 3
  · obtain rfl | rfl | rfl : l = 0 ∨ l = 1 ∨ l = 2 := by omega
    all_goals by_cases ht : t < 1
    · exact tellsArg0 r t w (by omega) ht
    · exact tellsYes0 r t w (by omega) (by omega)
    · exact tellsArg1 r t w (by omega) ht
    · exact tellsYes1 r t w (by omega) (by omega)
    · exact tellsArg2 r t w (by omega) ht
    · exact tellsYes2 r t w (by omega) (by omega)
  · exact tellsNo l r t w h

set_option maxHeartbeats 1600000 in
/-- The walk of RateWorse. -/
theorem rateWorse (a b c : Int) (w : World) :
    Calls Try.prog 11 #[.int .i64 a, .int .i64 b, .int .i64 c] w fun e w' => e = .returned (.bool true) ∧ Below w.heap.size w w' := by
  have CR := Lib.hid ratesC
  obtain ⟨u, hu, hu2⟩ := wrap_u64 a
  obtain ⟨v, hv, hv2⟩ := wrap_u64 b
  obtain ⟨z, hz, hz2⟩ := wrap_u64 c
  obtain ⟨l, hl⟩ : ∃ l : Int, l = (u : Int) % 3 := ⟨_, rfl⟩
  obtain ⟨r, hr⟩ : ∃ r : Int, r = (v : Int) % 4 := ⟨_, rfl⟩
  obtain ⟨k, hk⟩ : ∃ k : Int, k = (z : Int) % 9 := ⟨_, rfl⟩
  have e1 : (u : Int) % 3 = l := hl.symm
  have e2 : (v : Int) % 4 = r := hr.symm
  have e3 : (z : Int) % 9 = k := hk.symm
  have hlr : 0 ≤ l ∧ l ≤ 2 ∧ 0 ≤ r ∧ r ≤ 3 := by omega
  have hk2 : 0 ≤ k ∧ k ≤ 8 := by omega
  have hmo := dl_mono l r (1 + k) hlr (by omega)
  have d1 := d_in (1 + k) hlr
  have d2 := d_in (1 + k + 1) hlr
  have C1 := Lib.hid (fun W => doneC l r (1 + k) W hlr (by omega))
  have C2 := Lib.hid (fun W => doneC l r (1 + k + 1) W hlr (by omega))
  generalize dl l r (1 + k) = x1 at *
  generalize dr l r (1 + k) = y1 at *
  generalize dl l r (1 + k + 1) = x2 at *
  generalize dr l r (1 + k + 1) = y2 at *
  have C3 := Lib.hid (fun W => burstC x1 y1 (bu x1) W (by omega) (bu_is (by omega)))
  have C4 := Lib.hid (fun W => burstC x2 y2 (bu x2) W (by omega) (bu_is (by omega)))
  have hbu := bu_mono hmo d1.1
  generalize bu x1 = b1 at *
  generalize bu x2 = b2 at *
  clear hl hr hk
  go_enter Try.func11, Try.ntmps11
  go_upto_region 2 with (first | (refine at_alloc rfl 52 rfl (pv 0 0) zeroPol ?_; intro w1 L1) | (refine at_store rfl 52 _ _ rfl w.heap.size (pv l r) rfl rfl 52 _ L1.row (infoPol _ _) rfl (pv_all _ _) ?_; intro w2 U2))
  have bel2 : Below w.heap.size w w2 := L1.bel.trans (U2.below (Nat.le_refl _))
  have q7 := U2.row
  clear L1 U2
  generalize w.heap.size = g7 at q7 ⊢
  go_upto_region 3 with fail
  go_upto_region 4 with (first | (refine at_load rfl 52 _ rfl g7 rfl 52 (pv l r) _ q7 Try.underlying52 rfl (infoPol _ _) ?_) | (go_at_call 31; refine (C1.out _).mono ?_; rintro e w4 ⟨rfl, be4⟩) | (refine at_alloc rfl 52 rfl (pv 0 0) zeroPol ?_; intro w5 L5) | (refine at_store rfl 52 _ _ rfl w4.heap.size (pv x1 y1) rfl rfl 52 _ L5.row (infoPol _ _) rfl (pv_all _ _) ?_; intro w6 U6))
  have hne : g7 < w4.heap.size := Nat.lt_of_lt_of_le q7.lt be4.size
  have bel6 : Below w.heap.size w w6 := (Below.then_ (Below.then_ bel2 be4) L5.bel).trans (U6.below (Nat.le_trans bel2.size be4.size))
  have q7 := U6.blk ((q7.after be4).after L5.bel) (by omega)
  have q9 := U6.row
  clear L5 U6 be4 bel2
  generalize w4.heap.size = g9 at q9 hne ⊢
  go_upto_region 5 with (first | (refine at_load rfl 52 _ rfl g7 rfl 52 (pv l r) _ q7 Try.underlying52 rfl (infoPol _ _) ?_) | (go_at_call 31; refine (C2.out _).mono ?_; rintro e w8 ⟨rfl, be8⟩) | (refine at_alloc rfl 52 rfl (pv 0 0) zeroPol ?_; intro w9 L9) | (refine at_store rfl 52 _ _ rfl w8.heap.size (pv x2 y2) rfl rfl 52 _ L9.row (infoPol _ _) rfl (pv_all _ _) ?_; intro wA UA))
  have hn2 : g9 < w8.heap.size := Nat.lt_of_lt_of_le q9.lt be8.size
  have belA : Below w.heap.size w wA := (Below.then_ (Below.then_ bel6 be8) L9.bel).trans (UA.below (Nat.le_trans bel6.size be8.size))
  have q9 := UA.blk ((q9.after be8).after L9.bel) (by omega)
  have q11 := UA.row
  clear L9 UA be8 bel6 q7
  generalize w8.heap.size = g11 at q11 hn2 ⊢
  go_upto_region 6 with (first | (refine at_load rfl 52 _ rfl g9 rfl 52 (pv x1 y1) _ q9 Try.underlying52 rfl (infoPol _ _) ?_) | (go_at_call 30; refine (C3.out _).mono ?_; rintro e wB ⟨rfl, beB⟩))
  have belB := Below.then_ belA beB
  have q9 := q9.after beB
  have q11 := q11.after beB
  clear beB belA
  go_upto_region 7 with (first | (refine at_load rfl 52 _ rfl g11 rfl 52 (pv x2 y2) _ q11 Try.underlying52 rfl (infoPol _ _) ?_) | (go_at_call 30; refine (C4.out _).mono ?_; rintro e wC ⟨rfl, beC⟩))
  have belC := Below.then_ belB beC
  have q9 := q9.after beC
  have q11 := q11.after beC
  clear beC belB
  go_wp2_with fail
  refine (CR.out _).mono ?_; rintro e wD ⟨rfl, beD⟩
  have belD := Below.then_ belC beD
  have hc9 : wD.cell? ⟨g9, 0, none⟩ = some (.int .i64 x1) := ((q9.after beD).cell 0).trans rfl
  have hc11 : wD.cell? ⟨g11, 0, none⟩ = some (.int .i64 x2) := ((q11.after beD).cell 0).trans rfl
  clear q9 q11 belC beD
  go_wp2
  go_ret
  exact ⟨rfl, belD⟩
end Go.Proofs.Ytepcipcppdndfaa
