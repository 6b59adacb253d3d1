/-
  The walk of TrellisEdges.
-/
import Derived.Test.YtlnjealhiikmeaaDoorTf
namespace Go.Proofs.YtlnjealhiikmeaaDoor
open Go.RowKit
set_option linter.unusedVariables false
set_option linter.unusedSimpArgs false

set_option maxHeartbeats 400000 in
/-- TrellisEdges of what is no state. -/
theorem walkTrellisEdgesNo (z : Int) (w : World) (hT : Taps w) (h : z < 0 ∨ 63 < z) :
    Calls Tryd.prog 8 #[.int .i64 z] w fun e w' => e = .returned (.bool true) ∧ Below w.heap.size w w' := by
  have C1 := Lib.hid (fromNo z w h)
  have C2 := Lib.hid (fun W => intoNo z W h)
  have C3 := Lib.hid leadsC
  have H1 : Hid (Z14.all (·.oneCell') = true) := by unfold Hid; kernel_rfl
  have I14 : Hid ((Tryd.prog.info? 45).map (·.size) = some Z14.size) := info14
  have ZE := Lib.hid Z14_eq
  have HC : Hid (∀ W g, Blk W g 45 Z14 → W.cell? ⟨g, 0, none⟩ = some (.int .i64 0) ∧ W.cell? ⟨g, 1, none⟩ = some (.int .i64 0) ∧ W.cell? ⟨g, 2, none⟩ = some (.int .u8 0) ∧ W.cell? ⟨g, 3, none⟩ = some (.int .u8 0) ∧ W.cell? ⟨g, 4, none⟩ = some (.int .u8 0) ∧ W.cell? ⟨g, 5, none⟩ = some (.int .u8 0) ∧ W.cell? ⟨g, 6, none⟩ = some (.int .u8 0) ∧ W.cell? ⟨g, 7, none⟩ = some (.int .i64 0) ∧ W.cell? ⟨g, 8, none⟩ = some (.int .i64 0) ∧ W.cell? ⟨g, 9, none⟩ = some (.int .u8 0) ∧ W.cell? ⟨g, 10, none⟩ = some (.int .u8 0) ∧ W.cell? ⟨g, 11, none⟩ = some (.int .u8 0) ∧ W.cell? ⟨g, 12, none⟩ = some (.int .u8 0) ∧ W.cell? ⟨g, 13, none⟩ = some (.int .u8 0)) :=
    fun W g h => ⟨h.cell 0, h.cell 1, h.cell 2, h.cell 3, h.cell 4, h.cell 5, h.cell 6, h.cell 7, h.cell 8, h.cell 9, h.cell 10, h.cell 11, h.cell 12, h.cell 13⟩
  have HQ := Lib.hid eqZ14
  have HQ2 := Lib.hid eqlZ14
  have d1 : decide (z < 0) = true ∨ (decide (z < 0) = false ∧ decide (63 < z) = true) := by
    by_cases hz : z < 0
    · exact .inl (by simp [hz])
    · exact .inr ⟨by simp <;> omega, by simp <;> omega⟩
  generalize hZ : Z14 = Z at *
  clear h hZ
  go_enter Tryd.func8, Tryd.ntmps8
  go_upto_region 2 with (first | (go_at_call 21; refine C1.out.mono ?_; rintro e w1 ⟨rfl, hb1⟩) | (refine at_alloc rfl 45 rfl Z ZE.out ?_; intro w2 h2) | (refine at_store rfl 45 _ _ rfl w1.heap.size Z rfl rfl 45 Z h2.row I14.out rfl H1.out ?_; intro w3 h3))
  have b3 := Below.then_ hb1 (h2.bel.trans (h3.below (Nat.le_refl _)))
  have hT3 := hT.after b3
  go_upto_region 3 with (first | (go_at_call 22; refine (C2.out _).mono ?_; rintro e w4 ⟨rfl, hb4⟩) | (refine at_alloc rfl 45 rfl Z ZE.out ?_; intro w5 h5) | (refine at_store rfl 45 _ _ rfl w4.heap.size Z rfl rfl 45 Z h5.row I14.out rfl H1.out ?_; intro w6 h6))
  have b6 := Below.then_ hb4 (h5.bel.trans (h6.below (Nat.le_refl _)))
  have hT6 := hT3.after b6
  go_upto_region 5 with (go_at_call 23; refine (C3.out w6 hT6).mono ?_; rintro e w7 ⟨rfl, hb7⟩)
  have q3 := (h3.row.after b6).after hb7
  have q5 := h6.row.after hb7
  have b7 := Below.then_ (Below.then_ b3 b6) hb7
  obtain ⟨k0, k1, k2, k3, k4, k5, k6, k7, k8, k9, k10, k11, k12, k13⟩ := HC.out _ _ q3
  obtain ⟨j0, j1, j2, j3, j4, j5, j6, j7, j8, j9, j10, j11, j12, j13⟩ := HC.out _ _ q5
  clear q3 q5 h2 h3 h5 h6 hT hT3 hT6 hb1 hb4 hb7 b3 b6 HC ZE I14 H1 C1 C2 C3
  generalize w1.heap.size = g3 at *
  generalize w4.heap.size = g5 at *
  have hq := HQ.out
  have hq2 := HQ2.out
  rcases d1 with d1 | ⟨d1, d2⟩
  · go_wp2
    go_ret
    exact ⟨rfl, b7⟩
  · go_wp2
    go_ret
    exact ⟨rfl, b7⟩

theorem nx_back (s k : Nat) (hs : s < 64) (hk : k ≤ 1) : 2 * Cv.nx s k % 64 = s - s % 2 ∧ Cv.nx s k / 32 = k := by unfold Cv.nx; omega

set_option maxHeartbeats 600000 in
set_option maxRecDepth 100000 in
/-- TrellisEdges of a state. -/
theorem walkTrellisEdgesYes (s : Nat) (w : World) (hT : Taps w) (hs : s < 64) :
    Calls Tryd.prog 8 #[.int .i64 (s : Int)] w fun e w' => e = .returned (.bool true) ∧ Below w.heap.size w w' := by
  obtain ⟨x, hx⟩ : ∃ x, s / 32 = x := ⟨_, rfl⟩
  obtain ⟨r, hr⟩ : ∃ r, 2 * s % 64 = r := ⟨_, rfl⟩
  have ex : (s : Int) / 32 = (x : Int) := by omega
  have hx1 : x ≤ 1 := by omega
  have hr1 : r + 1 < 64 := by omega
  have HRX : Hid (∀ k, k ≤ 1 → Cv.nx (r + k) x = s) := fun k hk => by unfold Cv.nx; omega
  obtain ⟨m, hm⟩ : ∃ m : Nat, m = s % 32 := ⟨_, rfl⟩
  have f1 : (s : Int).tmod 32 = (m : Int) := by rw [Int.tmod_eq_emod_of_nonneg (by omega)]; omega
  have f1' : (s : Int) % 32 = (m : Int) := by omega
  have f2 : IntKind.i64.wrap ((m : Int) * 2) = (r : Int) := by rw [IntWalk.i64_in _ (by omega)]; omega
  have f2' : (m : Int) * 2 = (r : Int) := by omega
  have f2r : IntKind.i64.wrap (r : Int) = (r : Int) := IntWalk.i64_in _ (by omega)
  have C1 := Lib.hid (fromC s w hs hT)
  have C2 := Lib.hid (fun W hT => intoC s W hs hT)
  rw [hx, hr] at C2
  have C3 := Lib.hid leadsC
  have H1 := Lib.hid (E14_one s 0 s 1)
  have H2 := Lib.hid (E14_one r x (r + 1) x)
  have HZ := Lib.hid Z14_eq
  have I1 : Hid ((Tryd.prog.info? 45).map (·.size) = some (E14 s 0 s 1).size) := info14
  have I2 : Hid ((Tryd.prog.info? 45).map (·.size) = some (E14 r x (r + 1) x).size) := info14
  have S1 := Lib.hid (Z14_size.trans (E14_size s 0 s 1).symm)
  have S2 := Lib.hid (Z14_size.trans (E14_size r x (r + 1) x).symm)
  have HEA : Hid (∀ k, k ≤ 1 → ∀ i u, (E7 s k).toList[i]? = some u → (E14 s 0 s 1)[7 * k + i]? = some u) := fun k hk => E14_k s 0 s 1 k s k (by omega)
  have HEB : Hid (∀ k, k ≤ 1 → ∀ i u, (E7 (r + k) x).toList[i]? = some u → (E14 r x (r + 1) x)[7 * k + i]? = some u) := fun k hk => E14_k r x (r + 1) x k (r + k) x (by omega)
  clear hx hr hm
  generalize hEA : E14 s 0 s 1 = EA at *
  generalize hEB : E14 r x (r + 1) x = EB at *
  clear hEA hEB
  go_enter Tryd.func8, Tryd.ntmps8
  go_upto_region 2 with (first | (go_at_call 21; refine C1.out.mono ?_; rintro e w1 ⟨rfl, hb1⟩) | (refine at_alloc rfl 45 rfl Z14 HZ.out ?_; intro w2 h2) | (refine at_store rfl 45 _ _ rfl w1.heap.size EA rfl rfl 45 Z14 h2.row I1.out S1.out H1.out ?_; intro w3 h3))
  have b3 := Below.then_ hb1 (h2.bel.trans (h3.below (Nat.le_refl _)))
  have hT3 := hT.after b3
  go_upto_region 3 with (first | (go_at_call 22; refine (C2.out w3 hT3).mono ?_; rintro e w4 ⟨rfl, hb4⟩) | (refine at_alloc rfl 45 rfl Z14 HZ.out ?_; intro w5 h5) | (refine at_store rfl 45 _ _ rfl w4.heap.size EB rfl rfl 45 Z14 h5.row I2.out S2.out H2.out ?_; intro w6 h6))
  have b6 := Below.then_ hb4 (h5.bel.trans (h6.below (Nat.le_refl _)))
  have hT6 := hT3.after b6
  go_upto_region 5 with (go_at_call 23; refine (C3.out w6 hT6).mono ?_; rintro e w7 ⟨rfl, hb7⟩)
  have q3 := (h3.row.after b6).after hb7
  have q5 := h6.row.after hb7
  have b7 := Below.then_ (Below.then_ b3 b6) hb7
  clear h2 h3 h5 h6 hT3 hT6 hb1 hb4 hb7 b3 b6 C1 C2 C3
  generalize w1.heap.size = g3 at *
  generalize w4.heap.size = g5 at *
  have d1 : decide ((s : Int) < 0) = false := by simp
  have d2 : decide ((63 : Int) < (s : Int)) = false := by simp <;> omega
  go_wp2
  go_loopw [8] (fun i wr => ∃ k : Nat, k ≤ 2 ∧ i = .int .i64 k ∧ Blk wr g3 45 EA ∧ Blk wr g5 45 EB ∧ Below w.heap.size w wr) (fun i _ => 2 - (intOf i).toNat)
  case atStart => exact ⟨0, by omega, rfl, q3, q5, b7⟩
  case round =>
    clear q3 q5 b7
    obtain ⟨k, hk, rfl, a_0, b_0, hbel⟩ := hrel
    have hsz := hbel.size
    by_cases hlt : k < 2
    · have hk1 : k ≤ 1 := by omega
      obtain ⟨q, hq⟩ : ∃ q, r + k = q := ⟨_, rfl⟩
      have f3 : IntKind.i64.wrap ((r : Int) + (k : Int)) = (q : Int) := by rw [IntWalk.i64_in _ (by omega)]; omega
      have f3' : (r : Int) + (k : Int) = (q : Int) := by omega
      have f3q : IntKind.i64.wrap (q : Int) = (q : Int) := IntWalk.i64_in _ (by omega)
      have f4 : IntKind.u8.wrap (k : Int) = (k : Int) := by
        have : k = 0 ∨ k = 1 := by omega
        rcases this with rfl | rfl <;> rfl
      have CS1 := Lib.hid (fun W => stepR s k W hs hk1)
      have CQ1 := Lib.hid (fun W => sameC s k W)
      have CS2 := Lib.hid (fun W => stepR q x W (by omega) hx1)
      have CQ2 := Lib.hid (fun W => sameC q x W)
      have HRA := Lib.hid (HEA.out k hk1)
      have HRB := Lib.hid (HEB.out k hk1)
      have HNX := Lib.hid (HRX.out k hk1)
      rw [hq] at HRB HNX
      have ia := fun W => run_idx (P := Tryd.prog) (sz := 7) Tryd.underlying45 (by kernel_rfl) g3 0 k hlt .i64 W
      have ib := fun W => run_idx (P := Tryd.prog) (sz := 7) Tryd.underlying45 (by kernel_rfl) g5 0 k hlt .i64 W
      simp only [Nat.zero_add] at ia ib
      have c_0 : wr.cell? ⟨g5, 7 * k + 1, none⟩ = some (.int .i64 (s : Int)) := by
        refine (b_0.cell (7 * k + 1)).trans (HRB.out 1 _ ?_)
        show some (Value.int .i64 ((Cv.nx q x : Nat) : Int)) = _
        rw [HNX.out]
      have HTC : Hid (∀ W, Blk W g3 45 EA → W.cell? ⟨g3, 7 * k + 1, none⟩ = some (.int .i64 (Cv.nx s k : Nat))) := fun W h => (h.cell (7 * k + 1)).trans (HRA.out 1 _ rfl)
      have hnx := Cv.nx_lt s k hs hk1
      have CI := Lib.hid (fun W hT => intoC (Cv.nx s k) W hnx hT)
      have HB := nx_back s k hs hk1
      have HPAR : Hid ((E14 (2 * Cv.nx s k % 64) (Cv.nx s k / 32) (2 * Cv.nx s k % 64 + 1) (Cv.nx s k / 32) = E14 s k (s + 1) k ∧ (∀ i u, (E7 s k).toList[i]? = some u → (E14 s k (s + 1) k)[0 + i]? = some u)) ∨ (∃ p, E14 (2 * Cv.nx s k % 64) (Cv.nx s k / 32) (2 * Cv.nx s k % 64 + 1) (Cv.nx s k / 32) = E14 p k s k ∧ ((∀ i u, (E7 p k).toList[i]? = some u → (E14 p k s k)[0 + i]? = some u) ∧ (∀ i u, (E7 s k).toList[i]? = some u → (E14 p k s k)[7 + i]? = some u)) ∧ ∀ W, (binOp .neq 44 (.agg (E7 p k)) (.agg (E7 s k))).run Tryd.prog W = .ok (.bool true) W)) := by
        unfold Hid
        rw [HB.1, HB.2]
        by_cases hp : s % 2 = 0
        · rw [hp]
          exact .inl ⟨rfl, E14_k s k (s + 1) k 0 s k (by omega)⟩
        · have e1 : s - s % 2 = s - 1 := by omega
          have e2 : s - 1 + 1 = s := by omega
          rw [e1, e2]
          exact .inr ⟨s - 1, rfl, ⟨E14_k (s - 1) k s k 0 (s - 1) k (by omega), E14_k (s - 1) k s k 1 s k (by omega)⟩, neE7' (s - 1) s k (by omega)⟩
      have HNK := Lib.hid (neE7 s k)
      have iK : Hid ((Tryd.prog.info? 44).map (·.size) = some (E7 s k).size) := info7
      have iR : Hid ((Tryd.prog.info? 44).map (·.size) = some (E7 q x).size) := info7
      clear HB HNX hq
      generalize Cv.nx s k = t at *
      generalize E7 s k = EK at *
      generalize E7 q x = ER at *
      have ic0 := fun W g => run_idx (P := Tryd.prog) (sz := 7) Tryd.underlying45 (by kernel_rfl) g 0 0 (by omega) .i64 W
      have ic1 := fun W g => run_idx (P := Tryd.prog) (sz := 7) Tryd.underlying45 (by kernel_rfl) g 0 1 (by omega) .i64 W
      have e0 : ((0 : Nat) : Int) = 0 := rfl
      have e1 : ((1 : Nat) : Int) = 1 := rfl
      simp only [Nat.zero_add, Nat.mul_zero, Nat.mul_one, e0, e1] at ic0 ic1
      clear e0 e1
      have bl_0 : Below wr.heap.size wr wr.drew := (Below.refl _ _).drew
      go_wp2_with fail
      refine wp_region_noPanic ?_
      refine wp_region_held_drew (S := fun W => Blk W g3 45 EA ∧ Blk W g5 45 EB ∧ W.cell? ⟨g5, 7 * k + 1, none⟩ = some (.int .i64 (s : Int))) (by kernel_rfl) ⟨a_0.drew, b_0.drew, c_0⟩ (fun hHeld => ?_)
      have a_0 := a_0.drew
      have b_0 := b_0.drew
      have c_0 : wr.drew.cell? ⟨g5, 7 * k + 1, none⟩ = some (.int .i64 (s : Int)) := c_0
      refine wpAnyH_take (i := 0) (oi := ⟨some 52, _, _, _, _, _⟩) (v := ?_) rfl (by kernel_rfl) (by kernel_rfl) (by kernel_rfl) (fun _ _ _ h => h) (Or.inl ⟨by rfl, ?_⟩) (by assumption) ?_
      rotate_left
      · intro W hSW; obtain ⟨hSW0, hSW1, hSW2⟩ := hSW; go_simp; first | done | with_reducible rfl
      (try simp only [Act.put, List.setIfInBounds_toArray, List.set_cons_zero, List.set_cons_succ])
      refine wpAnyH_take (i := 1) (oi := ⟨some 53, _, _, _, _, _⟩) (v := ?_) rfl (by kernel_rfl) (by kernel_rfl) (by kernel_rfl) (fun _ _ _ h => h) (Or.inl ⟨by rfl, ?_⟩) (by assumption) ?_
      rotate_left
      · intro W hSW; obtain ⟨hSW0, hSW1, hSW2⟩ := hSW; go_simp; first | done | with_reducible rfl
      (try simp only [Act.put, List.setIfInBounds_toArray, List.set_cons_zero, List.set_cons_succ])
      refine wpAnyH_take (i := 2) (oi := ⟨some 54, _, _, _, _, _⟩) (v := _) rfl (by kernel_rfl) (by kernel_rfl) (by kernel_rfl) (fun _ _ _ h => h) (yields_mid (by rfl) 44 _ (by rfl) g3 (7 * k) (by rfl) EK _ (fun W h => h.1.range _ _ HRA.out) Tryd.underlying44 rfl iK.out) (by assumption) ?_
      (try simp only [Act.put, List.setIfInBounds_toArray, List.set_cons_zero, List.set_cons_succ])
      refine wpAnyH_take (i := 3) (oi := ⟨some 55, _, _, _, _, _⟩) (v := ?_) rfl (by kernel_rfl) (by kernel_rfl) (by kernel_rfl) (fun _ _ _ h => h) (Or.inl ⟨by rfl, ?_⟩) (by assumption) ?_
      rotate_left
      · intro W hSW; obtain ⟨hSW0, hSW1, hSW2⟩ := hSW; go_simp; first | done | with_reducible rfl
      (try simp only [Act.put, List.setIfInBounds_toArray, List.set_cons_zero, List.set_cons_succ])
      refine wpAnyH_take (i := 4) (oi := ⟨some 56, _, _, _, _, _⟩) (v := ?_) rfl (by kernel_rfl) (by kernel_rfl) (by kernel_rfl) (fun _ _ _ h => h) (Or.inl ⟨by rfl, ?_⟩) (by assumption) ?_
      rotate_left
      · intro W hSW; obtain ⟨hSW0, hSW1, hSW2⟩ := hSW; go_simp; first | done | with_reducible rfl
      (try simp only [Act.put, List.setIfInBounds_toArray, List.set_cons_zero, List.set_cons_succ])
      refine wpAnyH_take (i := 5) (oi := ⟨some 57, _, _, _, _, _⟩) (v := ?_) rfl (by kernel_rfl) (by kernel_rfl) (by kernel_rfl) (fun _ _ _ h => h) (Or.inl ⟨by rfl, ?_⟩) (by assumption) ?_
      rotate_left
      · intro W hSW; obtain ⟨hSW0, hSW1, hSW2⟩ := hSW; go_simp; first | done | with_reducible rfl
      (try simp only [Act.put, List.setIfInBounds_toArray, List.set_cons_zero, List.set_cons_succ])
      refine wpAnyH_ready (rs := [6]) (by kernel_rfl) (by simp) ?_
      refine AllReadyH.cons (o := ⟨some 58, _, _, _, _, _⟩) rfl (fun K hK => ?_) (AllReadyH.nil)
      go_simp
      refine (CS1.out _).mono ?_
      rintro e W1 ⟨rfl, hb_1⟩
      have a_1 := a_0.after hb_1
      have b_1 := b_0.after hb_1
      have c_1 : W1.cell? ⟨g5, 7 * k + 1, none⟩ = some (.int .i64 (s : Int)) := (hb_1.cell (p := ⟨g5, 7 * k + 1, none⟩) b_0.lt).trans c_0
      have bl_1 := Below.then_ bl_0 hb_1
      clear hHeld
      refine hK.out _ _ ?_ (fun hHeld => ?_)
      · exact ⟨a_1, b_1, c_1⟩
      clear hK K
      (try simp only [Act.put, List.setIfInBounds_toArray, List.set_cons_zero, List.set_cons_succ])
      refine wpAnyH_ready (rs := [7]) (by kernel_rfl) (by simp) ?_
      refine AllReadyH.cons (o := ⟨some 59, _, _, _, _, _⟩) rfl (fun K hK => ?_) (AllReadyH.nil)
      go_simp
      refine (CQ1.out _).mono ?_
      rintro e W2 ⟨rfl, hb_2⟩
      have a_2 := a_1.after hb_2
      have b_2 := b_1.after hb_2
      have c_2 : W2.cell? ⟨g5, 7 * k + 1, none⟩ = some (.int .i64 (s : Int)) := (hb_2.cell (p := ⟨g5, 7 * k + 1, none⟩) b_1.lt).trans c_1
      have bl_2 := Below.then_ bl_1 hb_2
      clear hHeld
      refine hK.out _ _ ?_ (fun hHeld => ?_)
      · exact ⟨a_2, b_2, c_2⟩
      clear hK K
      (try simp only [Act.put, List.setIfInBounds_toArray, List.set_cons_zero, List.set_cons_succ])
      refine wpAnyH_take (i := 8) (oi := ⟨some 60, _, _, _, _, _⟩) (v := ?_) rfl (by kernel_rfl) (by kernel_rfl) (by kernel_rfl) (fun _ _ _ h => h) (Or.inl ⟨by rfl, ?_⟩) (by assumption) ?_
      rotate_left
      · intro W hSW; obtain ⟨hSW0, hSW1, hSW2⟩ := hSW; go_simp; first | done | with_reducible rfl
      (try simp only [Act.put, List.setIfInBounds_toArray, List.set_cons_zero, List.set_cons_succ])
      refine wpAnyH_take (i := 9) (oi := ⟨some 61, _, _, _, _, _⟩) (v := ?_) rfl (by kernel_rfl) (by kernel_rfl) (by kernel_rfl) (fun _ _ _ h => h) (Or.inl ⟨by rfl, ?_⟩) (by assumption) ?_
      rotate_left
      · intro W hSW; obtain ⟨hSW0, hSW1, hSW2⟩ := hSW; go_simp; first | done | with_reducible rfl
      (try simp only [Act.put, List.setIfInBounds_toArray, List.set_cons_zero, List.set_cons_succ])
      refine wpAnyH_take (i := 10) (oi := ⟨some 62, _, _, _, _, _⟩) (v := ?_) rfl (by kernel_rfl) (by kernel_rfl) (by kernel_rfl) (fun _ _ _ h => h) (Or.inl ⟨by rfl, ?_⟩) (by assumption) ?_
      rotate_left
      · intro W hSW; obtain ⟨hSW0, hSW1, hSW2⟩ := hSW; go_simp; first | done | with_reducible rfl
      (try simp only [Act.put, List.setIfInBounds_toArray, List.set_cons_zero, List.set_cons_succ])
      refine wpAnyH_take (i := 11) (oi := ⟨some 63, _, _, _, _, _⟩) (v := ?_) rfl (by kernel_rfl) (by kernel_rfl) (by kernel_rfl) (fun _ _ _ h => h) (Or.inl ⟨by rfl, ?_⟩) (by assumption) ?_
      rotate_left
      · intro W hSW; obtain ⟨hSW0, hSW1, hSW2⟩ := hSW; go_simp; first | done | with_reducible rfl
      (try simp only [Act.put, List.setIfInBounds_toArray, List.set_cons_zero, List.set_cons_succ])
      refine wpAnyH_take (i := 12) (oi := ⟨some 64, _, _, _, _, _⟩) (v := _) rfl (by kernel_rfl) (by kernel_rfl) (by kernel_rfl) (fun _ _ _ h => h) (yields_mid (by rfl) 44 _ (by rfl) g5 (7 * k) (by rfl) ER _ (fun W h => h.2.1.range _ _ HRB.out) Tryd.underlying44 rfl iR.out) (by assumption) ?_
      (try simp only [Act.put, List.setIfInBounds_toArray, List.set_cons_zero, List.set_cons_succ])
      refine wpAnyH_take (i := 13) (oi := ⟨some 65, _, _, _, _, _⟩) (v := ?_) rfl (by kernel_rfl) (by kernel_rfl) (by kernel_rfl) (fun _ _ _ h => h) (Or.inl ⟨by rfl, ?_⟩) (by assumption) ?_
      rotate_left
      · intro W hSW; obtain ⟨hSW0, hSW1, hSW2⟩ := hSW; go_simp; first | done | with_reducible rfl
      (try simp only [Act.put, List.setIfInBounds_toArray, List.set_cons_zero, List.set_cons_succ])
      refine wpAnyH_take (i := 14) (oi := ⟨some 66, _, _, _, _, _⟩) (v := ?_) rfl (by kernel_rfl) (by kernel_rfl) (by kernel_rfl) (fun _ _ _ h => h) (Or.inl ⟨by rfl, ?_⟩) (by assumption) ?_
      rotate_left
      · intro W hSW; obtain ⟨hSW0, hSW1, hSW2⟩ := hSW; go_simp; first | done | with_reducible rfl
      (try simp only [Act.put, List.setIfInBounds_toArray, List.set_cons_zero, List.set_cons_succ])
      refine wpAnyH_take (i := 15) (oi := ⟨some 67, _, _, _, _, _⟩) (v := ?_) rfl (by kernel_rfl) (by kernel_rfl) (by kernel_rfl) (fun _ _ _ h => h) (Or.inl ⟨by rfl, ?_⟩) (by assumption) ?_
      rotate_left
      · intro W hSW; obtain ⟨hSW0, hSW1, hSW2⟩ := hSW; go_simp; first | done | with_reducible rfl
      (try simp only [Act.put, List.setIfInBounds_toArray, List.set_cons_zero, List.set_cons_succ])
      refine wpAnyH_take (i := 16) (oi := ⟨some 68, _, _, _, _, _⟩) (v := ?_) rfl (by kernel_rfl) (by kernel_rfl) (by kernel_rfl) (fun _ _ _ h => h) (Or.inl ⟨by rfl, ?_⟩) (by assumption) ?_
      rotate_left
      · intro W hSW; obtain ⟨hSW0, hSW1, hSW2⟩ := hSW; go_simp; first | done | with_reducible rfl
      (try simp only [Act.put, List.setIfInBounds_toArray, List.set_cons_zero, List.set_cons_succ])
      refine wpAnyH_take (i := 17) (oi := ⟨some 69, _, _, _, _, _⟩) (v := ?_) rfl (by kernel_rfl) (by kernel_rfl) (by kernel_rfl) (fun _ _ _ h => h) (Or.inl ⟨by rfl, ?_⟩) (by assumption) ?_
      rotate_left
      · intro W hSW; obtain ⟨hSW0, hSW1, hSW2⟩ := hSW; go_simp; first | done | with_reducible rfl
      (try simp only [Act.put, List.setIfInBounds_toArray, List.set_cons_zero, List.set_cons_succ])
      refine wpAnyH_take (i := 18) (oi := ⟨some 70, _, _, _, _, _⟩) (v := ?_) rfl (by kernel_rfl) (by kernel_rfl) (by kernel_rfl) (fun _ _ _ h => h) (Or.inl ⟨by rfl, ?_⟩) (by assumption) ?_
      rotate_left
      · intro W hSW; obtain ⟨hSW0, hSW1, hSW2⟩ := hSW; go_simp; first | done | with_reducible rfl
      (try simp only [Act.put, List.setIfInBounds_toArray, List.set_cons_zero, List.set_cons_succ])
      refine wpAnyH_ready (rs := [19]) (by kernel_rfl) (by simp) ?_
      refine AllReadyH.cons (o := ⟨some 71, _, _, _, _, _⟩) rfl (fun K hK => ?_) (AllReadyH.nil)
      go_simp
      refine (CS2.out _).mono ?_
      rintro e W3 ⟨rfl, hb_3⟩
      have a_3 := a_2.after hb_3
      have b_3 := b_2.after hb_3
      have c_3 : W3.cell? ⟨g5, 7 * k + 1, none⟩ = some (.int .i64 (s : Int)) := (hb_3.cell (p := ⟨g5, 7 * k + 1, none⟩) b_2.lt).trans c_2
      have bl_3 := Below.then_ bl_2 hb_3
      clear hHeld
      refine hK.out _ _ ?_ (fun hHeld => ?_)
      · exact ⟨a_3, b_3, c_3⟩
      clear hK K
      (try simp only [Act.put, List.setIfInBounds_toArray, List.set_cons_zero, List.set_cons_succ])
      refine wpAnyH_ready (rs := [20]) (by kernel_rfl) (by simp) ?_
      refine AllReadyH.cons (o := ⟨some 72, _, _, _, _, _⟩) rfl (fun K hK => ?_) (AllReadyH.nil)
      go_simp
      refine (CQ2.out _).mono ?_
      rintro e W4 ⟨rfl, hb_4⟩
      have a_4 := a_3.after hb_4
      have b_4 := b_3.after hb_4
      have c_4 : W4.cell? ⟨g5, 7 * k + 1, none⟩ = some (.int .i64 (s : Int)) := (hb_4.cell (p := ⟨g5, 7 * k + 1, none⟩) b_3.lt).trans c_3
      have bl_4 := Below.then_ bl_3 hb_4
      clear hHeld
      refine hK.out _ _ ?_ (fun hHeld => ?_)
      · exact ⟨a_4, b_4, c_4⟩
      clear hK K
      (try simp only [Act.put, List.setIfInBounds_toArray, List.set_cons_zero, List.set_cons_succ])
      refine wpAnyH_take (i := 21) (oi := ⟨some 73, _, _, _, _, _⟩) (v := ?_) rfl (by kernel_rfl) (by kernel_rfl) (by kernel_rfl) (fun _ _ _ h => h) (Or.inl ⟨by rfl, ?_⟩) (by assumption) ?_
      rotate_left
      · intro W hSW; obtain ⟨hSW0, hSW1, hSW2⟩ := hSW; go_simp; first | done | with_reducible rfl
      (try simp only [Act.put, List.setIfInBounds_toArray, List.set_cons_zero, List.set_cons_succ])
      refine wpAnyH_take (i := 22) (oi := ⟨some 74, _, _, _, _, _⟩) (v := ?_) rfl (by kernel_rfl) (by kernel_rfl) (by kernel_rfl) (fun _ _ _ h => h) (Or.inl ⟨by rfl, ?_⟩) (by assumption) ?_
      rotate_left
      · intro W hSW; obtain ⟨hSW0, hSW1, hSW2⟩ := hSW; go_simp; first | done | with_reducible rfl
      (try simp only [Act.put, List.setIfInBounds_toArray, List.set_cons_zero, List.set_cons_succ])
      refine wpAnyH_take (i := 23) (oi := ⟨some 75, _, _, _, _, _⟩) (v := ?_) rfl (by kernel_rfl) (by kernel_rfl) (by kernel_rfl) (fun _ _ _ h => h) (Or.inl ⟨by rfl, ?_⟩) (by assumption) ?_
      rotate_left
      · intro W hSW; obtain ⟨hSW0, hSW1, hSW2⟩ := hSW; go_simp; first | done | with_reducible rfl
      (try simp only [Act.put, List.setIfInBounds_toArray, List.set_cons_zero, List.set_cons_succ])
      refine wpAnyH_take (i := 24) (oi := ⟨some 76, _, _, _, _, _⟩) (v := ?_) rfl (by kernel_rfl) (by kernel_rfl) (by kernel_rfl) (fun _ _ _ h => h) (Or.inl ⟨by rfl, ?_⟩) (by assumption) ?_
      rotate_left
      · intro W hSW; obtain ⟨hSW0, hSW1, hSW2⟩ := hSW; go_simp; first | done | with_reducible rfl
      (try simp only [Act.put, List.setIfInBounds_toArray, List.set_cons_zero, List.set_cons_succ])
      refine wpAnyH_take (i := 25) (oi := ⟨some 77, _, _, _, _, _⟩) (v := ?_) rfl (by kernel_rfl) (by kernel_rfl) (by kernel_rfl) (fun _ _ _ h => h) (Or.inl ⟨by rfl, ?_⟩) (by assumption) ?_
      rotate_left
      · intro W hSW; obtain ⟨hSW0, hSW1, hSW2⟩ := hSW; go_simp; first | done | with_reducible rfl
      (try simp only [Act.put, List.setIfInBounds_toArray, List.set_cons_zero, List.set_cons_succ])
      refine wpAnyH_take (i := 26) (oi := ⟨some 78, _, _, _, _, _⟩) (v := ?_) rfl (by kernel_rfl) (by kernel_rfl) (by kernel_rfl) (fun _ _ _ h => h) (Or.inl ⟨by rfl, ?_⟩) (by assumption) ?_
      rotate_left
      · intro W hSW; obtain ⟨hSW0, hSW1, hSW2⟩ := hSW; go_simp; first | done | with_reducible rfl
      (try simp only [Act.put, List.setIfInBounds_toArray, List.set_cons_zero, List.set_cons_succ])
      refine wpAnyH_take (i := 27) (oi := ⟨some 79, _, _, _, _, _⟩) (v := ?_) rfl (by kernel_rfl) (by kernel_rfl) (by kernel_rfl) (fun _ _ _ h => h) (Or.inl ⟨by rfl, ?_⟩) (by assumption) ?_
      rotate_left
      · intro W hSW; obtain ⟨hSW0, hSW1, hSW2⟩ := hSW; go_simp; first | done | with_reducible rfl
      (try simp only [Act.put, List.setIfInBounds_toArray, List.set_cons_zero, List.set_cons_succ])
      refine wpAnyH_take (i := 28) (oi := ⟨some 80, _, _, _, _, _⟩) (v := ?_) rfl (by kernel_rfl) (by kernel_rfl) (by kernel_rfl) (fun _ _ _ h => h) (Or.inl ⟨by rfl, ?_⟩) (by assumption) ?_
      rotate_left
      · intro W hSW; obtain ⟨hSW0, hSW1, hSW2⟩ := hSW; go_simp; first | done | with_reducible rfl
      (try simp only [Act.put, List.setIfInBounds_toArray, List.set_cons_zero, List.set_cons_succ])
      refine wpAnyH_take (i := 29) (oi := ⟨some 81, _, _, _, _, _⟩) (v := ?_) rfl (by kernel_rfl) (by kernel_rfl) (by kernel_rfl) (fun _ _ _ h => h) (Or.inl ⟨by rfl, ?_⟩) (by assumption) ?_
      rotate_left
      · intro W hSW; obtain ⟨hSW0, hSW1, hSW2⟩ := hSW; go_simp; first | done | with_reducible rfl
      (try simp only [Act.put, List.setIfInBounds_toArray, List.set_cons_zero, List.set_cons_succ])
      refine wpAnyH_take (i := 30) (oi := ⟨some 82, _, _, _, _, _⟩) (v := ?_) rfl (by kernel_rfl) (by kernel_rfl) (by kernel_rfl) (fun _ _ _ h => h) (Or.inl ⟨by rfl, ?_⟩) (by assumption) ?_
      rotate_left
      · intro W hSW; obtain ⟨hSW0, hSW1, hSW2⟩ := hSW; go_simp; first | done | with_reducible rfl
      (try simp only [Act.put, List.setIfInBounds_toArray, List.set_cons_zero, List.set_cons_succ])
      refine wpAnyH_done (by kernel_rfl) ?_ _
      refine NoPanic.normal ?_
      have t_4 : W4.cell? ⟨g3, 7 * k + 1, none⟩ = some (.int .i64 (t : Int)) := HTC.out W4 a_4
      have hT4 := hT.after (hbel.trans (bl_4.mono hsz))
      have D := Lib.hid (CI.out W4 hT4)
      clear hHeld
      generalize hEC : E14 (2 * t % 64) (t / 32) (2 * t % 64 + 1) (t / 32) = EC at *
      have HEC := Lib.hid hEC
      clear hEC
      go_wp2_with (first | (go_at_call 22; refine D.out.mono ?_; rintro e w5 ⟨rfl, hb5⟩) | (refine at_alloc rfl 45 rfl Z14 Z14_eq ?_; intro w6 h6) | (refine at_store rfl 45 _ _ rfl w5.heap.size EC rfl rfl 45 Z14 h6.row (by rw [← HEC.out]; exact info14) (by rw [← HEC.out]; exact Z14_size.trans (E14_size _ _ _ _).symm) (by rw [← HEC.out]; exact E14_one _ _ _ _) ?_; intro w7 h7; have br7 := Below.then_ hb5 (h6.bel.trans (h7.below (Nat.le_refl _)))))
      have q3 := a_4.after br7
      have q5 := b_4.after br7
      have q9 := h7.row
      have hbel7 : Below w.heap.size w w7 := (hbel.trans (bl_4.mono hsz)).trans (br7.mono (Nat.le_trans hsz bl_4.size))
      clear a_0 b_0 c_0 bl_0 a_1 b_1 c_1 bl_1 a_2 b_2 c_2 bl_2 a_3 b_3 c_3 bl_3 a_4 b_4 c_4 t_4 D h6 h7 hb5 br7 CI hT4
      generalize w5.heap.size = g9 at *
      rcases HPAR.out with ⟨HE, HO⟩ | ⟨p, HE, HO, HP⟩
      · have HC0 : Hid (∀ i u, EK.toList[i]? = some u → EC[0 + i]? = some u) := fun i u hu => by rw [HE]; exact HO i u hu
        clear HEC HE HO
        refine wp_region_noPanic ?_
        refine wp_region_held_drew (S := fun W => Blk W g3 45 EA ∧ Blk W g9 45 EC) (by kernel_rfl) ⟨q3.drew, q9.drew⟩ (fun hHeld => ?_)
        refine wpAnyH_take (i := 0) (oi := ⟨some 91, _, _, _, _, _⟩) (v := ?_) rfl (by kernel_rfl) (by kernel_rfl) (by kernel_rfl) (fun _ _ _ h => h) (Or.inl ⟨by rfl, ?_⟩) (by assumption) ?_
        rotate_left
        · intro W hSW; obtain ⟨hSW0, hSW1⟩ := hSW; go_simp; first | done | with_reducible rfl
        (try simp only [Act.put, List.setIfInBounds_toArray, List.set_cons_zero, List.set_cons_succ])
        refine wpAnyH_take (i := 1) (oi := ⟨some 92, _, _, _, _, _⟩) (v := ?_) rfl (by kernel_rfl) (by kernel_rfl) (by kernel_rfl) (fun _ _ _ h => h) (Or.inl ⟨by rfl, ?_⟩) (by assumption) ?_
        rotate_left
        · intro W hSW; obtain ⟨hSW0, hSW1⟩ := hSW; go_simp; first | done | with_reducible rfl
        (try simp only [Act.put, List.setIfInBounds_toArray, List.set_cons_zero, List.set_cons_succ])
        refine wpAnyH_take (i := 2) (oi := ⟨some 93, _, _, _, _, _⟩) (v := ?_) rfl (by kernel_rfl) (by kernel_rfl) (by kernel_rfl) (fun _ _ _ h => h) (Or.inl ⟨by rfl, ?_⟩) (by assumption) ?_
        rotate_left
        · intro W hSW; obtain ⟨hSW0, hSW1⟩ := hSW; go_simp; first | done | with_reducible rfl
        (try simp only [Act.put, List.setIfInBounds_toArray, List.set_cons_zero, List.set_cons_succ])
        refine wpAnyH_take (i := 3) (oi := ⟨some 94, _, _, _, _, _⟩) (v := ?_) rfl (by kernel_rfl) (by kernel_rfl) (by kernel_rfl) (fun _ _ _ h => h) (Or.inl ⟨by rfl, ?_⟩) (by assumption) ?_
        rotate_left
        · intro W hSW; obtain ⟨hSW0, hSW1⟩ := hSW; go_simp; first | done | with_reducible rfl
        (try simp only [Act.put, List.setIfInBounds_toArray, List.set_cons_zero, List.set_cons_succ])
        refine wpAnyH_take (i := 4) (oi := ⟨some 95, _, _, _, _, _⟩) (v := _) rfl (by kernel_rfl) (by kernel_rfl) (by kernel_rfl) (fun _ _ _ h => h) (yields_mid (by rfl) 44 _ (by rfl) g9 0 (by rfl) EK _ (fun W h => h.2.range _ _ HC0.out) Tryd.underlying44 rfl iK.out) (by assumption) ?_
        (try simp only [Act.put, List.setIfInBounds_toArray, List.set_cons_zero, List.set_cons_succ])
        refine wpAnyH_take (i := 5) (oi := ⟨some 96, _, _, _, _, _⟩) (v := ?_) rfl (by kernel_rfl) (by kernel_rfl) (by kernel_rfl) (fun _ _ _ h => h) (Or.inl ⟨by rfl, ?_⟩) (by assumption) ?_
        rotate_left
        · intro W hSW; obtain ⟨hSW0, hSW1⟩ := hSW; go_simp; first | done | with_reducible rfl
        (try simp only [Act.put, List.setIfInBounds_toArray, List.set_cons_zero, List.set_cons_succ])
        refine wpAnyH_take (i := 6) (oi := ⟨some 97, _, _, _, _, _⟩) (v := ?_) rfl (by kernel_rfl) (by kernel_rfl) (by kernel_rfl) (fun _ _ _ h => h) (Or.inl ⟨by rfl, ?_⟩) (by assumption) ?_
        rotate_left
        · intro W hSW; obtain ⟨hSW0, hSW1⟩ := hSW; go_simp; first | done | with_reducible rfl
        (try simp only [Act.put, List.setIfInBounds_toArray, List.set_cons_zero, List.set_cons_succ])
        refine wpAnyH_take (i := 7) (oi := ⟨some 98, _, _, _, _, _⟩) (v := _) rfl (by kernel_rfl) (by kernel_rfl) (by kernel_rfl) (fun _ _ _ h => h) (yields_mid (by rfl) 44 _ (by rfl) g3 (7 * k) (by rfl) EK _ (fun W h => h.1.range _ _ HRA.out) Tryd.underlying44 rfl iK.out) (by assumption) ?_
        (try simp only [Act.put, List.setIfInBounds_toArray, List.set_cons_zero, List.set_cons_succ])
        refine wpAnyH_take (i := 8) (oi := ⟨some 99, _, _, _, _, _⟩) (v := _) rfl (by kernel_rfl) (by kernel_rfl) (by kernel_rfl) (fun _ _ _ h => h) (yields_eq (by rfl) .neq 44 _ _ _ (by rfl) EK EK (by rfl) (by rfl) Tryd.eqGuardType44 _ HNK.out) (by assumption) ?_
        (try simp only [Act.put, List.setIfInBounds_toArray, List.set_cons_zero, List.set_cons_succ])
        refine wpAnyH_take (i := 9) (oi := ⟨some 100, _, _, _, _, _⟩) (v := ?_) rfl (by kernel_rfl) (by kernel_rfl) (by kernel_rfl) (fun _ _ _ h => h) (Or.inl ⟨by rfl, ?_⟩) (by assumption) ?_
        rotate_left
        · intro W hSW; obtain ⟨hSW0, hSW1⟩ := hSW; go_simp; first | done | with_reducible rfl
        (try simp only [Act.put, List.setIfInBounds_toArray, List.set_cons_zero, List.set_cons_succ])
        refine wpAnyH_take (i := 10) (oi := ⟨some 101, _, _, _, _, _⟩) (v := undef) rfl (by kernel_rfl) (by kernel_rfl) (by kernel_rfl) (fun _ _ _ h => h) (Or.inr ⟨by rfl, rfl⟩) (by assumption) ?_
        (try simp only [Act.put, List.setIfInBounds_toArray, List.set_cons_zero, List.set_cons_succ])
        refine wpAnyH_take (i := 11) (oi := ⟨some 102, _, _, _, _, _⟩) (v := undef) rfl (by kernel_rfl) (by kernel_rfl) (by kernel_rfl) (fun _ _ _ h => h) (Or.inr ⟨by rfl, rfl⟩) (by assumption) ?_
        (try simp only [Act.put, List.setIfInBounds_toArray, List.set_cons_zero, List.set_cons_succ])
        refine wpAnyH_take (i := 12) (oi := ⟨some 103, _, _, _, _, _⟩) (v := undef) rfl (by kernel_rfl) (by kernel_rfl) (by kernel_rfl) (fun _ _ _ h => h) (Or.inr ⟨by rfl, rfl⟩) (by assumption) ?_
        (try simp only [Act.put, List.setIfInBounds_toArray, List.set_cons_zero, List.set_cons_succ])
        refine wpAnyH_take (i := 13) (oi := ⟨some 104, _, _, _, _, _⟩) (v := undef) rfl (by kernel_rfl) (by kernel_rfl) (by kernel_rfl) (fun _ _ _ h => h) (Or.inr ⟨by rfl, rfl⟩) (by assumption) ?_
        (try simp only [Act.put, List.setIfInBounds_toArray, List.set_cons_zero, List.set_cons_succ])
        refine wpAnyH_take (i := 14) (oi := ⟨some 105, _, _, _, _, _⟩) (v := undef) rfl (by kernel_rfl) (by kernel_rfl) (by kernel_rfl) (fun _ _ _ h => h) (Or.inr ⟨by rfl, rfl⟩) (by assumption) ?_
        (try simp only [Act.put, List.setIfInBounds_toArray, List.set_cons_zero, List.set_cons_succ])
        refine wpAnyH_take (i := 15) (oi := ⟨some 106, _, _, _, _, _⟩) (v := undef) rfl (by kernel_rfl) (by kernel_rfl) (by kernel_rfl) (fun _ _ _ h => h) (Or.inr ⟨by rfl, rfl⟩) (by assumption) ?_
        (try simp only [Act.put, List.setIfInBounds_toArray, List.set_cons_zero, List.set_cons_succ])
        refine wpAnyH_take (i := 16) (oi := ⟨some 107, _, _, _, _, _⟩) (v := ?_) rfl (by kernel_rfl) (by kernel_rfl) (by kernel_rfl) (fun _ _ _ h => h) (Or.inl ⟨by rfl, ?_⟩) (by assumption) ?_
        rotate_left
        · intro W hSW; obtain ⟨hSW0, hSW1⟩ := hSW; go_simp; first | done | with_reducible rfl
        (try simp only [Act.put, List.setIfInBounds_toArray, List.set_cons_zero, List.set_cons_succ])
        refine wpAnyH_take (i := 17) (oi := ⟨some 108, _, _, _, _, _⟩) (v := ?_) rfl (by kernel_rfl) (by kernel_rfl) (by kernel_rfl) (fun _ _ _ h => h) (Or.inl ⟨by rfl, ?_⟩) (by assumption) ?_
        rotate_left
        · intro W hSW; obtain ⟨hSW0, hSW1⟩ := hSW; go_simp; first | done | with_reducible rfl
        (try simp only [Act.put, List.setIfInBounds_toArray, List.set_cons_zero, List.set_cons_succ])
        refine wpAnyH_done (by kernel_rfl) ?_ _
        refine NoPanic.normal ?_
        go_wp2
        go_roundw
        case rel => exact ⟨k + 1, by omega, by go_num, q3.drew, q5.drew, (hbel7.drew)⟩
        case measure => simp [intOf] <;> omega
      · obtain ⟨EO, hEO⟩ : ∃ EO, EO = E7 p k := ⟨_, rfl⟩
        have HC0 : Hid (∀ i u, EO.toList[i]? = some u → EC[0 + i]? = some u) := fun i u hu => by rw [HE]; exact HO.1 i u (by rw [← hEO]; exact hu)
        have HC1 : Hid (∀ i u, EK.toList[i]? = some u → EC[7 + i]? = some u) := fun i u hu => by rw [HE]; exact HO.2 i u hu
        have HNO : Hid (∀ W, (binOp .neq 44 (.agg EO) (.agg EK)).run Tryd.prog W = .ok (.bool true) W) := by rw [hEO]; exact HP
        have iO : Hid ((Tryd.prog.info? 44).map (·.size) = some EO.size) := by rw [hEO]; exact info7
        clear HEC HE HO HP hEO
        refine wp_region_noPanic ?_
        refine wp_region_held_drew (S := fun W => Blk W g3 45 EA ∧ Blk W g9 45 EC) (by kernel_rfl) ⟨q3.drew, q9.drew⟩ (fun hHeld => ?_)
        refine wpAnyH_take (i := 0) (oi := ⟨some 91, _, _, _, _, _⟩) (v := ?_) rfl (by kernel_rfl) (by kernel_rfl) (by kernel_rfl) (fun _ _ _ h => h) (Or.inl ⟨by rfl, ?_⟩) (by assumption) ?_
        rotate_left
        · intro W hSW; obtain ⟨hSW0, hSW1⟩ := hSW; go_simp; first | done | with_reducible rfl
        (try simp only [Act.put, List.setIfInBounds_toArray, List.set_cons_zero, List.set_cons_succ])
        refine wpAnyH_take (i := 1) (oi := ⟨some 92, _, _, _, _, _⟩) (v := ?_) rfl (by kernel_rfl) (by kernel_rfl) (by kernel_rfl) (fun _ _ _ h => h) (Or.inl ⟨by rfl, ?_⟩) (by assumption) ?_
        rotate_left
        · intro W hSW; obtain ⟨hSW0, hSW1⟩ := hSW; go_simp; first | done | with_reducible rfl
        (try simp only [Act.put, List.setIfInBounds_toArray, List.set_cons_zero, List.set_cons_succ])
        refine wpAnyH_take (i := 2) (oi := ⟨some 93, _, _, _, _, _⟩) (v := ?_) rfl (by kernel_rfl) (by kernel_rfl) (by kernel_rfl) (fun _ _ _ h => h) (Or.inl ⟨by rfl, ?_⟩) (by assumption) ?_
        rotate_left
        · intro W hSW; obtain ⟨hSW0, hSW1⟩ := hSW; go_simp; first | done | with_reducible rfl
        (try simp only [Act.put, List.setIfInBounds_toArray, List.set_cons_zero, List.set_cons_succ])
        refine wpAnyH_take (i := 3) (oi := ⟨some 94, _, _, _, _, _⟩) (v := ?_) rfl (by kernel_rfl) (by kernel_rfl) (by kernel_rfl) (fun _ _ _ h => h) (Or.inl ⟨by rfl, ?_⟩) (by assumption) ?_
        rotate_left
        · intro W hSW; obtain ⟨hSW0, hSW1⟩ := hSW; go_simp; first | done | with_reducible rfl
        (try simp only [Act.put, List.setIfInBounds_toArray, List.set_cons_zero, List.set_cons_succ])
        refine wpAnyH_take (i := 4) (oi := ⟨some 95, _, _, _, _, _⟩) (v := _) rfl (by kernel_rfl) (by kernel_rfl) (by kernel_rfl) (fun _ _ _ h => h) (yields_mid (by rfl) 44 _ (by rfl) g9 0 (by rfl) EO _ (fun W h => h.2.range _ _ HC0.out) Tryd.underlying44 rfl iO.out) (by assumption) ?_
        (try simp only [Act.put, List.setIfInBounds_toArray, List.set_cons_zero, List.set_cons_succ])
        refine wpAnyH_take (i := 5) (oi := ⟨some 96, _, _, _, _, _⟩) (v := ?_) rfl (by kernel_rfl) (by kernel_rfl) (by kernel_rfl) (fun _ _ _ h => h) (Or.inl ⟨by rfl, ?_⟩) (by assumption) ?_
        rotate_left
        · intro W hSW; obtain ⟨hSW0, hSW1⟩ := hSW; go_simp; first | done | with_reducible rfl
        (try simp only [Act.put, List.setIfInBounds_toArray, List.set_cons_zero, List.set_cons_succ])
        refine wpAnyH_take (i := 6) (oi := ⟨some 97, _, _, _, _, _⟩) (v := ?_) rfl (by kernel_rfl) (by kernel_rfl) (by kernel_rfl) (fun _ _ _ h => h) (Or.inl ⟨by rfl, ?_⟩) (by assumption) ?_
        rotate_left
        · intro W hSW; obtain ⟨hSW0, hSW1⟩ := hSW; go_simp; first | done | with_reducible rfl
        (try simp only [Act.put, List.setIfInBounds_toArray, List.set_cons_zero, List.set_cons_succ])
        refine wpAnyH_take (i := 7) (oi := ⟨some 98, _, _, _, _, _⟩) (v := _) rfl (by kernel_rfl) (by kernel_rfl) (by kernel_rfl) (fun _ _ _ h => h) (yields_mid (by rfl) 44 _ (by rfl) g3 (7 * k) (by rfl) EK _ (fun W h => h.1.range _ _ HRA.out) Tryd.underlying44 rfl iK.out) (by assumption) ?_
        (try simp only [Act.put, List.setIfInBounds_toArray, List.set_cons_zero, List.set_cons_succ])
        refine wpAnyH_take (i := 8) (oi := ⟨some 99, _, _, _, _, _⟩) (v := _) rfl (by kernel_rfl) (by kernel_rfl) (by kernel_rfl) (fun _ _ _ h => h) (yields_eq (by rfl) .neq 44 _ _ _ (by rfl) EO EK (by rfl) (by rfl) Tryd.eqGuardType44 _ HNO.out) (by assumption) ?_
        (try simp only [Act.put, List.setIfInBounds_toArray, List.set_cons_zero, List.set_cons_succ])
        refine wpAnyH_take (i := 9) (oi := ⟨some 100, _, _, _, _, _⟩) (v := ?_) rfl (by kernel_rfl) (by kernel_rfl) (by kernel_rfl) (fun _ _ _ h => h) (Or.inl ⟨by rfl, ?_⟩) (by assumption) ?_
        rotate_left
        · intro W hSW; obtain ⟨hSW0, hSW1⟩ := hSW; go_simp; first | done | with_reducible rfl
        (try simp only [Act.put, List.setIfInBounds_toArray, List.set_cons_zero, List.set_cons_succ])
        refine wpAnyH_take (i := 10) (oi := ⟨some 101, _, _, _, _, _⟩) (v := ?_) rfl (by kernel_rfl) (by kernel_rfl) (by kernel_rfl) (fun _ _ _ h => h) (Or.inl ⟨by rfl, ?_⟩) (by assumption) ?_
        rotate_left
        · intro W hSW; obtain ⟨hSW0, hSW1⟩ := hSW; go_simp; first | done | with_reducible rfl
        (try simp only [Act.put, List.setIfInBounds_toArray, List.set_cons_zero, List.set_cons_succ])
        refine wpAnyH_take (i := 11) (oi := ⟨some 102, _, _, _, _, _⟩) (v := _) rfl (by kernel_rfl) (by kernel_rfl) (by kernel_rfl) (fun _ _ _ h => h) (yields_mid (by rfl) 44 _ (by rfl) g9 7 (by rfl) EK _ (fun W h => h.2.range _ _ HC1.out) Tryd.underlying44 rfl iK.out) (by assumption) ?_
        (try simp only [Act.put, List.setIfInBounds_toArray, List.set_cons_zero, List.set_cons_succ])
        refine wpAnyH_take (i := 12) (oi := ⟨some 103, _, _, _, _, _⟩) (v := ?_) rfl (by kernel_rfl) (by kernel_rfl) (by kernel_rfl) (fun _ _ _ h => h) (Or.inl ⟨by rfl, ?_⟩) (by assumption) ?_
        rotate_left
        · intro W hSW; obtain ⟨hSW0, hSW1⟩ := hSW; go_simp; first | done | with_reducible rfl
        (try simp only [Act.put, List.setIfInBounds_toArray, List.set_cons_zero, List.set_cons_succ])
        refine wpAnyH_take (i := 13) (oi := ⟨some 104, _, _, _, _, _⟩) (v := ?_) rfl (by kernel_rfl) (by kernel_rfl) (by kernel_rfl) (fun _ _ _ h => h) (Or.inl ⟨by rfl, ?_⟩) (by assumption) ?_
        rotate_left
        · intro W hSW; obtain ⟨hSW0, hSW1⟩ := hSW; go_simp; first | done | with_reducible rfl
        (try simp only [Act.put, List.setIfInBounds_toArray, List.set_cons_zero, List.set_cons_succ])
        refine wpAnyH_take (i := 14) (oi := ⟨some 105, _, _, _, _, _⟩) (v := _) rfl (by kernel_rfl) (by kernel_rfl) (by kernel_rfl) (fun _ _ _ h => h) (yields_mid (by rfl) 44 _ (by rfl) g3 (7 * k) (by rfl) EK _ (fun W h => h.1.range _ _ HRA.out) Tryd.underlying44 rfl iK.out) (by assumption) ?_
        (try simp only [Act.put, List.setIfInBounds_toArray, List.set_cons_zero, List.set_cons_succ])
        refine wpAnyH_take (i := 15) (oi := ⟨some 106, _, _, _, _, _⟩) (v := _) rfl (by kernel_rfl) (by kernel_rfl) (by kernel_rfl) (fun _ _ _ h => h) (yields_eq (by rfl) .neq 44 _ _ _ (by rfl) EK EK (by rfl) (by rfl) Tryd.eqGuardType44 _ HNK.out) (by assumption) ?_
        (try simp only [Act.put, List.setIfInBounds_toArray, List.set_cons_zero, List.set_cons_succ])
        refine wpAnyH_take (i := 16) (oi := ⟨some 107, _, _, _, _, _⟩) (v := ?_) rfl (by kernel_rfl) (by kernel_rfl) (by kernel_rfl) (fun _ _ _ h => h) (Or.inl ⟨by rfl, ?_⟩) (by assumption) ?_
        rotate_left
        · intro W hSW; obtain ⟨hSW0, hSW1⟩ := hSW; go_simp; first | done | with_reducible rfl
        (try simp only [Act.put, List.setIfInBounds_toArray, List.set_cons_zero, List.set_cons_succ])
        refine wpAnyH_take (i := 17) (oi := ⟨some 108, _, _, _, _, _⟩) (v := ?_) rfl (by kernel_rfl) (by kernel_rfl) (by kernel_rfl) (fun _ _ _ h => h) (Or.inl ⟨by rfl, ?_⟩) (by assumption) ?_
        rotate_left
        · intro W hSW; obtain ⟨hSW0, hSW1⟩ := hSW; go_simp; first | done | with_reducible rfl
        (try simp only [Act.put, List.setIfInBounds_toArray, List.set_cons_zero, List.set_cons_succ])
        refine wpAnyH_done (by kernel_rfl) ?_ _
        refine NoPanic.normal ?_
        go_wp2
        go_roundw
        case rel => exact ⟨k + 1, by omega, by go_num, q3.drew, q5.drew, (hbel7.drew)⟩
        case measure => simp [intOf] <;> omega
    · go_wp2
      go_ret
      exact ⟨rfl, hbel⟩
/-- TrellisEdges. -/
theorem walkTrellisEdges (z : Int) (w : World) (hT : Taps w) :
    Calls Tryd.prog 8 #[.int .i64 z] w fun e w' => e = .returned (.bool true) ∧ Below w.heap.size w w' := by
  by_cases h : z < 0 ∨ 63 < z
  · exact walkTrellisEdgesNo z w hT h
  · obtain ⟨s, rfl⟩ : ∃ s : Nat, z = (s : Int) := ⟨z.toNat, by omega⟩
    exact walkTrellisEdgesYes s w hT (by omega)
end Go.Proofs.YtlnjealhiikmeaaDoor
