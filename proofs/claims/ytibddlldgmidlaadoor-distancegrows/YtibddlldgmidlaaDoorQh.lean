/-
  The walk of DistanceTurns.
-/
import Derived.Test.YtibddlldgmidlaaDoorQg
namespace Go.Proofs.YtibddlldgmidlaaDoor
open Go.RowKit
set_option linter.unusedVariables false
set_option linter.unusedSimpArgs false

theorem W4_set (A : List Int) (j : Nat) (z : Int) : (W4 A).setIfInBounds j (.int .i64 z) = W4 (A.set j z) := by
  unfold W4 I64
  simp [List.map_set]
theorem Z4w_eq : (Tryd.prog.info? 36).bind (fun i => i.zero.map (fun z => z.cells)) = some (W4 [0, 0, 0, 0]) := by kernel_rfl
theorem wrap_u64_is (a : Int) : IntKind.u64.wrap a = (((a % 18446744073709551616).toNat : Nat) : Int) := by
  have h : IntKind.u64.wrap a = a % 18446744073709551616 := IntKind.wrap_u64 a
  rw [h]; omega
/-- A number's rest by eight. -/
def rd8 (z : Int) : Nat := (z % 18446744073709551616).toNat % 8
theorem rd8_lt (z : Int) : rd8 z ≤ 7 := by unfold rd8; omega
theorem set_int (l : List Int) (i : Nat) (x : Int) (j : Nat) (h : i < l.length) : (l.set i x).getD j 0 = if i = j then x else l.getD j 0 := by
  by_cases hj : j < l.length
  · rw [Bm.getD_lt _ _ _ (by rw [List.length_set]; exact hj), Bm.getD_lt _ _ _ hj, List.getElem_set]
  · rw [Bm.getD_ge _ _ _ (by rw [List.length_set]; omega), Bm.getD_ge _ _ _ (by omega), if_neg (by omega)]
theorem nw_of (A : List Int) (f : Nat → Nat) (n : Nat) (hl : A.length = n) (h : ∀ j, j < n → A.getD j 0 = ((f j : Nat) : Int)) : A = nw ((List.range n).map f) := by
  refine Cv.ext_int (by rw [nw_length, hl]; simp) fun j hj => ?_
  rw [hl] at hj
  rw [h j hj, nw_get]
  simp [List.getD, hj]
theorem range_getD (f : Nat → Nat) (n j : Nat) (hj : j < n) : ((List.range n).map f).getD j 0 = f j := by simp [List.getD, hj]

set_option maxHeartbeats 600000 in
/-- DistanceTurns. -/
theorem walkDistanceTurns (zs : List Int) (z : Int) (w : World) (hl : zs.length = 4) (hT : Taps w) : Calls Tryd.prog 9 #[.agg (W4 zs), .int .i64 z] w fun e w' => e = .returned (.bool true) ∧ Below w.heap.size w w' := by
  obtain ⟨uu, hu, hu2⟩ := wrap_u64 z
  obtain ⟨k, hk, hk2⟩ : ∃ k : Nat, k < 4 ∧ (uu : Int) % 4 = (k : Int) := ⟨uu % 4, by omega, by omega⟩
  have HL := Lib.hid hl
  clear hl
  have HPOS := Lib.hid hT.pos
  go_enter Tryd.func9, Tryd.ntmps9
  generalize hZ : W4 zs = Z at *
  have HZ := Lib.hid hZ
  clear hZ
  go_wp2_with (first | (refine at_box rfl 36 _ rfl Z rfl ?_; intro w1 h1) | (refine at_alloc rfl 36 rfl (W4 [0, 0, 0, 0]) Z4w_eq ?_; intro w2 h2))
  clear hu hu2 hk2
  have q2 : Blk w2 w.heap.size 36 (W4 zs) := by rw [HZ.out]; exact h1.row.after h2.bel
  have q6 := h2.row
  have b2 := Below.then_ h1.bel h2.bel
  have hg : w.heap.size < w1.heap.size := by rw [h1.size]; omega
  generalize hg2 : w.heap.size = g2 at *
  have HG := Lib.hid hg2
  generalize w1.heap.size = g6 at *
  clear h1 h2 hg2
  go_loopw [7] (fun i wr => ∃ v : Nat, v ≤ 4 ∧ i = .int .i64 v ∧ ∃ A B : List Int, Blk wr g2 36 (W4 A) ∧ Blk wr g6 36 (W4 B) ∧ Below g2 w wr ∧ Hid (A.length = 4 ∧ B.length = 4 ∧ (∀ j, j < v → A.getD j 0 = ((rd8 (zs.getD j 0) : Nat) : Int) ∧ B.getD ((j + k) % 4) 0 = ((rd8 (zs.getD j 0) : Nat) : Int)) ∧ ∀ j, v ≤ j → A.getD j 0 = zs.getD j 0)) (fun i _ => 4 - (intOf i).toNat)
  case atStart => exact ⟨0, by omega, rfl, zs, [0, 0, 0, 0], q2, q6, b2, HL.out, rfl, fun j hj => by omega, fun j _ => rfl⟩
  case round =>
    clear q2 q6 b2
    obtain ⟨v, hv, rfl, A, B, q2, q6, bel, HAB⟩ := hrel
    by_cases hlt : v < 4
    · obtain ⟨c, hc⟩ : ∃ c : Nat, c = (v + k) % 4 := ⟨_, rfl⟩
      have hc4 : c < 4 := by omega
      have ec : ((v : Int) + (k : Int)) % 4 = (c : Int) := by omega
      obtain ⟨x, hx⟩ : ∃ x, A.getD v 0 = x := ⟨_, rfl⟩
      have hxz : x = zs.getD v 0 := by rw [← hx]; exact HAB.out.2.2.2 v (Nat.le_refl _)
      have kx := (q2.cell v).trans (W4_get A v (by rw [HAB.out.1]; exact hlt))
      rw [hx] at kx
      have f1 := wrap_u64_is x
      obtain ⟨r, hr⟩ : ∃ r : Nat, r = rd8 x := ⟨_, rfl⟩
      have f2 : (((x % 18446744073709551616).toNat : Nat) : Int) % 8 = (r : Int) := by rw [hr]; unfold rd8; omega
      have hr7 : r ≤ 7 := by rw [hr]; exact rd8_lt x
      have hub : (x % 18446744073709551616).toNat < 18446744073709551616 := by omega
      generalize (x % 18446744073709551616).toNat = ux at *
      have HAB2 : Hid ((A.set v (r : Int)).length = 4 ∧ (B.set c (r : Int)).length = 4 ∧ (∀ j, j < v + 1 → (A.set v (r : Int)).getD j 0 = ((rd8 (zs.getD j 0) : Nat) : Int) ∧ (B.set c (r : Int)).getD ((j + k) % 4) 0 = ((rd8 (zs.getD j 0) : Nat) : Int)) ∧ ∀ j, v + 1 ≤ j → (A.set v (r : Int)).getD j 0 = zs.getD j 0) := by
        obtain ⟨a1, a2, a3, a4⟩ := HAB.out
        refine ⟨by rw [List.length_set]; exact a1, by rw [List.length_set]; exact a2, fun j hj => ?_, fun j hj => ?_⟩
        · rw [set_int A v _ j (by omega), set_int B c _ _ (by omega)]
          by_cases hjv : j = v
          · subst hjv
            rw [if_pos rfl, if_pos hc, hr, hxz]
            exact ⟨rfl, rfl⟩
          · rw [if_neg (by omega), if_neg (by omega)]
            exact a3 j (by omega)
        · rw [set_int A v _ j (by omega), if_neg (by omega)]
          exact a4 j (by omega)
      have sA : v < (W4 A).size := by rw [W4_size, HAB.out.1]; exact hlt
      have sB : c < (W4 B).size := by rw [W4_size, HAB.out.2.1]; exact hc4
      have HK2 : Hid (∀ W, Blk W g2 36 ((W4 A).setIfInBounds v (.int .i64 (r : Int))) → W.cell? ⟨g2, v, none⟩ = some (.int .i64 (r : Int))) := fun W h => (h.cell v).trans (Array.getElem?_setIfInBounds_self_of_lt sA)
      have ia := fun W => run_idx (P := Tryd.prog) (sz := 1) Tryd.underlying36 (by kernel_rfl) g2 0 v hlt .i64 W
      have ib := fun W => run_idx (P := Tryd.prog) (sz := 1) Tryd.underlying36 (by kernel_rfl) g6 0 c hc4 .i64 W
      simp only [Nat.zero_add, Nat.one_mul] at ia ib
      clear hx hxz hr hc HAB
      go_wp2_with (first | (refine at_cell rfl 3 _ _ rfl g2 v (.int .i64 (r : Int)) rfl rfl 36 (W4 A) q2 sA info3one rfl ?_; intro w6 h6; have k2 := HK2.out w6 h6.row; have q66 := h6.blk q6 (by omega)) | (refine at_cell rfl 3 _ _ rfl g6 c (.int .i64 (r : Int)) rfl rfl 36 (W4 B) q66 sB info3one rfl ?_; intro w7 h7))
      go_roundw
      case rel => exact ⟨v + 1, by omega, by go_num, A.set v (r : Int), B.set c (r : Int), by rw [← W4_set]; exact h7.blk h6.row (by omega), by rw [← W4_set]; exact h7.row, (bel.trans (h6.below (Nat.le_refl _))).trans (h7.below (by omega)), HAB2.out⟩
      case measure => simp [intOf] <;> omega
    · have HV4 : Hid (v = 4) := by unfold Hid; omega
      obtain ⟨a1, a2, a3, _⟩ := HAB.out
      rw [HV4.out] at a3
      have hA : A = nw ((List.range 4).map fun j => rd8 (zs.getD j 0)) := nw_of A _ 4 a1 fun j hj => (a3 j hj).1
      have hB : B = nw ((List.range 4).map fun i => rd8 (zs.getD ((i + 3 * k) % 4) 0)) := nw_of B _ 4 a2 fun i hi => by
        have := (a3 ((i + 3 * k) % 4) (by omega)).2
        rw [show ((i + 3 * k) % 4 + k) % 4 = i by omega] at this
        exact this
      obtain ⟨ws, hws⟩ : ∃ ws, ws = (List.range 4).map fun j => rd8 (zs.getD j 0) := ⟨_, rfl⟩
      obtain ⟨us, hus⟩ : ∃ us, us = (List.range 4).map fun i => rd8 (zs.getD ((i + 3 * k) % 4) 0) := ⟨_, rfl⟩
      rw [← hws] at hA
      rw [← hus] at hB
      subst hA hB
      have hw4 : ws.length = 4 := by rw [hws]; simp
      have hu4 : us.length = 4 := by rw [hus]; simp
      have hw7 : ∀ y ∈ ws, y ≤ 7 := fun y hy => by rw [hws] at hy; obtain ⟨j, _, rfl⟩ := List.mem_map.1 hy; exact rd8_lt _
      have hu7 : ∀ y ∈ us, y ≤ 7 := fun y hy => by rw [hus] at hy; obtain ⟨j, _, rfl⟩ := List.mem_map.1 hy; exact rd8_lt _
      have HT : Hid (∀ n m, Cv.Lst (wof ws) n → Cv.Lst (wof us) m → n = m) := fun n m h1 h2 => by
        refine (h1.turn (u := wof us) k fun v hv => ?_).uniq h2
        unfold wof
        rw [hus, hws, range_getD _ 4 _ (by omega), range_getD _ 4 _ hv, show ((v + k) % 4 + 3 * k) % 4 = v by omega]
      have C1 := Lib.hid (fun W (hT : Taps W) => leastYes ws W hw4 hw7 hT)
      have C2 := Lib.hid (fun W (hT : Taps W) => leastYes us W hu4 hu7 hT)
      have iA : Hid ((Tryd.prog.info? 36).map (·.size) = some (W4 (nw ws)).size) := by unfold Hid; rw [W4_size, nw_length, hw4]; exact info4w
      have iB : Hid ((Tryd.prog.info? 36).map (·.size) = some (W4 (nw us)).size) := by unfold Hid; rw [W4_size, nw_length, hu4]; exact info4w
      have CA := Lib.hid apartC
      have hTr : Taps wr := hT.lowB bel HPOS.out
      clear hws hus hw4 hu4 hw7 hu7 HAB HV4 a1 a2 a3
      generalize W4 (nw ws) = ZA at *
      generalize W4 (nw us) = ZB at *
      go_upto_region 9 with (first | (refine at_load rfl 36 _ rfl g2 rfl 36 ZA _ q2 Tryd.underlying36 rfl iA.out ?_) | (go_at_call 19; refine (C1.out wr hTr).mono ?_; rintro e w3 ⟨n, rfl, hn, hb3⟩))
      have q63 := q6.after hb3
      go_upto_region 10 with (first | (refine at_load rfl 36 _ rfl g6 rfl 36 ZB _ q63 Tryd.underlying36 rfl iB.out ?_) | (go_at_call 19; refine (C2.out w3 (hTr.after hb3)).mono ?_; rintro e w4 ⟨m, rfl, hm, hb4⟩))
      obtain rfl := HT.out n m hn hm
      clear hn hm
      have tn : ((n : Int) == (n : Int)) = true := by simp
      go_wp2_with (go_at_call 21; refine (CA.out w4 ((hTr.after hb3).after hb4)).mono ?_; rintro e w5 ⟨rfl, hb5⟩)
      go_ret
      refine ⟨rfl, ?_⟩
      rw [HG.out]
      exact ((bel.trans (hb3.mono (Nat.le_of_lt q2.lt))).trans (hb4.mono (Nat.le_trans (Nat.le_of_lt q2.lt) hb3.size))).trans (hb5.mono (Nat.le_trans (Nat.le_trans (Nat.le_of_lt q2.lt) hb3.size) hb4.size))
end Go.Proofs.YtibddlldgmidlaaDoor
