/-
  The walk of DistanceGrows.
-/
import Derived.Test.YtibddlldgmidlaaDoorQh
import Derived.Deep.DeepCutAuto
namespace Go.Proofs.YtibddlldgmidlaaDoor
open Go.RowKit
set_option linter.unusedVariables false
set_option linter.unusedSimpArgs false

/-- A number's rest by four. -/
def rd4 (z : Int) : Nat := (z % 18446744073709551616).toNat % 4
theorem rd4_lt (z : Int) : rd4 z ≤ 3 := by unfold rd4; omega
theorem nw_set (A : List Nat) (j n : Nat) : (nw A).set j (n : Int) = nw (A.set j n) := by unfold nw; rw [List.map_set]
set_option maxHeartbeats 1000000 in
set_option maxRecDepth 100000 in
/-- DistanceGrows. -/
theorem walkDistanceGrows (zs : List Int) (z : Int) (w : World) (hl : zs.length = 4) (hT : Taps w) : Calls Tryd.prog 8 #[.agg (W4 zs), .int .i64 z] w fun e w' => e = .returned (.bool true) ∧ Below w.heap.size w w' := by
  obtain ⟨uu, hu, hu2⟩ := wrap_u64 z
  obtain ⟨k, hk, hk2⟩ : ∃ k : Nat, k < 4 ∧ (uu : Int) % 4 = (k : Int) := ⟨uu % 4, by omega, by omega⟩
  have HL := Lib.hid hl
  have HPOS := Lib.hid hT.pos
  clear hl
  go_enter Tryd.func8, Tryd.ntmps8
  generalize hZ : W4 zs = Z at *
  have HZ := Lib.hid hZ
  clear hZ
  go_wp2_with (refine at_box rfl 36 _ rfl Z rfl ?_; intro w1 h1)
  have q2 : Blk w1 w.heap.size 36 (W4 zs) := by rw [HZ.out]; exact h1.row
  have b2 := h1.bel
  generalize hg2 : w.heap.size = g2 at *
  have HG := Lib.hid hg2
  clear h1 hg2
  go_loopw [5] (fun i wr => ∃ v : Nat, v ≤ 4 ∧ i = .int .i64 v ∧ ∃ A : List Int, Blk wr g2 36 (W4 A) ∧ Below g2 w wr ∧ Hid (A.length = 4 ∧ (∀ j, j < v → A.getD j 0 = ((rd4 (zs.getD j 0) : Nat) : Int)) ∧ ∀ j, v ≤ j → A.getD j 0 = zs.getD j 0)) (fun i _ => 4 - (intOf i).toNat)
  case atStart => exact ⟨0, by omega, rfl, zs, q2, b2, HL.out, fun j hj => by omega, fun j _ => rfl⟩
  case round =>
    clear q2 b2
    obtain ⟨v, hv, rfl, A, q2, bel, HAB⟩ := hrel
    by_cases hlt : v < 4
    · obtain ⟨x, hx⟩ : ∃ x, A.getD v 0 = x := ⟨_, rfl⟩
      have hxz : x = zs.getD v 0 := by rw [← hx]; exact HAB.out.2.2 v (Nat.le_refl _)
      have kx := (q2.cell v).trans (W4_get A v (by rw [HAB.out.1]; exact hlt))
      rw [hx] at kx
      have f1 := wrap_u64_is x
      obtain ⟨r, hr⟩ : ∃ r : Nat, r = rd4 x := ⟨_, rfl⟩
      have f2 : (((x % 18446744073709551616).toNat : Nat) : Int) % 4 = (r : Int) := by rw [hr]; unfold rd4; omega
      have hr7 : r ≤ 3 := by rw [hr]; exact rd4_lt x
      have hub : (x % 18446744073709551616).toNat < 18446744073709551616 := by omega
      generalize (x % 18446744073709551616).toNat = ux at *
      have HAB2 : Hid ((A.set v (r : Int)).length = 4 ∧ (∀ j, j < v + 1 → (A.set v (r : Int)).getD j 0 = ((rd4 (zs.getD j 0) : Nat) : Int)) ∧ ∀ j, v + 1 ≤ j → (A.set v (r : Int)).getD j 0 = zs.getD j 0) := by
        obtain ⟨a1, a3, a4⟩ := HAB.out
        refine ⟨by rw [List.length_set]; exact a1, fun j hj => ?_, fun j hj => ?_⟩
        · rw [set_int A v _ j (by omega)]
          by_cases hjv : j = v
          · subst hjv
            rw [if_pos rfl, hr, hxz]
          · rw [if_neg (by omega)]
            exact a3 j (by omega)
        · rw [set_int A v _ j (by omega), if_neg (by omega)]
          exact a4 j (by omega)
      have sA : v < (W4 A).size := by rw [W4_size, HAB.out.1]; exact hlt
      have ia := fun W => run_idx (P := Tryd.prog) (sz := 1) Tryd.underlying36 (by kernel_rfl) g2 0 v hlt .i64 W
      simp only [Nat.zero_add, Nat.one_mul] at ia
      clear hx hxz hr HAB
      go_wp2_with (refine at_cell rfl 3 _ _ rfl g2 v (.int .i64 (r : Int)) rfl rfl 36 (W4 A) q2 sA info3one rfl ?_; intro w6 h6)
      go_roundw
      case rel => exact ⟨v + 1, by omega, by go_num, A.set v (r : Int), by rw [← W4_set]; exact h6.row, bel.trans (h6.below (Nat.le_refl _)), HAB2.out⟩
      case measure => simp [intOf] <;> omega
    · have HV4 : Hid (v = 4) := by unfold Hid; omega
      obtain ⟨a1, a3, _⟩ := HAB.out
      rw [HV4.out] at a3
      have hA : A = nw ((List.range 4).map fun j => rd4 (zs.getD j 0)) := nw_of A _ 4 a1 fun j hj => a3 j hj
      obtain ⟨ws, hws⟩ : ∃ ws, ws = (List.range 4).map fun j => rd4 (zs.getD j 0) := ⟨_, rfl⟩
      rw [← hws] at hA
      subst hA
      have hw4 : ws.length = 4 := by rw [hws]; simp
      have hw3 : ∀ j, ws.getD j 0 ≤ 3 := fun j => by
        rw [hws]
        by_cases hj : j < 4
        · rw [range_getD _ 4 j hj]; exact rd4_lt _
        · rw [Bm.getD_ge _ _ _ (by simp; omega)]; omega
      have hw7 : ∀ y ∈ ws, y ≤ 7 := fun y hy => by rw [hws] at hy; obtain ⟨j, _, rfl⟩ := List.mem_map.1 hy; have := rd4_lt (zs.getD j 0); omega
      have iZ : Hid ((Tryd.prog.info? 36).map (·.size) = some (W4 (nw ws)).size) := by unfold Hid; rw [W4_size, nw_length, hw4]; exact info4w
      have HZ1 := Lib.hid (W4_one (nw ws))
      have HSZ : Hid ((W4 [0, 0, 0, 0]).size = (W4 (nw ws)).size) := by unfold Hid; rw [W4_size, W4_size, nw_length, hw4]; rfl
      have dv : decide ((v : Int) < 4) = false := by simp <;> omega
      clear hws HAB HV4 a1 a3 HL HZ
      have HW := Lib.hid hw4
      have HW3 := Lib.hid hw3
      have HW7 := Lib.hid hw7
      clear hw4 hw3 hw7
      obtain ⟨Z, hZ⟩ : ∃ Z, Z = W4 (nw ws) := ⟨_, rfl⟩
      rw [← hZ] at iZ HZ1 HSZ q2
      have HZ := Lib.hid hZ
      clear hZ
      have q2_0 := q2
      go_upto_region 5 with fail
      go_cut [6, 7] from 27 to 28 (fun s6 s7 wc => ∃ ga gb : Nat, s6 = .pointer (some ⟨ga, 0, none⟩) ∧ s7 = .pointer (some ⟨gb, 0, none⟩) ∧ g2 < ga ∧ g2 < gb ∧ ga ≠ gb ∧ Blk wc g2 36 Z ∧ Blk wc ga 36 Z ∧ Blk wc gb 36 Z ∧ Below wr.heap.size wr wc)
      case first =>
        have qz0 : Blk wr.drew g2 36 Z := q2.drew
        have bb0 : Below wr.heap.size wr wr.drew := (Below.refl _ _).drew
        obtain ⟨W0, hW0⟩ : ∃ W0, wr.drew = W0 := ⟨_, rfl⟩
        refine wp_region_noPanic ?_
        refine wp_region_held_drew (S := fun W => Blk W g2 36 Z) (by kernel_rfl) qz0 (fun hHeld => ?_)
        rw [hW0] at bb0 hHeld qz0 ⊢
        clear hW0
        refine wpAnyH_take (i := 0) (oi := ⟨some 27, _, _, _, _, _⟩) (v := _) rfl (by kernel_rfl) (by kernel_rfl) (by kernel_rfl) (fun _ _ _ h => h) (yields_row (by rfl) 36 _ (by rfl) g2 (by rfl) 36 Z _ (fun W h => h) Tryd.underlying36 rfl iZ.out) hHeld ?_
        (try simp only [Act.put, List.setIfInBounds_toArray, List.set_cons_zero, List.set_cons_succ])
        refine wpAnyH_take (i := 1) (oi := ⟨some 28, _, _, _, _, _⟩) (v := _) rfl (by kernel_rfl) (by kernel_rfl) (by kernel_rfl) (fun _ _ _ h => h) (yields_row (by rfl) 36 _ (by rfl) g2 (by rfl) 36 Z _ (fun W h => h) Tryd.underlying36 rfl iZ.out) hHeld ?_
        (try simp only [Act.put, List.setIfInBounds_toArray, List.set_cons_zero, List.set_cons_succ])
        refine wpAnyH_ready (rs := [2, 3]) (by kernel_rfl) (by simp) ?_
        refine AllReadyH.cons (o := ⟨some 6, _, _, _, _, _⟩) rfl (fun K hK => ?_) (AllReadyH.cons (o := ⟨some 7, _, _, _, _, _⟩) rfl (fun K hK => ?_) (AllReadyH.nil))
        · refine step_alloc (by rfl) 36 (by rfl) (W4 [0, 0, 0, 0]) Z4w_eq ?_
          intro W1 h1
          obtain ⟨ga, hga⟩ : ∃ g, g = W0.heap.size := ⟨_, rfl⟩
          rw [← hga]
          have qga := h1.row
          rw [← hga] at qga
          have bb1 := Below.then_ bb0 h1.bel
          have lga : g2 < ga := by have := qz0.lt; omega
          have qz1 := qz0.after h1.bel
          have HWga : Hid (wr.heap.size ≤ ga) := by unfold Hid; have := bb0.size; omega
          clear hHeld hga h1
          refine hK.out _ _ ?_ (fun hHeld => ?_)
          · exact qz1
          clear hK K
          (try simp only [Act.put, List.setIfInBounds_toArray, List.set_cons_zero, List.set_cons_succ])
          refine wpAnyH_ready (rs := [3]) (by kernel_rfl) (by simp) ?_
          refine AllReadyH.cons (o := ⟨some 7, _, _, _, _, _⟩) rfl (fun K hK => ?_) (AllReadyH.nil)
          refine step_alloc (by rfl) 36 (by rfl) (W4 [0, 0, 0, 0]) Z4w_eq ?_
          intro W2 h2
          obtain ⟨gb, hgb⟩ : ∃ g, g = W1.heap.size := ⟨_, rfl⟩
          rw [← hgb]
          have qgb := h2.row
          rw [← hgb] at qgb
          have bb2 := Below.then_ bb1 h2.bel
          have lgb : g2 < gb := by have := qz1.lt; omega
          have qz2 := qz1.after h2.bel
          have ne : ga ≠ gb := by have := qga.lt; omega
          have lw2 := qga.lt
          replace qga := qga.after h2.bel
          have HWgb : Hid (wr.heap.size ≤ gb) := by unfold Hid; have := bb1.size; omega
          clear hHeld hgb h2
          refine hK.out _ _ ?_ (fun hHeld => ?_)
          · exact qz2
          clear hK K
          (try simp only [Act.put, List.setIfInBounds_toArray, List.set_cons_zero, List.set_cons_succ])
          refine wpAnyH_ready (rs := [4]) (by kernel_rfl) (by simp) ?_
          refine AllReadyH.cons (o := ⟨none, _, _, _, _, _⟩) rfl (fun K hK => ?_) (AllReadyH.nil)
          refine step_store (by rfl) 36 _ _ (by rfl) ga Z (by rfl) (by rfl) 36 (W4 [0, 0, 0, 0]) qga iZ.out HSZ.out HZ1.out ?_
          intro W3 h3
          replace qga := h3.row
          have bb3 := bb2.trans (h3.below HWga.out)
          have qz3 := h3.blk qz2 (by omega)
          replace qgb := h3.blk qgb (by omega)
          clear hHeld h3
          refine hK.out _ _ ?_ (fun hHeld => ?_)
          · exact qz3
          clear hK K
          (try simp only [Act.put, List.setIfInBounds_toArray, List.set_cons_zero, List.set_cons_succ])
          refine wpAnyH_ready (rs := [5]) (by kernel_rfl) (by simp) ?_
          refine AllReadyH.cons (o := ⟨none, _, _, _, _, _⟩) rfl (fun K hK => ?_) (AllReadyH.nil)
          refine step_store (by rfl) 36 _ _ (by rfl) gb Z (by rfl) (by rfl) 36 (W4 [0, 0, 0, 0]) qgb iZ.out HSZ.out HZ1.out ?_
          intro W4 h4
          replace qgb := h4.row
          have bb4 := bb3.trans (h4.below HWgb.out)
          have qz4 := h4.blk qz3 (by omega)
          replace qga := h4.blk qga (by omega)
          clear hHeld h4
          refine hK.out _ _ ?_ (fun hHeld => ?_)
          · exact qz4
          clear hK K
          (try simp only [Act.put, List.setIfInBounds_toArray, List.set_cons_zero, List.set_cons_succ])
          refine wpAnyH_done (by kernel_rfl) ?_ _
          refine NoPanic.normal ?_
          clear hHeld
          go_wp2_with fail
          go_meet
          case rel => exact ⟨ga, gb, rfl, rfl, lga, lgb, ne, qz4, qga, qgb, bb4⟩
        · refine step_alloc (by rfl) 36 (by rfl) (W4 [0, 0, 0, 0]) Z4w_eq ?_
          intro W1 h1
          obtain ⟨gb, hgb⟩ : ∃ g, g = W0.heap.size := ⟨_, rfl⟩
          rw [← hgb]
          have qgb := h1.row
          rw [← hgb] at qgb
          have bb1 := Below.then_ bb0 h1.bel
          have lgb : g2 < gb := by have := qz0.lt; omega
          have qz1 := qz0.after h1.bel
          have HWgb : Hid (wr.heap.size ≤ gb) := by unfold Hid; have := bb0.size; omega
          clear hHeld hgb h1
          refine hK.out _ _ ?_ (fun hHeld => ?_)
          · exact qz1
          clear hK K
          (try simp only [Act.put, List.setIfInBounds_toArray, List.set_cons_zero, List.set_cons_succ])
          refine wpAnyH_ready (rs := [2]) (by kernel_rfl) (by simp) ?_
          refine AllReadyH.cons (o := ⟨some 6, _, _, _, _, _⟩) rfl (fun K hK => ?_) (AllReadyH.nil)
          refine step_alloc (by rfl) 36 (by rfl) (W4 [0, 0, 0, 0]) Z4w_eq ?_
          intro W2 h2
          obtain ⟨ga, hga⟩ : ∃ g, g = W1.heap.size := ⟨_, rfl⟩
          rw [← hga]
          have qga := h2.row
          rw [← hga] at qga
          have bb2 := Below.then_ bb1 h2.bel
          have lga : g2 < ga := by have := qz1.lt; omega
          have qz2 := qz1.after h2.bel
          have ne : ga ≠ gb := by have := qgb.lt; omega
          have lw2 := qgb.lt
          replace qgb := qgb.after h2.bel
          have HWga : Hid (wr.heap.size ≤ ga) := by unfold Hid; have := bb1.size; omega
          clear hHeld hga h2
          refine hK.out _ _ ?_ (fun hHeld => ?_)
          · exact qz2
          clear hK K
          (try simp only [Act.put, List.setIfInBounds_toArray, List.set_cons_zero, List.set_cons_succ])
          refine wpAnyH_ready (rs := [4]) (by kernel_rfl) (by simp) ?_
          refine AllReadyH.cons (o := ⟨none, _, _, _, _, _⟩) rfl (fun K hK => ?_) (AllReadyH.nil)
          refine step_store (by rfl) 36 _ _ (by rfl) ga Z (by rfl) (by rfl) 36 (W4 [0, 0, 0, 0]) qga iZ.out HSZ.out HZ1.out ?_
          intro W3 h3
          replace qga := h3.row
          have bb3 := bb2.trans (h3.below HWga.out)
          have qz3 := h3.blk qz2 (by omega)
          replace qgb := h3.blk qgb (by omega)
          clear hHeld h3
          refine hK.out _ _ ?_ (fun hHeld => ?_)
          · exact qz3
          clear hK K
          (try simp only [Act.put, List.setIfInBounds_toArray, List.set_cons_zero, List.set_cons_succ])
          refine wpAnyH_ready (rs := [5]) (by kernel_rfl) (by simp) ?_
          refine AllReadyH.cons (o := ⟨none, _, _, _, _, _⟩) rfl (fun K hK => ?_) (AllReadyH.nil)
          refine step_store (by rfl) 36 _ _ (by rfl) gb Z (by rfl) (by rfl) 36 (W4 [0, 0, 0, 0]) qgb iZ.out HSZ.out HZ1.out ?_
          intro W4 h4
          replace qgb := h4.row
          have bb4 := bb3.trans (h4.below HWgb.out)
          have qz4 := h4.blk qz3 (by omega)
          replace qga := h4.blk qga (by omega)
          clear hHeld h4
          refine hK.out _ _ ?_ (fun hHeld => ?_)
          · exact qz4
          clear hK K
          (try simp only [Act.put, List.setIfInBounds_toArray, List.set_cons_zero, List.set_cons_succ])
          refine wpAnyH_done (by kernel_rfl) ?_ _
          refine NoPanic.normal ?_
          clear hHeld
          go_wp2_with fail
          go_meet
          case rel => exact ⟨ga, gb, rfl, rfl, lga, lgb, ne, qz4, qga, qgb, bb4⟩

      case rest =>
        obtain ⟨ga, gb, rfl, rfl, lga, lgb, ne, q2, qa, qb, bc⟩ := hcut
        have hgw : g2 ≤ wr.heap.size := Nat.le_of_lt q2_0.lt
        have bel1 := bel.trans (bc.mono hgw)
        rw [HZ.out] at q2 qa qb
        obtain ⟨y, hy⟩ : ∃ y, y = ws.getD k 0 := ⟨_, rfl⟩
        have hy3 : y ≤ 3 := by rw [hy]; exact HW3.out k
        have ky := (qa.cell k).trans (W4nw_get ws k (by rw [HW.out]; exact hk))
        rw [← hy] at ky
        have sA : k < (W4 (nw ws)).size := by rw [W4nw_size, HW.out]; exact hk
        have HYM : Hid (∀ v, v < 4 → wof ws v ≤ wof (ws.set k (y + 1)) v) := fun v hv => by
          unfold wof
          rw [Bm.set_getD ws k (y + 1) v (by rw [HW.out]; exact hk)]
          split
          · rename_i e
            have : ws.getD v 0 = y := by first | rw [hy, e] | rw [hy, ← e]
            omega
          · exact Nat.le_refl _
        have HM4 : Hid ((ws.set k (y + 1)).length = 4) := by unfold Hid; rw [List.length_set]; exact HW.out
        have HM7 : Hid (∀ x ∈ ws.set k (y + 1), x ≤ 7) := fun x hx => by
          rcases List.mem_or_eq_of_mem_set hx with h | h
          · exact HW7.out x h
          · rw [h]; omega
        have ia := fun W => run_idx (P := Tryd.prog) (sz := 1) Tryd.underlying36 (by kernel_rfl) ga 0 k hk .i64 W
        simp only [Nat.zero_add, Nat.one_mul] at ia
        obtain ⟨y1, hy1⟩ : ∃ y1, y1 = y + 1 := ⟨_, rfl⟩
        have ey : (y : Int) + 1 = (y1 : Int) := by omega
        rw [← hy1] at HYM HM4 HM7
        clear hy hy1
        go_upto_region 8 with (refine at_cell rfl 3 _ _ rfl ga k (.int .i64 (y1 : Int)) rfl rfl 36 (W4 (nw ws)) qa sA info3one rfl ?_; intro w6 h6)
        have qa6 := h6.row
        rw [W4nw_set] at qa6
        have q26 := h6.blk q2 (by omega)
        have qb6 := h6.blk qb (by omega)
        have bel6 := bel1.trans (h6.below (Nat.le_of_lt lga))
        clear h6 ky ia bel1 q2 qa qb hu hu2 hk2 bel bc q2_0 hgw ey hy3
        go_loopw [8] (fun i wx => ∃ j : Nat, j ≤ 4 ∧ i = .int .i64 j ∧ ∃ B : List Nat, Blk wx gb 36 (W4 (nw B)) ∧ Blk wx g2 36 (W4 (nw ws)) ∧ Blk wx ga 36 (W4 (nw (ws.set k y1))) ∧ Below g2 w wx ∧ Hid (B.length = 4 ∧ ∀ t, t < j → B.getD t 0 = 2 * ws.getD t 0)) (fun i _ => 4 - (intOf i).toNat)
        case atStart => exact ⟨0, by omega, rfl, ws, qb6, q26, qa6, bel6, HW.out, fun t ht => by omega⟩
        case round =>
          clear q26 qa6 qb6 bel6
          obtain ⟨j, hj, rfl, B, qb, q2, qa, bel, HB⟩ := hrel
          by_cases hlt : j < 4
          · have kx := (q2.cell j).trans (W4nw_get ws j (by rw [HW.out]; exact hlt))
            have hx3 := HW3.out j
            have HB2 : Hid ((B.set j (2 * ws.getD j 0)).length = 4 ∧ ∀ t, t < j + 1 → (B.set j (2 * ws.getD j 0)).getD t 0 = 2 * ws.getD t 0) := by
              obtain ⟨a1, a2⟩ := HB.out
              refine ⟨by rw [List.length_set]; exact a1, fun t ht => ?_⟩
              rw [Bm.set_getD B j _ t (by rw [a1]; exact hlt)]
              split
              · rename_i e
                first | rw [e] | rw [← e]
              · exact a2 t (by omega)
            have sB : j < (W4 (nw B)).size := by rw [W4nw_size, HB.out.1]; exact hlt
            have dj : decide ((j : Int) < 4) = true := by simp <;> omega
            generalize ws.getD j 0 = x at *
            obtain ⟨x2, hx2⟩ : ∃ x2, x2 = 2 * x := ⟨_, rfl⟩
            have ex : 2 * (x : Int) = (x2 : Int) := by omega
            rw [← hx2] at HB2
            clear hx2
            have ia := fun W => run_idx (P := Tryd.prog) (sz := 1) Tryd.underlying36 (by kernel_rfl) g2 0 j hlt .i64 W
            have ib := fun W => run_idx (P := Tryd.prog) (sz := 1) Tryd.underlying36 (by kernel_rfl) gb 0 j hlt .i64 W
            simp only [Nat.zero_add, Nat.one_mul] at ia ib
            go_wp2_with (refine at_cell rfl 3 _ _ rfl gb j (.int .i64 (x2 : Int)) rfl rfl 36 (W4 (nw B)) qb sB info3one rfl ?_; intro w7 h7)
            go_roundw
            case rel => exact ⟨j + 1, by omega, by go_num, B.set j x2, by rw [← W4nw_set]; exact h7.row, h7.blk q2 (by omega), h7.blk qa (by omega), bel.trans (h7.below (Nat.le_of_lt lgb)), HB2.out⟩
            case measure => simp [intOf] <;> omega
          · have dj : decide ((j : Int) < 4) = false := by simp <;> omega
            obtain ⟨a1, a2⟩ := HB.out
            have HBT : Hid (∀ t, t < 4 → wof B t = 2 * wof ws t) := fun t ht => a2 t (by omega)
            have HB7 : Hid (∀ x ∈ B, x ≤ 7) := fun x hx => by
              obtain ⟨t, ht, rfl⟩ := List.mem_iff_getElem.1 hx
              have e := a2 t (by omega)
              rw [Bm.getD_lt _ _ _ ht] at e
              have := HW3.out t
              omega
            have HB4 := Lib.hid a1
            clear a1 a2 HB
            have C1 := Lib.hid (fun W (hT : Taps W) => leastYes ws W HW.out HW7.out hT)
            have C2 := Lib.hid (fun W (hT : Taps W) => leastYes (ws.set k y1) W HM4.out HM7.out hT)
            have C3 := Lib.hid (fun W (hT : Taps W) => leastYes B W HB4.out HB7.out hT)
            have iA : Hid ((Tryd.prog.info? 36).map (·.size) = some (W4 (nw ws)).size) := by unfold Hid; rw [W4_size, nw_length, HW.out]; exact info4w
            have iM : Hid ((Tryd.prog.info? 36).map (·.size) = some (W4 (nw (ws.set k y1))).size) := by unfold Hid; rw [W4_size, nw_length, HM4.out]; exact info4w
            have iB : Hid ((Tryd.prog.info? 36).map (·.size) = some (W4 (nw B)).size) := by unfold Hid; rw [W4_size, nw_length, HB4.out]; exact info4w
            have HBD := Lib.hid (fun n hn => @Lst_bound7 ws HW7.out n hn)
            have HAP : Hid (∀ a b c, Cv.Lst (wof ws) a → Cv.Lst (wof (ws.set k y1)) b → Cv.Lst (wof B) c → a ≤ b ∧ c = 2 * a) := fun a b c h1 h2 h3 => ⟨Cv.Lst.mono HYM.out h1 h2, Cv.Lst.uniq h3 (h1.twice.congr fun t ht => (HBT.out t ht).symm)⟩
            have CA := Lib.hid apartC
            have hTr : Taps wr := hT.lowB bel HPOS.out
            generalize W4 (nw ws) = ZA at *
            generalize W4 (nw (ws.set k y1)) = ZM at *
            generalize W4 (nw B) = ZB at *
            go_upto_region 12 with (first | (refine at_load rfl 36 _ rfl g2 rfl 36 ZA _ q2 Tryd.underlying36 rfl iA.out ?_) | (go_at_call 19; refine (C1.out _ hTr).mono ?_; rintro e w3 ⟨a, rfl, ha, hb3⟩))
            have qa3 := qa.after hb3
            go_upto_region 13 with (first | (refine at_load rfl 36 _ rfl ga rfl 36 ZM _ qa3 Tryd.underlying36 rfl iM.out ?_) | (go_at_call 19; refine (C2.out w3 (hTr.after hb3)).mono ?_; rintro e w4 ⟨b, rfl, hb, hb4⟩))
            have qb4 := (qb.after hb3).after hb4
            go_upto_region 14 with (first | (refine at_load rfl 36 _ rfl gb rfl 36 ZB _ qb4 Tryd.underlying36 rfl iB.out ?_) | (go_at_call 19; refine (C3.out w4 ((hTr.after hb3).after hb4)).mono ?_; rintro e w5 ⟨c, rfl, hc, hb5⟩))
            obtain ⟨hab, hca⟩ := HAP.out a b c ha hb hc
            have hab2 := HBD.out a ha
            have hbb : b ≤ 100000 := by
              have := @Lst_bound7 (ws.set k y1) HM7.out b hb
              omega
            have ec : 2 * (a : Int) = (c : Int) := by omega
            have tc : ((c : Int) == (c : Int)) = true := by simp
            have tg : decide ((a : Int) ≤ (b : Int)) = true := by simp; omega
            clear ha hb hc hca
            go_wp2_with (go_at_call 21; refine (CA.out w5 (((hTr.after hb3).after hb4).after hb5)).mono ?_; rintro e w6 ⟨rfl, hb6⟩)
            go_ret
            refine ⟨rfl, ?_⟩
            rw [HG.out]
            have l1 := Nat.le_of_lt q2.lt
            exact (((bel.trans (hb3.mono l1)).trans (hb4.mono (Nat.le_trans l1 hb3.size))).trans (hb5.mono (Nat.le_trans (Nat.le_trans l1 hb3.size) hb4.size))).trans (hb6.mono (Nat.le_trans (Nat.le_trans (Nat.le_trans l1 hb3.size) hb4.size) hb5.size))
end Go.Proofs.YtibddlldgmidlaaDoor
