/-
  Layer 28: the reference's DocSend.
-/
import Derived.Test.YtoiibjblaafgpaaFig
import Derived.Test.YtoiibjblaafgpaaMo
namespace Go.Proofs.Ytoiibjblaafgpaa
open Go.RowKit
set_option maxRecDepth 100000
set_option linter.unusedVariables false
set_option linter.unusedSimpArgs false
set_option maxRecDepth 100000

set_option maxHeartbeats 4000000 in
/-- DocSend, where there is room. -/
theorem rSend (w : World) (P : Nat → Prop) (g most : Nat) (L : List (List Nat)) (d p a : Nat) (A : Option Addr) (n0 c : Nat) (bs : List Nat) (h : RQ w P g most L d p a) (hr : Rd w w.heap.size A n0 (U8 bs)) (hnone : A = none → n0 = 0 ∧ c = 0) (hn : n0 ≤ 64) (ha : a ≤ L.length) (hk : L.length - a < most) (hm0 : most ≤ 1000) (hml : L.length ≤ 100000) :
    Calls Try.prog 35 #[.pointer (some ⟨g, 0, none⟩), .slice A n0 c] w fun e w' => e = .returned (.int .i64 0) ∧ Kr w w' P ∧ ∃ P' : Nat → Prop, RQ w' P' g most (L ++ [bs]) d p a ∧ ∀ k, P' k → P k ∨ w.heap.size ≤ k := by
  obtain ⟨i0, hi0, hz0, hz1, hz2⟩ := info_parts info5
  obtain ⟨j0, hj0, hy0, hy1, hy2⟩ := info_parts infoSl8'
  have HBL := Lib.hid hr.len8
  obtain ⟨AL, cL, hs, q, o, hA, hm⟩ := h.blk
  have c0 : w.cell? ⟨g, 0, none⟩ = some (.int .i64 (most : Int)) := (q.cell 0).trans rfl
  have c4 : w.cell? ⟨g, 4, none⟩ = some (.int .i64 (a : Int)) := (q.cell 4).trans rfl
  have d1 : decide ((n0 : Int) > 64) = false := by simp; omega
  have d1' : decide ((64 : Int) < (n0 : Int)) = false := by simp; omega
  obtain ⟨n, hnl⟩ : ∃ n, n = L.length := ⟨_, rfl⟩
  have HNL := Lib.hid hnl
  rw [← hnl] at q o
  have c1 : w.cell? ⟨g, 1, none⟩ = some (.slice AL n cL) := (q.cell 1).trans rfl
  obtain ⟨df, hdf⟩ : ∃ y, y = n - a := ⟨_, rfl⟩
  have e1 : (n : Int) - (a : Int) = (df : Int) := by omega
  have hdfb : df ≤ 1000000 := by omega
  have w1 : IntKind.i64.wrap ((n : Int) - (a : Int)) = (df : Int) := by rw [e1]; exact IntWalk.i64_in _ (by omega)
  have d2 : decide ((df : Int) ≥ (most : Int)) = false := by simp; omega
  have d2' : decide ((most : Int) ≤ (df : Int)) = false := by simp; omega
  have d2'' : decide (most ≤ df) = false := by simp; omega
  have d2n : ¬ most ≤ df := by omega
  have hn2 : n ≤ 100000 := by omega
  have HMI := Lib.hid h.mine
  have HLT := Lib.hid h.lt
  have HA := Lib.hid hA
  have HQ0 := Lib.hid q
  have HO0 := Lib.hid o
  have HM := Lib.hid hm
  have HNE : Hid (blk AL ≠ some g) := o.ne_blk q (by decide)
  clear h hA hm hnl hml q o hk hdf ha
  go_enter Try.func35, Try.ntmps35
  go_upto_region 3 with fail
  go_quiet (fail)
  obtain ⟨v, hv⟩ : ∃ v, v = w.drewN nq := ⟨_, rfl⟩
  have HV := Lib.hid hv
  have bv : Hid (Below w.heap.size w v) := by rw [hv]; exact below_drawn _
  have hvs : Hid (v.heap = w.heap) := by rw [hv]; rfl
  rw [← hv]
  clear hv c0 c1 c4 e1 w1 d2 d2' d2'' d2n hdfb
  go_upto_region 5 with fail
  have HR : Hid (∀ (W : World), Below v.heap.size v W → Rd W W.heap.size A n0 (U8 bs)) := fun W hW => ((hr.below bv.out).up bv.out.size).below hW |>.up hW.size
  have HQ : Hid (Blk v g 63 (rf most AL n cL d p a)) := by unfold Hid Blk; rw [hvs.out]; exact HQ0.out
  have HO : Hid (OffR v 26 AL n cL hs) := HO0.out.heap (fun k hk => by rw [hvs.out])
  have HK1 : Hid (∀ W, Below v.heap.size v W → W.cell? ⟨g, 1, none⟩ = some (.slice AL n cL)) := fun W hW => ((HQ.out.after hW).cell 1).trans rfl
  have hsz : Hid (v.heap.size = w.heap.size) := by rw [hvs.out]; exact rfl
  have FIN : Hid (∀ (x1 x2 x3 x4 : World) (B1 A3 : Option Addr) (d1 c3 : Nat), Own x1 v.heap.size 5 B1 n0 d1 (U8 bs) → Below v.heap.size v x1 → Laid x1 x2 26 #[.slice B1 n0 d1] → OffR x3 26 A3 (n + 1) c3 (hs ++ [.slice B1 n0 d1]) → x2.grownBy x3 (blk AL) → (blk A3 = blk AL ∨ blk A3 = some x2.heap.size) →
      Upd x3 x4 g 63 (rf most A3 (n + 1) c3 d p a) → Kr w x4 P ∧ ∃ P' : Nat → Prop, RQ x4 P' g most (L ++ [bs]) d p a ∧ ∀ k, P' k → P k ∨ w.heap.size ≤ k) := by
    intro x1 x2 x3 x4 B1 A3 d1 c3 oB b1 L2 o3 g3 l3 u4
    have s1 := b1.size
    have s2 := L2.size
    have s3 := g3.size
    have s4 := u4.size
    rw [hsz.out] at s1 b1 oB
    have hoth : ∀ k, k < x1.heap.size → blk AL ≠ some k → k ≠ g → x4.heap[k]? = x1.heap[k]? := fun k hk h1 h2 => (u4.oth k h2).trans ((g3.block k (by omega) (fun e => h1 e.symm)).trans (L2.bel.block k hk))
    have hold : ∀ k, k < w.heap.size → blk AL ≠ some k → k ≠ g → x4.heap[k]? = w.heap[k]? := fun k hk h1 h2 => (hoth k (by omega) h1 h2).trans ((b1.block k hk).trans (by rw [hvs.out]))
    have hos : x4.os = w.os := by rw [u4.os, g3.os, L2.bel.os, b1.os, bv.out.os]
    have hta : x4.tape = w.tape := by rw [u4.tape, g3.tape, L2.bel.tape, b1.tape, bv.out.tape]
    have hou : x4.output = w.output := by rw [u4.output, g3.output, L2.bel.output, b1.output, bv.out.output]
    have hgw := HLT.out g HMI.out
    have hB1 : ∀ k, blk B1 = some k → w.heap.size ≤ k ∧ k < x1.heap.size := fun k hk => oB.blkLt k hk
    have hAL : ∀ k, blk AL = some k → k < w.heap.size := fun k hk => HLT.out k (HA.out k hk)
    refine ⟨⟨hos, hta, hou, by omega, fun k hk hp => hold k hk (fun e => hp (HA.out k e)) (fun e => hp (by rw [e]; exact HMI.out))⟩, fun k => (P k ∨ w.heap.size ≤ k) ∧ k < x4.heap.size, ⟨⟨A3, c3, hs ++ [.slice B1 n0 d1], ?_, ?_, fun k hk => ?_, fun i hi => ?_⟩, ⟨.inl HMI.out, by omega⟩, fun k hk => hk.2⟩, fun k hk => hk.1⟩
    · rw [List.length_append, List.length_singleton, ← HNL.out]; exact u4.row
    · rw [List.length_append, List.length_singleton, ← HNL.out]
      have hn3 : blk A3 ≠ some g := by
        rcases l3 with e | e
        · rw [e]; exact HNE.out
        · rw [e]; intro h; injection h with h; omega
      exact o3.heap (fun k hk => u4.oth k (fun e => hn3 (by rw [← e]; exact hk)))
    · have := o3.lt k hk
      refine ⟨?_, by omega⟩
      rcases l3 with e | e
      · rw [e] at hk; exact .inl (HA.out k hk)
      · rw [e] at hk; injection hk with hk; exact .inr (by omega)
    · have hhl := HO0.out.len
      have hnn : hs.length = L.length := hhl.trans HNL.out
      rw [List.length_append, List.length_singleton] at hi
      by_cases hin : i < L.length
      · rw [Bm.getD_lt _ _ _ (by rw [List.length_append]; omega), Bm.getD_lt _ _ _ (by rw [List.length_append]; omega), List.getElem_append_left (by rw [hhl, HNL.out]; exact hin), List.getElem_append_left hin, ← Bm.getD_lt hs undef i (by rw [hhl, HNL.out]; exact hin), ← Bm.getD_lt L [] i hin]
        obtain ⟨C, e', he, oc, hC⟩ := (HM.out i hin).at_
        refine ⟨⟨C, e', he, oc.heap (fun k hk => hold k (oc.blkLt k hk).2 (HO0.out.ne_own oc (by decide) k hk) (fun e => oc.ne_blk HQ0.out (by decide) (by rw [← e]; exact hk))), fun k hk => ⟨.inl (hC k hk), by have := (oc.blkLt k hk).2; omega⟩⟩⟩
      · have hie : i = L.length := by omega
        subst hie
        rw [Bm.getD_lt _ _ _ (by rw [List.length_append, List.length_singleton, hhl, HNL.out]; omega), Bm.getD_lt _ _ _ (by rw [List.length_append, List.length_singleton]; omega), List.getElem_append_right (by rw [hhl, HNL.out]; exact Nat.le_refl _), List.getElem_append_right (Nat.le_refl _)]
        have e1 : ([Value.slice B1 n0 d1])[L.length - hs.length]'(by rw [hhl, HNL.out]; simp) = .slice B1 n0 d1 := by simp
        have e2 : ([bs])[L.length - L.length]'(by simp) = bs := by simp
        rw [e1, e2]
        have ob2 : Own x1 0 5 B1 bs.length d1 (U8 bs) := by rw [← HBL.out]; exact oB.down (Nat.zero_le _)
        refine ⟨⟨B1, d1, by rw [HBL.out], ob2.heap (fun k hk => hoth k (hB1 k hk).2 (fun e => by have := hAL k e; have := (hB1 k hk).1; omega) (fun e => by have := (hB1 k hk).1; omega)), fun k hk => ⟨.inr (hB1 k hk).1, by have := (hB1 k hk).2; omega⟩⟩⟩
  clear HM HA HLT HMI HBL hr
  refine wp_region_noPanic ?_
  refine wp_region_held_drew (S := fun _ => True) (by kernel_rfl) trivial (fun hHeld => ?_)
  refine wpAnyH_take (i := 0) (oi := ⟨some 23, _, _, _, _, _⟩) (v := ?_) rfl (by kernel_rfl) (by kernel_rfl) (by kernel_rfl) (fun _ _ _ h => h) (Or.inl ⟨by rfl, ?_⟩) hHeld ?_
  rotate_left
  · intro W hSW; have hSW0 := hSW; go_simp; first | done | with_reducible rfl
  (try simp only [Act.put, List.setIfInBounds_toArray, List.set_cons_zero, List.set_cons_succ])
  refine wpAnyH_take (i := 1) (oi := ⟨some 24, _, _, _, _, _⟩) (v := ?_) rfl (by kernel_rfl) (by kernel_rfl) (by kernel_rfl) (fun _ _ _ h => h) (Or.inl ⟨by rfl, ?_⟩) hHeld ?_
  rotate_left
  · intro W hSW; have hSW0 := hSW; go_simp; first | done | with_reducible rfl
  (try simp only [Act.put, List.setIfInBounds_toArray, List.set_cons_zero, List.set_cons_succ])
  refine wpAnyH_take (i := 2) (oi := ⟨some 25, _, _, _, _, _⟩) (v := ?_) rfl (by kernel_rfl) (by kernel_rfl) (by kernel_rfl) (fun _ _ _ h => h) (Or.inl ⟨by rfl, ?_⟩) hHeld ?_
  rotate_left
  · intro W hSW; have hSW0 := hSW; go_simp; first | done | with_reducible rfl
  (try simp only [Act.put, List.setIfInBounds_toArray, List.set_cons_zero, List.set_cons_succ])
  refine wpAnyH_take (i := 3) (oi := ⟨some 26, _, _, _, _, _⟩) (v := ?_) rfl (by kernel_rfl) (by kernel_rfl) (by kernel_rfl) (fun _ _ _ h => h) (Or.inl ⟨by rfl, ?_⟩) hHeld ?_
  rotate_left
  · intro W hSW; have hSW0 := hSW; go_simp; first | done | with_reducible rfl
  (try simp only [Act.put, List.setIfInBounds_toArray, List.set_cons_zero, List.set_cons_succ])
  refine wpAnyH_take (i := 6) (oi := ⟨some 29, _, _, _, _, _⟩) (v := ?_) rfl (by kernel_rfl) (by kernel_rfl) (by kernel_rfl) (fun _ _ _ h => h) (Or.inl ⟨by rfl, ?_⟩) hHeld ?_
  rotate_left
  · intro W hSW; have hSW0 := hSW; go_simp; first | done | with_reducible rfl
  (try simp only [Act.put, List.setIfInBounds_toArray, List.set_cons_zero, List.set_cons_succ])
  refine wpAnyH_ready (rs := [4, 5]) (by kernel_rfl) (by simp) ?_
  refine AllReadyH.cons (o := ⟨some 27, _, _, _, _, _⟩) rfl (fun K hK => ?_) (AllReadyH.cons (o := ⟨some 28, _, _, _, _, _⟩) rfl (fun K hK => ?_) (AllReadyH.nil))
  · have kx := HK1.out v.drew ((Below.refl v.heap.size v).drew)
    go_simp
    clear hHeld kx
    refine hK.out _ _ ?_ (fun hHeld => ?_)
    · trivial
    clear hK K
    (try simp only [Act.put, List.setIfInBounds_toArray, List.set_cons_zero, List.set_cons_succ])
    refine wpAnyH_ready (rs := [5]) (by kernel_rfl) (by simp) ?_
    refine AllReadyH.cons (o := ⟨some 28, _, _, _, _, _⟩) rfl (fun K hK => ?_) (AllReadyH.nil)
    refine step_none (by rfl) 26 5 (by rfl) i0 Try.underlying26 hi0 ?_
    intro x0 o0 b0 s0
    have bS0 : Below v.heap.size v x0 := ((Below.refl v.heap.size v).drew).trans (b0.mono ((Below.refl v.heap.size v).drew).size)
    have oE : Own x0 v.heap.size 5 (some ⟨v.heap.size, 0, none⟩) 0 0 [] := o0
    clear hHeld s0 o0 b0
    refine hK.out _ _ ?_ (fun hHeld => ?_)
    · trivial
    clear hK K
    (try simp only [Act.put, List.setIfInBounds_toArray, List.set_cons_zero, List.set_cons_succ])
    refine wpAnyH_ready (rs := [7]) (by kernel_rfl) (by simp) ?_
    refine AllReadyH.cons (o := ⟨some 30, _, _, _, _, _⟩) rfl (fun K hK => ?_) (AllReadyH.nil)
    refine step_app (by rfl) _ _ 26 (by rfl) v.heap.size 5 i0 _ 1 Try.underlying26 hi0 hz0 hz1 hz2 rfl _ 0 0 [] (by rfl) oE _ A n0 c (U8 bs) (by rfl) (HR.out x0 bS0) hnone (U8_one _) (by omega) (by unfold maxLen; omega) bS0.size ?_
    intro B1 e1 x1 oB0 gB lB
    have oB := oB0.to (Nat.zero_add n0) (List.nil_append _)
    rw [Nat.zero_add] at *
    have bS1 : Below v.heap.size v x1 := bS0.grown gB bS0.size (fun j hj => by rw [blk_own] at hj; injection hj with hj; have hj2 : v.heap.size = j := hj; omega)
    clear hHeld oB0 gB lB
    refine hK.out _ _ ?_ (fun hHeld => ?_)
    · trivial
    clear hK K
    (try simp only [Act.put, List.setIfInBounds_toArray, List.set_cons_zero, List.set_cons_succ])
    refine wpAnyH_ready (rs := [8]) (by kernel_rfl) (by simp) ?_
    refine AllReadyH.cons (o := ⟨some 31, _, _, _, _, _⟩) rfl (fun K hK => ?_) (AllReadyH.nil)
    refine step_build1 (by rfl) 61 26 _ (by rfl) j0 _ Try.underlying61 hj0 hy0 hy1 (.slice B1 n0 e1) rfl (by first | rfl | (go_simp; rfl)) ?_
    intro x2 L2
    have bS2 : Below v.heap.size v x2 := bS1.trans (L2.bel.mono bS1.size)
    clear hHeld
    refine hK.out _ _ ?_ (fun hHeld => ?_)
    · trivial
    clear hK K
    (try simp only [Act.put, List.setIfInBounds_toArray, List.set_cons_zero, List.set_cons_succ])
    refine wpAnyH_ready (rs := [9]) (by kernel_rfl) (by simp) ?_
    refine AllReadyH.cons (o := ⟨some 32, _, _, _, _, _⟩) rfl (fun K hK => ?_) (AllReadyH.nil)
    refine step_appO (by rfl) _ _ 61 (by rfl) 26 j0 _ 24 Try.underlying61 hj0 hy0 hy1 hy2 rfl AL n cL hs (by rfl) (HO.out.heap (fun k hk => bS2.block k (HO.out.lt k hk))) ⟨x1.heap.size, 0, none⟩ 1 (.slice B1 n0 e1) (by rfl) ((L2.row.cell 0).trans rfl) rfl (by unfold maxLen; omega) (by omega) ?_
    intro A3 c3 x3 o3 g3 l3
    have q3 : Blk x3 g 63 (rf most AL n cL d p a) := (HQ.out.after bS2).grown g3 HNE.out
    clear hHeld
    refine hK.out _ _ ?_ (fun hHeld => ?_)
    · trivial
    clear hK K
    (try simp only [Act.put, List.setIfInBounds_toArray, List.set_cons_zero, List.set_cons_succ])
    refine wpAnyH_take (i := 10) (oi := ⟨some 33, _, _, _, _, _⟩) (v := ?_) rfl (by kernel_rfl) (by kernel_rfl) (by kernel_rfl) (fun _ _ _ h => h) (Or.inl ⟨by rfl, ?_⟩) hHeld ?_
    rotate_left
    · intro W hSW; have hSW0 := hSW; go_simp; first | done | with_reducible rfl
    (try simp only [Act.put, List.setIfInBounds_toArray, List.set_cons_zero, List.set_cons_succ])
    refine wpAnyH_take (i := 11) (oi := ⟨some 34, _, _, _, _, _⟩) (v := ?_) rfl (by kernel_rfl) (by kernel_rfl) (by kernel_rfl) (fun _ _ _ h => h) (Or.inl ⟨by rfl, ?_⟩) hHeld ?_
    rotate_left
    · intro W hSW; have hSW0 := hSW; go_simp; first | done | with_reducible rfl
    (try simp only [Act.put, List.setIfInBounds_toArray, List.set_cons_zero, List.set_cons_succ])
    refine wpAnyH_ready (rs := [12]) (by kernel_rfl) (by simp) ?_
    refine AllReadyH.cons (o := ⟨none, _, _, _, _, _⟩) rfl (fun K hK => ?_) (AllReadyH.nil)
    refine step_cell (by rfl) 61 _ _ (by rfl) g 1 (.slice A3 (n + 1) c3) (by rfl) (by rfl) 63 _ q3 (show 1 < 5 by omega) infoSls8one rfl ?_
    intro x4 u4
    clear hHeld
    refine hK.out _ _ ?_ (fun hHeld => ?_)
    · trivial
    clear hK K
    (try simp only [Act.put, List.setIfInBounds_toArray, List.set_cons_zero, List.set_cons_succ])
    refine wpAnyH_done (by kernel_rfl) ?_ _
    refine NoPanic.normal ?_
    clear hHeld
    rw [rf_set1] at u4
    go_wp2_with fail
    go_ret
    exact ⟨rfl, FIN.out x1 x2 x3 x4 B1 A3 e1 c3 oB bS1 L2 o3 g3 l3 u4⟩
  · refine step_none (by rfl) 26 5 (by rfl) i0 Try.underlying26 hi0 ?_
    intro x0 o0 b0 s0
    have bS0 : Below v.heap.size v x0 := ((Below.refl v.heap.size v).drew).trans (b0.mono ((Below.refl v.heap.size v).drew).size)
    have oE : Own x0 v.heap.size 5 (some ⟨v.heap.size, 0, none⟩) 0 0 [] := o0
    clear hHeld s0 o0 b0
    refine hK.out _ _ ?_ (fun hHeld => ?_)
    · trivial
    clear hK K
    (try simp only [Act.put, List.setIfInBounds_toArray, List.set_cons_zero, List.set_cons_succ])
    refine wpAnyH_ready (rs := [4, 7]) (by kernel_rfl) (by simp) ?_
    refine AllReadyH.cons (o := ⟨some 27, _, _, _, _, _⟩) rfl (fun K hK => ?_) (AllReadyH.cons (o := ⟨some 30, _, _, _, _, _⟩) rfl (fun K hK => ?_) (AllReadyH.nil))
    · have kx := HK1.out x0 (bS0)
      go_simp
      clear hHeld kx
      refine hK.out _ _ ?_ (fun hHeld => ?_)
      · trivial
      clear hK K
      (try simp only [Act.put, List.setIfInBounds_toArray, List.set_cons_zero, List.set_cons_succ])
      refine wpAnyH_ready (rs := [7]) (by kernel_rfl) (by simp) ?_
      refine AllReadyH.cons (o := ⟨some 30, _, _, _, _, _⟩) rfl (fun K hK => ?_) (AllReadyH.nil)
      refine step_app (by rfl) _ _ 26 (by rfl) v.heap.size 5 i0 _ 1 Try.underlying26 hi0 hz0 hz1 hz2 rfl _ 0 0 [] (by rfl) oE _ A n0 c (U8 bs) (by rfl) (HR.out x0 bS0) hnone (U8_one _) (by omega) (by unfold maxLen; omega) bS0.size ?_
      intro B1 e1 x1 oB0 gB lB
      have oB := oB0.to (Nat.zero_add n0) (List.nil_append _)
      rw [Nat.zero_add] at *
      have bS1 : Below v.heap.size v x1 := bS0.grown gB bS0.size (fun j hj => by rw [blk_own] at hj; injection hj with hj; have hj2 : v.heap.size = j := hj; omega)
      clear hHeld oB0 gB lB
      refine hK.out _ _ ?_ (fun hHeld => ?_)
      · trivial
      clear hK K
      (try simp only [Act.put, List.setIfInBounds_toArray, List.set_cons_zero, List.set_cons_succ])
      refine wpAnyH_ready (rs := [8]) (by kernel_rfl) (by simp) ?_
      refine AllReadyH.cons (o := ⟨some 31, _, _, _, _, _⟩) rfl (fun K hK => ?_) (AllReadyH.nil)
      refine step_build1 (by rfl) 61 26 _ (by rfl) j0 _ Try.underlying61 hj0 hy0 hy1 (.slice B1 n0 e1) rfl (by first | rfl | (go_simp; rfl)) ?_
      intro x2 L2
      have bS2 : Below v.heap.size v x2 := bS1.trans (L2.bel.mono bS1.size)
      clear hHeld
      refine hK.out _ _ ?_ (fun hHeld => ?_)
      · trivial
      clear hK K
      (try simp only [Act.put, List.setIfInBounds_toArray, List.set_cons_zero, List.set_cons_succ])
      refine wpAnyH_ready (rs := [9]) (by kernel_rfl) (by simp) ?_
      refine AllReadyH.cons (o := ⟨some 32, _, _, _, _, _⟩) rfl (fun K hK => ?_) (AllReadyH.nil)
      refine step_appO (by rfl) _ _ 61 (by rfl) 26 j0 _ 24 Try.underlying61 hj0 hy0 hy1 hy2 rfl AL n cL hs (by rfl) (HO.out.heap (fun k hk => bS2.block k (HO.out.lt k hk))) ⟨x1.heap.size, 0, none⟩ 1 (.slice B1 n0 e1) (by rfl) ((L2.row.cell 0).trans rfl) rfl (by unfold maxLen; omega) (by omega) ?_
      intro A3 c3 x3 o3 g3 l3
      have q3 : Blk x3 g 63 (rf most AL n cL d p a) := (HQ.out.after bS2).grown g3 HNE.out
      clear hHeld
      refine hK.out _ _ ?_ (fun hHeld => ?_)
      · trivial
      clear hK K
      (try simp only [Act.put, List.setIfInBounds_toArray, List.set_cons_zero, List.set_cons_succ])
      refine wpAnyH_take (i := 10) (oi := ⟨some 33, _, _, _, _, _⟩) (v := ?_) rfl (by kernel_rfl) (by kernel_rfl) (by kernel_rfl) (fun _ _ _ h => h) (Or.inl ⟨by rfl, ?_⟩) hHeld ?_
      rotate_left
      · intro W hSW; have hSW0 := hSW; go_simp; first | done | with_reducible rfl
      (try simp only [Act.put, List.setIfInBounds_toArray, List.set_cons_zero, List.set_cons_succ])
      refine wpAnyH_take (i := 11) (oi := ⟨some 34, _, _, _, _, _⟩) (v := ?_) rfl (by kernel_rfl) (by kernel_rfl) (by kernel_rfl) (fun _ _ _ h => h) (Or.inl ⟨by rfl, ?_⟩) hHeld ?_
      rotate_left
      · intro W hSW; have hSW0 := hSW; go_simp; first | done | with_reducible rfl
      (try simp only [Act.put, List.setIfInBounds_toArray, List.set_cons_zero, List.set_cons_succ])
      refine wpAnyH_ready (rs := [12]) (by kernel_rfl) (by simp) ?_
      refine AllReadyH.cons (o := ⟨none, _, _, _, _, _⟩) rfl (fun K hK => ?_) (AllReadyH.nil)
      refine step_cell (by rfl) 61 _ _ (by rfl) g 1 (.slice A3 (n + 1) c3) (by rfl) (by rfl) 63 _ q3 (show 1 < 5 by omega) infoSls8one rfl ?_
      intro x4 u4
      clear hHeld
      refine hK.out _ _ ?_ (fun hHeld => ?_)
      · trivial
      clear hK K
      (try simp only [Act.put, List.setIfInBounds_toArray, List.set_cons_zero, List.set_cons_succ])
      refine wpAnyH_done (by kernel_rfl) ?_ _
      refine NoPanic.normal ?_
      clear hHeld
      rw [rf_set1] at u4
      go_wp2_with fail
      go_ret
      exact ⟨rfl, FIN.out x1 x2 x3 x4 B1 A3 e1 c3 oB bS1 L2 o3 g3 l3 u4⟩
    · refine step_app (by rfl) _ _ 26 (by rfl) v.heap.size 5 i0 _ 1 Try.underlying26 hi0 hz0 hz1 hz2 rfl _ 0 0 [] (by rfl) oE _ A n0 c (U8 bs) (by rfl) (HR.out x0 bS0) hnone (U8_one _) (by omega) (by unfold maxLen; omega) bS0.size ?_
      intro B1 e1 x1 oB0 gB lB
      have oB := oB0.to (Nat.zero_add n0) (List.nil_append _)
      rw [Nat.zero_add] at *
      have bS1 : Below v.heap.size v x1 := bS0.grown gB bS0.size (fun j hj => by rw [blk_own] at hj; injection hj with hj; have hj2 : v.heap.size = j := hj; omega)
      clear hHeld oB0 gB lB
      refine hK.out _ _ ?_ (fun hHeld => ?_)
      · trivial
      clear hK K
      (try simp only [Act.put, List.setIfInBounds_toArray, List.set_cons_zero, List.set_cons_succ])
      refine wpAnyH_ready (rs := [4, 8]) (by kernel_rfl) (by simp) ?_
      refine AllReadyH.cons (o := ⟨some 27, _, _, _, _, _⟩) rfl (fun K hK => ?_) (AllReadyH.cons (o := ⟨some 31, _, _, _, _, _⟩) rfl (fun K hK => ?_) (AllReadyH.nil))
      · have kx := HK1.out x1 (bS1)
        go_simp
        clear hHeld kx
        refine hK.out _ _ ?_ (fun hHeld => ?_)
        · trivial
        clear hK K
        (try simp only [Act.put, List.setIfInBounds_toArray, List.set_cons_zero, List.set_cons_succ])
        refine wpAnyH_ready (rs := [8]) (by kernel_rfl) (by simp) ?_
        refine AllReadyH.cons (o := ⟨some 31, _, _, _, _, _⟩) rfl (fun K hK => ?_) (AllReadyH.nil)
        refine step_build1 (by rfl) 61 26 _ (by rfl) j0 _ Try.underlying61 hj0 hy0 hy1 (.slice B1 n0 e1) rfl (by first | rfl | (go_simp; rfl)) ?_
        intro x2 L2
        have bS2 : Below v.heap.size v x2 := bS1.trans (L2.bel.mono bS1.size)
        clear hHeld
        refine hK.out _ _ ?_ (fun hHeld => ?_)
        · trivial
        clear hK K
        (try simp only [Act.put, List.setIfInBounds_toArray, List.set_cons_zero, List.set_cons_succ])
        refine wpAnyH_ready (rs := [9]) (by kernel_rfl) (by simp) ?_
        refine AllReadyH.cons (o := ⟨some 32, _, _, _, _, _⟩) rfl (fun K hK => ?_) (AllReadyH.nil)
        refine step_appO (by rfl) _ _ 61 (by rfl) 26 j0 _ 24 Try.underlying61 hj0 hy0 hy1 hy2 rfl AL n cL hs (by rfl) (HO.out.heap (fun k hk => bS2.block k (HO.out.lt k hk))) ⟨x1.heap.size, 0, none⟩ 1 (.slice B1 n0 e1) (by rfl) ((L2.row.cell 0).trans rfl) rfl (by unfold maxLen; omega) (by omega) ?_
        intro A3 c3 x3 o3 g3 l3
        have q3 : Blk x3 g 63 (rf most AL n cL d p a) := (HQ.out.after bS2).grown g3 HNE.out
        clear hHeld
        refine hK.out _ _ ?_ (fun hHeld => ?_)
        · trivial
        clear hK K
        (try simp only [Act.put, List.setIfInBounds_toArray, List.set_cons_zero, List.set_cons_succ])
        refine wpAnyH_take (i := 10) (oi := ⟨some 33, _, _, _, _, _⟩) (v := ?_) rfl (by kernel_rfl) (by kernel_rfl) (by kernel_rfl) (fun _ _ _ h => h) (Or.inl ⟨by rfl, ?_⟩) hHeld ?_
        rotate_left
        · intro W hSW; have hSW0 := hSW; go_simp; first | done | with_reducible rfl
        (try simp only [Act.put, List.setIfInBounds_toArray, List.set_cons_zero, List.set_cons_succ])
        refine wpAnyH_take (i := 11) (oi := ⟨some 34, _, _, _, _, _⟩) (v := ?_) rfl (by kernel_rfl) (by kernel_rfl) (by kernel_rfl) (fun _ _ _ h => h) (Or.inl ⟨by rfl, ?_⟩) hHeld ?_
        rotate_left
        · intro W hSW; have hSW0 := hSW; go_simp; first | done | with_reducible rfl
        (try simp only [Act.put, List.setIfInBounds_toArray, List.set_cons_zero, List.set_cons_succ])
        refine wpAnyH_ready (rs := [12]) (by kernel_rfl) (by simp) ?_
        refine AllReadyH.cons (o := ⟨none, _, _, _, _, _⟩) rfl (fun K hK => ?_) (AllReadyH.nil)
        refine step_cell (by rfl) 61 _ _ (by rfl) g 1 (.slice A3 (n + 1) c3) (by rfl) (by rfl) 63 _ q3 (show 1 < 5 by omega) infoSls8one rfl ?_
        intro x4 u4
        clear hHeld
        refine hK.out _ _ ?_ (fun hHeld => ?_)
        · trivial
        clear hK K
        (try simp only [Act.put, List.setIfInBounds_toArray, List.set_cons_zero, List.set_cons_succ])
        refine wpAnyH_done (by kernel_rfl) ?_ _
        refine NoPanic.normal ?_
        clear hHeld
        rw [rf_set1] at u4
        go_wp2_with fail
        go_ret
        exact ⟨rfl, FIN.out x1 x2 x3 x4 B1 A3 e1 c3 oB bS1 L2 o3 g3 l3 u4⟩
      · refine step_build1 (by rfl) 61 26 _ (by rfl) j0 _ Try.underlying61 hj0 hy0 hy1 (.slice B1 n0 e1) rfl (by first | rfl | (go_simp; rfl)) ?_
        intro x2 L2
        have bS2 : Below v.heap.size v x2 := bS1.trans (L2.bel.mono bS1.size)
        clear hHeld
        refine hK.out _ _ ?_ (fun hHeld => ?_)
        · trivial
        clear hK K
        (try simp only [Act.put, List.setIfInBounds_toArray, List.set_cons_zero, List.set_cons_succ])
        refine wpAnyH_ready (rs := [4]) (by kernel_rfl) (by simp) ?_
        refine AllReadyH.cons (o := ⟨some 27, _, _, _, _, _⟩) rfl (fun K hK => ?_) (AllReadyH.nil)
        have kx := HK1.out x2 (bS2)
        go_simp
        clear hHeld kx
        refine hK.out _ _ ?_ (fun hHeld => ?_)
        · trivial
        clear hK K
        (try simp only [Act.put, List.setIfInBounds_toArray, List.set_cons_zero, List.set_cons_succ])
        refine wpAnyH_ready (rs := [9]) (by kernel_rfl) (by simp) ?_
        refine AllReadyH.cons (o := ⟨some 32, _, _, _, _, _⟩) rfl (fun K hK => ?_) (AllReadyH.nil)
        refine step_appO (by rfl) _ _ 61 (by rfl) 26 j0 _ 24 Try.underlying61 hj0 hy0 hy1 hy2 rfl AL n cL hs (by rfl) (HO.out.heap (fun k hk => bS2.block k (HO.out.lt k hk))) ⟨x1.heap.size, 0, none⟩ 1 (.slice B1 n0 e1) (by rfl) ((L2.row.cell 0).trans rfl) rfl (by unfold maxLen; omega) (by omega) ?_
        intro A3 c3 x3 o3 g3 l3
        have q3 : Blk x3 g 63 (rf most AL n cL d p a) := (HQ.out.after bS2).grown g3 HNE.out
        clear hHeld
        refine hK.out _ _ ?_ (fun hHeld => ?_)
        · trivial
        clear hK K
        (try simp only [Act.put, List.setIfInBounds_toArray, List.set_cons_zero, List.set_cons_succ])
        refine wpAnyH_take (i := 10) (oi := ⟨some 33, _, _, _, _, _⟩) (v := ?_) rfl (by kernel_rfl) (by kernel_rfl) (by kernel_rfl) (fun _ _ _ h => h) (Or.inl ⟨by rfl, ?_⟩) hHeld ?_
        rotate_left
        · intro W hSW; have hSW0 := hSW; go_simp; first | done | with_reducible rfl
        (try simp only [Act.put, List.setIfInBounds_toArray, List.set_cons_zero, List.set_cons_succ])
        refine wpAnyH_take (i := 11) (oi := ⟨some 34, _, _, _, _, _⟩) (v := ?_) rfl (by kernel_rfl) (by kernel_rfl) (by kernel_rfl) (fun _ _ _ h => h) (Or.inl ⟨by rfl, ?_⟩) hHeld ?_
        rotate_left
        · intro W hSW; have hSW0 := hSW; go_simp; first | done | with_reducible rfl
        (try simp only [Act.put, List.setIfInBounds_toArray, List.set_cons_zero, List.set_cons_succ])
        refine wpAnyH_ready (rs := [12]) (by kernel_rfl) (by simp) ?_
        refine AllReadyH.cons (o := ⟨none, _, _, _, _, _⟩) rfl (fun K hK => ?_) (AllReadyH.nil)
        refine step_cell (by rfl) 61 _ _ (by rfl) g 1 (.slice A3 (n + 1) c3) (by rfl) (by rfl) 63 _ q3 (show 1 < 5 by omega) infoSls8one rfl ?_
        intro x4 u4
        clear hHeld
        refine hK.out _ _ ?_ (fun hHeld => ?_)
        · trivial
        clear hK K
        (try simp only [Act.put, List.setIfInBounds_toArray, List.set_cons_zero, List.set_cons_succ])
        refine wpAnyH_done (by kernel_rfl) ?_ _
        refine NoPanic.normal ?_
        clear hHeld
        rw [rf_set1] at u4
        go_wp2_with fail
        go_ret
        exact ⟨rfl, FIN.out x1 x2 x3 x4 B1 A3 e1 c3 oB bS1 L2 o3 g3 l3 u4⟩
end Go.Proofs.Ytoiibjblaafgpaa
