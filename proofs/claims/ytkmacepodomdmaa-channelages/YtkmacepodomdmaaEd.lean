/-
  Layer 26 (datagrams under way): a Channel: Step, drop, Lose.
-/
import Derived.Test.YtkmacepodomdmaaEc
namespace Go.Proofs.Ytkmacepodomdmaa
open Go.RowKit
set_option maxRecDepth 100000
set_option linter.unusedVariables false
set_option linter.unusedSimpArgs false
set_option maxRecDepth 100000

set_option maxHeartbeats 800000 in
/-- What Step asks of each flight. -/
theorem chP (gb gC age now : Nat) (W : World) (x : Fy) (kb : W.cell? ⟨gb, 0, none⟩ = some (.pointer (some ⟨gC, 0, none⟩))) (k0 : W.cell? ⟨gC, 0, none⟩ = some (.int .i64 (age : Int))) (k1 : W.cell? ⟨gC, 1, none⟩ = some (.int .i64 (now : Int)))
    (hb : gb < W.heap.size) (hc : gC < W.heap.size) (ha : age ≤ 1000) (hn : now ≤ 1000000) (hs : x.since ≤ now) :
    Calls Try.prog 62 #[.agg (FE x), .pointer (some ⟨gb, 0, none⟩)] W fun e w' => e = .returned (.bool (decide (x.since + age ≤ now))) ∧ Below W.heap.size W w' := by
  obtain ⟨pb, hpb⟩ : ∃ pb, pb = decide (x.since + age ≤ now) := ⟨_, rfl⟩
  have HPB := Lib.hid hpb
  rw [← hpb]
  obtain ⟨d, hd⟩ : ∃ d : Nat, d = now - x.since := ⟨_, rfl⟩
  have ed : (now : Int) - (x.since : Int) = (d : Int) := by omega
  have ewr : IntKind.i64.wrap (d : Int) = (d : Int) := IntWalk.i64_in _ (by omega)
  have e1 : decide ((d : Int) ≥ (age : Int)) = pb := by rw [hpb]; apply decide_eq_decide.2; omega
  have e2 : decide ((age : Int) ≤ (d : Int)) = pb := by rw [hpb]; apply decide_eq_decide.2; omega
  have e3 : decide (age ≤ d) = pb := by rw [hpb]; apply decide_eq_decide.2; omega
  clear hpb hd
  go_enter Try.func62, Try.ntmps62
  go_upto_region 1 with (refine at_box rfl 115 _ rfl (FE x) rfl ?_; intro w1 L1)
  have b1 := L1.bel
  have kb1 : w1.cell? ⟨gb, 0, none⟩ = some (.pointer (some ⟨gC, 0, none⟩)) := (b1.cell (p := ⟨gb, 0, none⟩) hb).trans kb
  have k01 : w1.cell? ⟨gC, 0, none⟩ = some (.int .i64 (age : Int)) := (b1.cell (p := ⟨gC, 0, none⟩) hc).trans k0
  have k11 : w1.cell? ⟨gC, 1, none⟩ = some (.int .i64 (now : Int)) := (b1.cell (p := ⟨gC, 1, none⟩) hc).trans k1
  have kx : w1.cell? ⟨W.heap.size, 2, none⟩ = some (.int .i64 (x.since : Int)) := (L1.row.cell 2).trans rfl
  have HB := Lib.hid b1
  generalize x.since = si at *
  clear L1 b1 kb k0 k1
  go_big_quiet (fail)
  go_wp2_with fail
  go_ret
  exact ⟨rfl, HB.out.trans (below_drawn _)⟩
/-- Those that live on. -/
def lives (age now : Nat) (L : List Fy) : List Fy := L.filter fun x => !decide (x.since + age ≤ now)
set_option maxHeartbeats 1000000 in
/-- Step. -/
theorem chStep (w : World) (P : Nat → Prop) (gC age now : Nat) (L : List Fy) (h : CH w P gC age now L) (hL : L.length ≤ 1000000) (ha : age ≤ 1000) (hn : now < 1000000) (hs : ∀ x ∈ L, x.since ≤ now) :
    Calls Try.prog 37 #[.pointer (some ⟨gC, 0, none⟩)] w fun e w' =>
      e = .returned (.int .i64 ((L.length - (lives age (now + 1) L).length : Nat) : Int)) ∧ Kr w w' P ∧ CH w' P gC age (now + 1) (lives age (now + 1) L) := by
  obtain ⟨A, c, q, own, hA⟩ := h.blk
  obtain ⟨t, ht⟩ : ∃ t, t = now + 1 := ⟨_, rfl⟩
  have et : (now : Int) + 1 = (t : Int) := by omega
  have ewt : IntKind.i64.wrap (t : Int) = (t : Int) := IntWalk.i64_in _ (by omega)
  have htl : t ≤ 1000000 := by omega
  rw [← ht]
  obtain ⟨M, hM⟩ : ∃ M, M = lives age t L := ⟨_, rfl⟩
  have HM := Lib.hid hM
  rw [← hM]
  have hML : M.length ≤ L.length := by rw [hM]; exact List.length_filter_le _ _
  obtain ⟨n, hnL⟩ : ∃ n, n = L.length := ⟨_, rfl⟩
  have HMi := Lib.hid h.mine
  have HLT := Lib.hid h.lt
  have HA := Lib.hid hA
  rw [← hnL] at q own hL hML ⊢
  have hgl := q.lt
  have HS : Hid (∀ x ∈ L, x.since ≤ t) := fun x hx => by have := hs x hx; omega
  have HAN : Hid (blk A ≠ some gC) := fun e => (hA gC e).2 rfl
  clear h hA hM hnL hs ht
  go_enter Try.func37, Try.ntmps37
  go_upto_region 1 with fail
  obtain ⟨gb, hgb⟩ : ∃ g, g = w.heap.size := ⟨_, rfl⟩
  have bA : Below w.heap.size w (w.alloc (.cells #[.pointer (some ⟨gC, 0, none⟩)] 66)) := (Below.refl _ _).alloc (Nat.le_refl _) _
  obtain ⟨w1, hw1⟩ : ∃ w1, w1 = w.alloc (.cells #[.pointer (some ⟨gC, 0, none⟩)] 66) := ⟨_, rfl⟩
  have kb0 : w1.cell? ⟨gb, 0, none⟩ = some (.pointer (some ⟨gC, 0, none⟩)) := by
    rw [hw1, hgb]; exact ((laid_alloc w 66 #[.pointer (some ⟨gC, 0, none⟩)]).row.cell 0).trans rfl
  have hgbl : gb < w1.heap.size := by rw [hw1, hgb]; simp
  rw [← hgb, ← hw1]
  rw [← hw1] at bA
  have HNE : Hid (gb ≠ gC) := by unfold Hid; omega
  have HGB : Hid (w.heap.size ≤ gb) := by unfold Hid; omega
  have q1 := q.after bA
  have own1 := own.below bA (Nat.le_refl _)
  have k1 : w1.cell? ⟨gC, 1, none⟩ = some (.int .i64 (now : Int)) := (q1.cell 1).trans rfl
  clear q own hw1 hgb
  go_upto_region 4 with (refine at_cell rfl 3 _ _ rfl gC 1 (.int .i64 (t : Int)) rfl (by first | rfl | (go_simp; rfl)) 113 _ q1 (show 1 < 3 by omega) info3one rfl ?_; intro w2 u2)
  have q2 : Blk w2 gC 113 (chl age t A n c) := u2.row
  have kb2 : w2.cell? ⟨gb, 0, none⟩ = some (.pointer (some ⟨gC, 0, none⟩)) := (World.cell?_of_block (a := ⟨gb, 0, none⟩) (u2.oth gb HNE.out)).trans kb0
  have k22 : w2.cell? ⟨gC, 2, none⟩ = some (.slice A n c) := (q2.cell 2).trans rfl
  have own2 : OwnR w2 0 115 3 A n c (D3 L) := own1.heap (fun k hk => u2.oth k (HA.out k hk).2)
  have hs2 : w2.heap.size = w1.heap.size := u2.size
  have hgb2 : gb < w2.heap.size := by omega
  have hgA : blk A ≠ some gb := fun e => by have := HLT.out gb (HA.out gb e).1; have := HGB.out; omega
  have CD : Hid (Calls Try.prog 61 #[.slice A n c, .func (.func 62) #[] #[.pointer (some ⟨gb, 0, none⟩)]] w2.drew fun e w' =>
      e = .returned (.slice A M.length c) ∧ OwnR w' 0 115 3 A M.length c (D3 M) ∧ w2.drew.grownBy w' (blk A)) := by
    rw [HM.out]
    refine chDelF w2.drew 0 A n c L (.pointer (some ⟨gb, 0, none⟩)) (fun x => decide (x.since + age ≤ t)) (own2.below (below_drawn 1) (Nat.le_refl _)) hL (fun W x hW hx => ?_)
    have hgC : gC < w2.heap.size := q2.lt
    have hbC := hW.block gC hgC (fun e => HAN.out e.symm)
    have hbb := hW.block gb hgb2 (fun e => hgA e.symm)
    have hsz := hW.size
    exact chP gb gC age t W x ((World.cell?_of_block (a := ⟨gb, 0, none⟩) hbb).trans kb2) ((World.cell?_of_block (a := ⟨gC, 0, none⟩) hbC).trans ((q2.cell 0).trans rfl)) ((World.cell?_of_block (a := ⟨gC, 1, none⟩) hbC).trans ((q2.cell 1).trans rfl)) (Nat.lt_of_lt_of_le hgb2 hsz) (Nat.lt_of_lt_of_le hgC hsz) ha htl (HS.out x hx)
  have KB : Hid (∀ x1, w2.drew.grownBy x1 (blk A) → x1.cell? ⟨gb, 0, none⟩ = some (.pointer (some ⟨gC, 0, none⟩))) := fun x1 hg => (World.cell?_of_block (a := ⟨gb, 0, none⟩) (hg.block gb hgb2 (fun e => hgA e.symm))).trans kb2
  have KQ : Hid (∀ x1, w2.drew.grownBy x1 (blk A) → Blk x1 gC 113 (chl age t A n c)) := fun x1 hg => (hg.block gC q2.lt (fun e => HAN.out e.symm)).trans q2
  have FIN : Hid (∀ (x1 x4 : World), w2.drew.grownBy x1 (blk A) → OwnR x1 0 115 3 A M.length c (D3 M) → Upd x1 x4 gC 113 (chl age t A M.length c) → Kr w x4 P ∧ CH x4 P gC age t M) := by
    intro x1 x4 g1 o1 u4
    have hs1 := g1.size
    have hs4 := u4.size
    have hbs := bA.size
    refine ⟨⟨?_, ?_, ?_, ?_, fun k hk hp => ?_⟩, ⟨⟨A, c, u4.row, o1.heap (fun k hk => u4.oth k (HA.out k hk).2), HA.out⟩, HMi.out, fun k hk => ?_⟩⟩
    · rw [u4.os, g1.os]; exact u2.os.trans bA.os
    · rw [u4.tape, g1.tape]; exact u2.tape.trans bA.tape
    · rw [u4.output, g1.output]; exact u2.output.trans bA.output
    · have : w2.drew.heap.size = w2.heap.size := rfl
      omega
    · have hkg : k ≠ gC := fun e => hp (by rw [e]; exact HMi.out)
      have hka : blk A ≠ some k := fun e => hp (HA.out k e).1
      exact (u4.oth k hkg).trans ((g1.block k (by show k < w2.heap.size; omega) (fun e => hka e.symm)).trans ((u2.oth k hkg).trans (bA.block k hk)))
    · have := HLT.out k hk
      have : w2.drew.heap.size = w2.heap.size := rfl
      omega
  clear q1 own1 k1 u2 own2 kb0 q2 hgA
  go_upto_region 5 with fail
  refine wp_region_noPanic ?_
  refine wp_region_held_drew (S := fun W => W.cell? ⟨gb, 0, none⟩ = some (.pointer (some ⟨gC, 0, none⟩))) (by kernel_rfl) kb2 (fun hHeld => ?_)
  refine wpAnyH_take (i := 0) (oi := ⟨some 18, _, _, _, _, _⟩) (v := ?_) rfl (by kernel_rfl) (by kernel_rfl) (by kernel_rfl) (fun _ _ _ h => h) (Or.inl ⟨by rfl, ?_⟩) hHeld ?_
  rotate_left
  · intro W hSW; have hSW0 := hSW; go_simp; first | done | with_reducible rfl
  (try simp only [Act.put, List.setIfInBounds_toArray, List.set_cons_zero, List.set_cons_succ])
  refine wpAnyH_take (i := 1) (oi := ⟨some 19, _, _, _, _, _⟩) (v := ?_) rfl (by kernel_rfl) (by kernel_rfl) (by kernel_rfl) (fun _ _ _ h => h) (Or.inl ⟨by rfl, ?_⟩) hHeld ?_
  rotate_left
  · intro W hSW; have hSW0 := hSW; go_simp; first | done | with_reducible rfl
  (try simp only [Act.put, List.setIfInBounds_toArray, List.set_cons_zero, List.set_cons_succ])
  refine wpAnyH_take (i := 2) (oi := ⟨some 20, _, _, _, _, _⟩) (v := ?_) rfl (by kernel_rfl) (by kernel_rfl) (by kernel_rfl) (fun _ _ _ h => h) (Or.inl ⟨by rfl, ?_⟩) hHeld ?_
  rotate_left
  · intro W hSW; have hSW0 := hSW; go_simp; first | done | with_reducible rfl
  (try simp only [Act.put, List.setIfInBounds_toArray, List.set_cons_zero, List.set_cons_succ])
  refine wpAnyH_take (i := 3) (oi := ⟨some 21, _, _, _, _, _⟩) (v := ?_) rfl (by kernel_rfl) (by kernel_rfl) (by kernel_rfl) (fun _ _ _ h => h) (Or.inl ⟨by rfl, ?_⟩) hHeld ?_
  rotate_left
  · intro W hSW; have hSW0 := hSW; go_simp; first | done | with_reducible rfl
  (try simp only [Act.put, List.setIfInBounds_toArray, List.set_cons_zero, List.set_cons_succ])
  refine wpAnyH_take (i := 5) (oi := ⟨some 23, _, _, _, _, _⟩) (v := ?_) rfl (by kernel_rfl) (by kernel_rfl) (by kernel_rfl) (fun _ _ _ h => h) (Or.inl ⟨by rfl, ?_⟩) hHeld ?_
  rotate_left
  · intro W hSW; have hSW0 := hSW; go_simp; first | done | with_reducible rfl
  (try simp only [Act.put, List.setIfInBounds_toArray, List.set_cons_zero, List.set_cons_succ])
  refine wpAnyH_ready (rs := [4]) (by kernel_rfl) (by simp) ?_
  refine AllReadyH.cons (o := ⟨some 22, _, _, _, _, _⟩) rfl (fun K hK => ?_) (AllReadyH.nil)
  have kx := k22
  go_simp
  clear hHeld kx
  refine hK.out _ _ ?_ (fun hHeld => ?_)
  · exact kb2
  clear hK K
  (try simp only [Act.put, List.setIfInBounds_toArray, List.set_cons_zero, List.set_cons_succ])
  refine wpAnyH_ready (rs := [6]) (by kernel_rfl) (by simp) ?_
  refine AllReadyH.cons (o := ⟨some 24, _, _, _, _, _⟩) rfl (fun K hK => ?_) (AllReadyH.nil)
  go_simp
  go_at_call 61
  refine CD.out.mono ?_
  rintro e x1 ⟨rfl, o1, g1⟩
  have kb1 := KB.out x1 g1
  have q1 := KQ.out x1 g1
  clear hHeld
  refine hK.out _ _ ?_ (fun hHeld => ?_)
  · exact kb1
  clear hK K
  (try simp only [Act.put, List.setIfInBounds_toArray, List.set_cons_zero, List.set_cons_succ])
  refine wpAnyH_take (i := 7) (oi := ⟨some 25, _, _, _, _, _⟩) (v := ?_) rfl (by kernel_rfl) (by kernel_rfl) (by kernel_rfl) (fun _ _ _ h => h) (Or.inl ⟨by rfl, ?_⟩) hHeld ?_
  rotate_left
  · intro W hSW; have hSW0 := hSW; go_simp; first | done | with_reducible rfl
  (try simp only [Act.put, List.setIfInBounds_toArray, List.set_cons_zero, List.set_cons_succ])
  refine wpAnyH_take (i := 8) (oi := ⟨some 26, _, _, _, _, _⟩) (v := ?_) rfl (by kernel_rfl) (by kernel_rfl) (by kernel_rfl) (fun _ _ _ h => h) (Or.inl ⟨by rfl, ?_⟩) hHeld ?_
  rotate_left
  · intro W hSW; have hSW0 := hSW; go_simp; first | done | with_reducible rfl
  (try simp only [Act.put, List.setIfInBounds_toArray, List.set_cons_zero, List.set_cons_succ])
  refine wpAnyH_ready (rs := [9]) (by kernel_rfl) (by simp) ?_
  refine AllReadyH.cons (o := ⟨none, _, _, _, _, _⟩) rfl (fun K hK => ?_) (AllReadyH.nil)
  refine step_cell (by rfl) 111 _ _ (by rfl) gC 2 (.slice A M.length c) (by rfl) (by rfl) 113 _ q1 (show 2 < 3 by omega) infoFls rfl ?_
  intro x4 u4
  have kb4 : x4.cell? ⟨gb, 0, none⟩ = some (.pointer (some ⟨gC, 0, none⟩)) := (World.cell?_of_block (a := ⟨gb, 0, none⟩) (u4.oth gb HNE.out)).trans kb1
  clear hHeld
  refine hK.out _ _ ?_ (fun hHeld => ?_)
  · exact kb4
  clear hK K
  (try simp only [Act.put, List.setIfInBounds_toArray, List.set_cons_zero, List.set_cons_succ])
  refine wpAnyH_done (by kernel_rfl) ?_ _
  refine NoPanic.normal ?_
  clear hHeld
  have k42 : x4.cell? ⟨gC, 2, none⟩ = some (.slice A M.length c) := (u4.row.cell 2).trans rfl
  have HF := Lib.hid (FIN.out x1 x4 g1 o1 u4)
  have e6 : (n : Int) - (M.length : Int) = ((n - M.length : Nat) : Int) := by omega
  obtain ⟨df, hdf⟩ : ∃ df, df = n - M.length := ⟨_, rfl⟩
  rw [← hdf] at e6
  have HDF := Lib.hid hdf
  generalize hml : M.length = ml at k42 e6 hML
  have ewd : IntKind.i64.wrap (df : Int) = (df : Int) := IntWalk.i64_in _ (by omega)
  clear u4 g1 o1 q1 hdf hml
  go_wp2_with fail
  go_ret
  exact ⟨by rw [← HDF.out]; rfl, HF.out.1, HF.out.2⟩
/-- Without the k-th one. -/
def outK (L : List Fy) (k : Nat) : List Fy := L.take k ++ L.drop (k + 1)
theorem outK_len {L : List Fy} {k : Nat} (h : k < L.length) : (outK L k).length = L.length - 1 := by unfold outK; rw [List.length_append, List.length_take, List.length_drop]; omega
set_option maxHeartbeats 800000 in
/-- drop. -/
theorem chDrop (w : World) (P : Nat → Prop) (gC age now : Nat) (L : List Fy) (k : Nat) (h : CH w P gC age now L) (hk : k < L.length) (hL : L.length ≤ 1000000) :
    Calls Try.prog 60 #[.pointer (some ⟨gC, 0, none⟩), .int .i64 (k : Int)] w fun e w' => e = .returned (.tuple #[]) ∧ Kr w w' P ∧ CH w' P gC age now (outK L k) := by
  obtain ⟨A, c, q, own, hA⟩ := h.blk
  obtain ⟨n, hnL⟩ : ∃ n, n = L.length := ⟨_, rfl⟩
  have HMi := Lib.hid h.mine
  have HLT := Lib.hid h.lt
  have HA := Lib.hid hA
  have HLn : Hid ((outK L k).length = n - 1) := by unfold Hid; rw [outK_len hk, hnL]
  rw [← hnL] at q own hk hL
  have HAN : Hid (blk A ≠ some gC) := fun e => (hA gC e).2 rfl
  have k2 : w.cell? ⟨gC, 2, none⟩ = some (.slice A n c) := (q.cell 2).trans rfl
  obtain ⟨k1, hk1⟩ : ∃ k1, k1 = k + 1 := ⟨_, rfl⟩
  have ek : (k : Int) + 1 = (k1 : Int) := by omega
  have CD := Lib.hid (chDel w 0 A n c k k1 (D3 L) own (by omega) (by omega) (D3_one L))
  have HD : Hid ((D3 L).take (k * 3) ++ (D3 L).drop (k1 * 3) = D3 (outK L k)) := by unfold Hid outK; rw [D3_take, D3_drop, D3_append, hk1]
  have hm1 : n - (k1 - k) = n - 1 := by omega
  rw [hm1, HD.out] at CD
  have HQ := Lib.hid q
  have FIN : Hid (∀ (x1 x4 : World), w.grownBy x1 (blk A) → x1.heap.size = w.heap.size → OwnR x1 0 115 3 A (n - 1) c (D3 (outK L k)) → Upd x1 x4 gC 113 (chl age now A (n - 1) c) → Kr w x4 P ∧ CH x4 P gC age now (outK L k)) := by
    intro x1 x4 g1 hs1 o1 u4
    have hs4 := u4.size
    refine ⟨⟨u4.os.trans g1.os, u4.tape.trans g1.tape, u4.output.trans g1.output, by omega, fun j hj hp => ?_⟩, ⟨⟨A, c, by rw [HLn.out]; exact u4.row, by rw [HLn.out]; exact o1.heap (fun j hj => u4.oth j (HA.out j hj).2), HA.out⟩, HMi.out, fun j hj => by have := HLT.out j hj; omega⟩⟩
    have hkg : j ≠ gC := fun e => hp (by rw [e]; exact HMi.out)
    have hka : blk A ≠ some j := fun e => hp (HA.out j e).1
    exact (u4.oth j hkg).trans (g1.block j hj (fun e => hka e.symm))
  have HQ1 : Hid (∀ x1, w.grownBy x1 (blk A) → Blk x1 gC 113 (chl age now A n c)) := fun x1 hg => (hg.block gC HQ.out.lt (fun e => HAN.out e.symm)).trans HQ.out
  obtain ⟨m1, hm1'⟩ : ∃ m1, m1 = n - 1 := ⟨_, rfl⟩
  rw [← hm1'] at CD FIN
  clear h hA hnL q own hk1 hm1 hm1'
  go_enter Try.func60, Try.ntmps60
  go_wp2_with (first
    | (go_at_call 76; refine CD.out.mono ?_; rintro e x1 ⟨rfl, o1, g1, hs1⟩; have q1 := HQ1.out x1 g1)
    | (refine at_cell rfl 111 _ _ rfl gC 2 (.slice A m1 c) rfl rfl 113 _ q1 (show 2 < 3 by omega) infoFls rfl ?_; intro x4 u4))
  refine bodyPost_end (v := .tuple #[]) (results_none rfl _ _ _) rfl ?_
  exact ⟨rfl, FIN.out x1 x4 g1 hs1 o1 u4⟩
end Go.Proofs.Ytkmacepodomdmaa
