/-
  Layer 16: Read.
-/
import Derived.Test.YtkmacepodomdmaaDoorFh
namespace Go.Proofs.YtkmacepodomdmaaDoor
open Go.RowKit
set_option maxRecDepth 100000
set_option linter.unusedVariables false
set_option linter.unusedSimpArgs false

/-- What Read gives. -/
def RdO (w : World) (bs : List Nat) (e : Ending) (w' : World) : Prop := ∃ F, e = .returned (.tuple #[.agg F, .int .i64 (ErN (rdX bs))]) ∧ (rdX bs = .nil → ∃ A n c, F = restF (kd bs) ((hb76 bs).drop 4) (.slice A n c) ∧ Own w' w.heap.size 5 A n c (U8 (restB (kd bs) ((hb76 bs).drop 4)))) ∧ (rdX bs ≠ .nil → F = FV 0 0 0 0 (.slice none 0 0) 0 0) ∧ Below w.heap.size w w'
theorem Dn.size {w : World} {base : Nat} {a : Nat → Addr} {bs : List Nat} {F : Array Value} {v : Value} (h : Dn w base a bs F v) : F.size = 7 := by
  by_cases hx : rdX bs = .nil
  · obtain ⟨A, n, c, rfl, _⟩ := h.yes hx
    exact restF_size _ _ _
  · rw [h.no hx]; rfl
theorem Dn.all {w : World} {base : Nat} {a : Nat → Addr} {bs : List Nat} {F : Array Value} {v : Value} (h : Dn w base a bs F v) : F.all (·.oneCell') = true := by
  by_cases hx : rdX bs = .nil
  · obtain ⟨A, n, c, rfl, _⟩ := h.yes hx
    exact restF_all _ _ _ _ _
  · rw [h.no hx]; exact FV_all _ _ _ _ _ _ _ _ _
set_option maxHeartbeats 4000000 in
/-- frame.Read. -/
theorem readTopC (A : Option Addr) (n c : Nat) (bs : List Nat) (a : Nat → Addr) (w : World) (hr : Rd w w.heap.size A n (U8 bs)) (hb : ∀ b ∈ bs, b < 256) (hnc : n ≤ c) (hc : c ≤ 9223372036854775807) (hE : ErrsAt w a) :
    Calls Tryd.prog 15 #[.slice A n c] w (RdO w bs) := by
  go_enter Tryd.func15, Tryd.ntmps15
  go_upto_region 1 with (refine at_alloc rfl 32 rfl _ zeroF ?_; intro w1 L1)
  have q1 := L1.row
  have bel1 := L1.bel
  have r1 := (hr.below bel1).up bel1.size
  have hE1 := hE.below bel1
  have C := Lib.hid (readC A n c bs a w1 r1 hb hnc hc hE1)
  go_upto_region 2 with (first | (go_at_call 44; refine C.out.mono ?_; rintro e w2 ⟨F, v, rfl, D2, b2⟩) | (refine at_alloc rfl 32 rfl _ zeroF ?_; intro w3 L3) | (refine at_store rfl 32 _ _ rfl w2.heap.size F rfl rfl 32 _ L3.row (infoF7 D2.size) (D2.size.symm ▸ rfl) D2.all ?_; intro wq H4))
  have b2q : Below w2.heap.size w2 wq := L3.bel.trans (H4.below (Nat.le_refl _))
  have t4 : Blk wq w2.heap.size 32 F := H4.row
  have q2 := (q1.after b2).after b2q
  have bel := Below.then_ (Below.then_ bel1 b2) b2q
  have hEq := hE.below bel
  have hv := D2.er.below b2q
  have hFs := D2.size
  have hFa := D2.all
  have HNO := Lib.hid D2.no
  have HY : Hid (rdX bs = .nil → ∃ A n c, F = restF (kd bs) ((hb76 bs).drop 4) (.slice A n c) ∧ Own wq w1.heap.size 5 A n c (U8 (restB (kd bs) ((hb76 bs).drop 4)))) := fun h => by
    obtain ⟨A, n, c, h1, h2⟩ := D2.yes h
    exact ⟨A, n, c, h1, h2.below b2q (Nat.le_refl _)⟩
  have HNE : Hid (w2.heap.size ≠ w.heap.size) := by unfold Hid; have := L1.size; have := b2.size; omega
  have HRB : Hid (w.heap.size < w1.heap.size) := by unfold Hid; rw [L1.size]; omega
  have HBB : Hid (w.heap.size ≤ w1.heap.size) := bel1.size
  have CN : Hid (∀ W, Below wq.heap.size wq W → Calls Tryd.prog 45 #[v] W fun ev w' => ev = .returned (.int .i64 (ErN (rdX bs))) ∧ Below W.heap.size W w') := fun W hW => numberC v (rdX bs) a W (hEq.below hW) (hv.below hW)
  obtain ⟨g4, hg4⟩ : ∃ g, g = w2.heap.size := ⟨_, rfl⟩
  obtain ⟨r2, hr2⟩ : ∃ g, g = w.heap.size := ⟨_, rfl⟩
  have HRW : Hid (w.heap.size ≤ r2) := by unfold Hid; omega
  rw [← hg4] at t4 HNE ⊢
  rw [← hr2] at q2 HNE HRB ⊢
  have hKeep : ∀ W, Blk W g4 32 F → W.rangeAt g4 0 F.toList := fun W h => h.range 0 _ (fun i u hu => by rw [Nat.zero_add]; rw [Array.getElem?_toList] at hu; exact hu)
  clear L1 L3 H4 hg4 hr2 b2 b2q q1 D2 C r1 hE1 hv hEq
  refine wp_region_noPanic ?_
  refine wp_region_held_drew (S := fun W => W.rangeAt g4 0 F.toList) (by kernel_rfl) (hKeep _ t4.drew) (fun hHeld => ?_)
  refine wpAnyH_take (i := 0) (oi := ⟨some 11, _, _, _, _, _⟩) (v := _) rfl (by kernel_rfl) (by kernel_rfl) (by kernel_rfl) (fun _ _ _ h => h) (yields_mid (by rfl) 32 _ (by rfl) g4 0 (by rfl) F _ (fun W h => h) Tryd.underlying32 rfl (infoF7 hFs)) hHeld ?_
  (try simp only [Act.put, List.setIfInBounds_toArray, List.set_cons_zero, List.set_cons_succ])
  refine wpAnyH_take (i := 1) (oi := ⟨some 12, _, _, _, _, _⟩) (v := ?_) rfl (by kernel_rfl) (by kernel_rfl) (by kernel_rfl) (fun _ _ _ h => h) (Or.inl ⟨by rfl, ?_⟩) hHeld ?_
  rotate_left
  · intro W hSW; have hSW0 := hSW; go_simp; first | done | with_reducible rfl
  (try simp only [Act.put, List.setIfInBounds_toArray, List.set_cons_zero, List.set_cons_succ])
  refine wpAnyH_ready (rs := [2]) (by kernel_rfl) (by simp) ?_
  refine AllReadyH.cons (o := ⟨some 13, _, _, _, _, _⟩) rfl (fun K hK => ?_) (AllReadyH.nil)
  go_simp
  refine (CN.out _ ((Below.refl _ _).drew)).mono ?_
  rintro e WN ⟨rfl, bN⟩
  clear hHeld
  have bN1 : Below wq.heap.size wq WN := (Below.refl _ _).drew.trans bN
  have tN := t4.after bN1
  refine hK.out _ _ ?_ (fun hHeld => ?_)
  · exact hKeep _ tN
  clear hK K
  (try simp only [Act.put, List.setIfInBounds_toArray, List.set_cons_zero, List.set_cons_succ])
  refine wpAnyH_ready (rs := [3]) (by kernel_rfl) (by simp) ?_
  refine AllReadyH.cons (o := ⟨none, _, _, _, _, _⟩) rfl (fun K hK => ?_) (AllReadyH.nil)
  refine step_store (by rfl) 32 _ _ (by rfl) r2 F (by rfl) (by rfl) 32 _ (q2.after bN1) (infoF7 hFs) (hFs.symm ▸ rfl) hFa ?_
  intro WS HS
  clear hHeld
  have tS := HS.blk tN HNE.out
  refine hK.out _ _ ?_ (fun hHeld => ?_)
  · exact hKeep _ tS
  clear hK K
  (try simp only [Act.put, List.setIfInBounds_toArray, List.set_cons_zero, List.set_cons_succ])
  refine wpAnyH_take (i := 4) (oi := ⟨some 3, _, _, _, _, _⟩) (v := ?_) rfl (by kernel_rfl) (by kernel_rfl) (by kernel_rfl) (fun _ _ _ h => h) (Or.inl ⟨by rfl, ?_⟩) hHeld ?_
  rotate_left
  · intro W hSW; have hSW0 := hSW; go_simp; first | done | with_reducible rfl
  (try simp only [Act.put, List.setIfInBounds_toArray, List.set_cons_zero, List.set_cons_succ])
  refine wpAnyH_done (by kernel_rfl) ?_ _
  refine NoPanic.normal ?_
  clear hHeld
  have QR : Blk WS r2 32 F := HS.row
  have BW : Below w.heap.size w WS := (Below.then_ bel bN1).trans (HS.below HRW.out)
  have HO : Hid (rdX bs = .nil → ∃ A n c, F = restF (kd bs) ((hb76 bs).drop 4) (.slice A n c) ∧ Own WS w.heap.size 5 A n c (U8 (restB (kd bs) ((hb76 bs).drop 4)))) := fun h => by obtain ⟨A, n, c, h1, h2⟩ := HY.out h; exact ⟨A, n, c, h1, ((h2.below bN1 (Nat.le_refl _)).upd HS HRB.out).down HBB.out⟩
  clear HS bN
  go_wp2
  refine bodyPost_ret (v := .tuple #[.agg F, .int .i64 (ErN (rdX bs))]) (results_row_tmp rfl _ _ r2 32 _ _ rfl _ rfl QR Tryd.underlying32 rfl (infoF7 hFs)) rfl ?_
  exact ⟨F, rfl, HO.out, HNO.out, BW⟩
end Go.Proofs.YtkmacepodomdmaaDoor
