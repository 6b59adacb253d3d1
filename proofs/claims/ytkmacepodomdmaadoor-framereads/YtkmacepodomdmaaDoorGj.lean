/-
  The walk of FrameReads.
-/
import Derived.Test.YtkmacepodomdmaaDoorGk
import Derived.Deep.DeepCutAuto
namespace Go.Proofs.YtkmacepodomdmaaDoor
open Go.RowKit
set_option maxRecDepth 100000
set_option linter.unusedVariables false
set_option linter.unusedSimpArgs false

set_option maxHeartbeats 2000000 in
set_option maxRecDepth 100000 in
/-- FrameReads: the walk. -/
theorem frameReads (A : Option Addr) (n c : Nat) (bs : List Nat) (a : Nat → Addr) (w : World) (hr : Rd w w.heap.size A n (U8 bs)) (h256 : ∀ x ∈ bs, x < 256) (hnc : n ≤ c) (hc : c ≤ 9223372036854775807) (hnone : A = none → n = 0 ∧ c = 0) (hE : ErrsAt w a) :
    Calls Tryd.prog 4 #[.slice A n c] w fun e w' => e = .returned (.bool true) ∧ Below w.heap.size w w' := by
  obtain ⟨i0, hi0, hz0, hz1, hz2⟩ := info_parts info5
  obtain ⟨kk, hk, hk2, hk3⟩ := min_if n 120
  obtain ⟨hm1, hm2⟩ := hk3 120 rfl
  clear hk3
  have be5 : Below w.heap.size w (w.alloc (.cells #[] 5)) := (Below.refl _ _).alloc (Nat.le_refl _) _
  have o5 : Own (w.alloc (.cells #[] 5)) w.heap.size 5 (some ⟨w.heap.size, 0, none⟩) 0 0 [] := ⟨World.ownsRow_made w #[] 0 (Nat.le_refl _) (by unfold maxLen; omega) (by simp)⟩
  have r5 := (hr.cut8 kk hk2).below be5
  have hs5 := be5.size
  have hn2 : A = none → kk = 0 ∧ c = 0 := fun h => ⟨by have := (hnone h).1; omega, (hnone h).2⟩
  have HL := Lib.hid (take256 h256 kk)
  have CF := Lib.hid (fun (W : World) (h : ∃ a, ErrsAt W a) => by obtain ⟨a, ha⟩ := h; exact framesC a W ha)
  generalize bs.take kk = l at *
  obtain ⟨k, q, ve, le, b, m, hN⟩ := frame_of l HL.out
  have HN := Lib.hid hN
  have hq := hN.hq
  have hb := hN.hb
  have hm := hN.hm
  have hv := hN.hv
  clear hr h256 hnone hN
  go_enter Tryd.func4, Tryd.ntmps4
  go_upto_region 2 with (at_builtin; refine wpList_app _ rfl _ _ 22 rfl w.heap.size 5 i0 _ 1 Tryd.underlying22 hi0 hz0 hz1 hz2 rfl _ 0 0 [] rfl o5 w.heap.size A kk c (U8 l) rfl r5 hn2 (U8_one _) (by omega) (by unfold maxLen; omega) hs5 ?_; intro A0 c0 w0 own0' hgr0; have own0 := own0'.to (Nat.zero_add kk) (List.nil_append _); have b0 : Below w.heap.size w w0 := be5.grown hgr0 hs5 (fun j hj => by simp [Value.ownBlock] at hj; omega); rw [Nat.zero_add])
  have kc0 := own0.conv w0 (Below.refl _ _)
  have hbd := own0.bounds
  have hc0 : c0 ≤ 9223372036854775807 := by have := hbd.2; unfold maxLen at this; omega
  have CR := Lib.hid (readN A0 kk c0 l a w0 own0.rd HL.out hbd.1 hc0 (hE.below b0) HN.out)
  have HO0 := Lib.hid own0
  have HE0 := Lib.hid (hE.below b0)
  clear own0' own0 o5 r5 hbd hE
  go_upto_region 4 with (first
    | (go_at_call 15; refine CR.out.mono ?_; rintro e w2 ⟨A5, n5, c5, rfl, hr5, hnone5, hle5, b2⟩)
    | (refine at_alloc rfl 32 rfl _ zeroF ?_; intro w3 L3)
    | (refine at_store rfl 32 _ _ rfl w2.heap.size (FV k q ve le (.slice A5 n5 c5) b m) rfl rfl 32 _ L3.row (infoF _ _ _ _ _ _ _) rfl (FV_all _ _ _ _ _ _ _ _ _) ?_; intro w4 H4))
  have b4 : Below w2.heap.size w2 w4 := L3.bel.trans (H4.below (Nat.le_refl _))
  have b04 : Below w0.heap.size w0 w4 := Below.then_ b2 b4
  have P4 := H4.row
  obtain ⟨g4, hg4⟩ : ∃ g, g = w2.heap.size := ⟨_, rfl⟩
  rw [← hg4] at P4 ⊢
  have R5 := (hr5.below b4).up b4.size
  have CR2 := Lib.hid (rreadN A0 kk c0 l w4 (HO0.out.rdOf b04) HL.out HO0.out.bounds.1 hc0 (by omega) HN.out)
  clear hr5 L3 H4 hg4 CR
  go_upto_region 5 with (first
    | (go_at_call 16; refine CR2.out.mono ?_; rintro e w5 ⟨A6, n6, c6, rfl, hr6, hnone6, hle6, b5⟩)
    | (refine at_alloc rfl 25 rfl _ zeroR ?_; intro w6 L6)
    | (refine at_store rfl 25 _ _ rfl w5.heap.size (RV k q ve le (.slice A6 n6 c6) b m) rfl rfl 25 _ L6.row (infoR _ _ _ _ _ _ _) rfl (RV_all _ _ _ _ _ _ _ _ _) ?_; intro w7 H7))
  have b7 : Below w5.heap.size w5 w7 := L6.bel.trans (H7.below (Nat.le_refl _))
  have b47 : Below w4.heap.size w4 w7 := Below.then_ b5 b7
  have P6 := H7.row
  obtain ⟨g6, hg6⟩ : ∃ g, g = w5.heap.size := ⟨_, rfl⟩
  rw [← hg6] at P6 ⊢
  have P47 := P4.after b47
  have HP4 := Lib.hid P47
  have HP6 := Lib.hid P6
  have R57 := (R5.below b47).up b47.size
  have R67 := (hr6.below b7).up b7.size
  have b07 : Below w0.heap.size w0 w7 := Below.then_ b04 b47
  have bS0 : Below w.heap.size w w7 := b0.trans (b07.mono b0.size)
  have HK : Hid (∀ W, Below w7.heap.size w7 W → (convert 22 9 (.slice A0 kk c0)).run Tryd.prog W = .ok (.string (str l)) W) := fun W h => HO0.out.conv W (Below.then_ b07 h)
  have HR5 : Hid (∀ W, Below w7.heap.size w7 W → Rd W W.heap.size A5 n5 (U8 (rB l))) := fun W h => (R57.below h).up h.size
  have HR6 : Hid (∀ W, Below w7.heap.size w7 W → Rd W W.heap.size A6 n6 (U8 (rB l))) := fun W h => (R67.below h).up h.size
  have HE7 : Hid (∃ a, ErrsAt w7 a) := ⟨a, HE0.out.below b07⟩
  obtain ⟨w4', hw4'⟩ : ∃ w', w' = w7 := ⟨_, rfl⟩
  rw [← hw4'] at bS0 HK HR5 HR6 HE7 HP4 HP6 ⊢
  have CF2 : Hid (∀ W, Below w4'.heap.size w4' W → Calls Tryd.prog 13 #[] W fun e w' => e = .returned (.bool true) ∧ Below W.heap.size W w') := fun W h => CF.out W (by obtain ⟨a, ha⟩ := HE7.out; exact ⟨a, ha.below h⟩)
  clear hw4' CF hr6 L6 H7 hg6 CR2 P4 P47 P6 R5 R57 R67 b07 b47 b7 b5 b04 b4 b2 HO0 HE0 kc0 b0 hm1 hm2
  have dE : (ErN (rdX l) != ErN (rdX l)) = false := by simp
  have hsz0 : Below w4'.heap.size w4' w4'.drew := below_drawn 1
  refine wp_region_noPanic ?_
  refine wp_region_held_drew (S := fun W => Below w4'.heap.size w4' W) (by kernel_rfl) hsz0 (fun hHeld => ?_)
  refine wpAnyH_ready (rs := [0]) (by kernel_rfl) (by simp) ?_
  refine AllReadyH.cons (o := ⟨some 29, _, _, _, _, _⟩) rfl (fun K hK => ?_) (AllReadyH.nil)
  go_simp
  go_at_call 13
  refine (CF2.out w4'.drew (Below.refl _ _).drew).mono ?_
  rintro e x1 ⟨rfl, h1⟩
  have bS1 : Below w4'.heap.size w4' x1 := Below.then_ ((Below.refl w4'.heap.size w4').drew) h1
  clear hHeld
  refine hK.out _ _ ?_ (fun hHeld => ?_)
  · exact bS1
  clear hK K
  (try simp only [Act.put, List.setIfInBounds_toArray, List.set_cons_zero, List.set_cons_succ])
  refine wpAnyH_take (i := 1) (oi := ⟨some 30, _, _, _, _, _⟩) (v := ?_) rfl (by kernel_rfl) (by kernel_rfl) (by kernel_rfl) (fun _ _ _ h => h) (Or.inl ⟨by rfl, ?_⟩) hHeld ?_
  rotate_left
  · intro W hSW; have hSW0 := hSW; go_simp; first | done | with_reducible rfl
  (try simp only [Act.put, List.setIfInBounds_toArray, List.set_cons_zero, List.set_cons_succ])
  refine wpAnyH_take (i := 2) (oi := ⟨some 31, _, _, _, _, _⟩) (v := ?_) rfl (by kernel_rfl) (by kernel_rfl) (by kernel_rfl) (fun _ _ _ h => h) (Or.inl ⟨by rfl, ?_⟩) hHeld ?_
  rotate_left
  · intro W hSW; have hSW0 := hSW; go_simp; first | done | with_reducible rfl
  (try simp only [Act.put, List.setIfInBounds_toArray, List.set_cons_zero, List.set_cons_succ])
  refine wpAnyH_take (i := 3) (oi := ⟨some 32, _, _, _, _, _⟩) (v := ?_) rfl (by kernel_rfl) (by kernel_rfl) (by kernel_rfl) (fun _ _ _ h => h) (Or.inl ⟨by rfl, ?_⟩) hHeld ?_
  rotate_left
  · intro W hSW; have hSW0 := hSW; go_simp; first | done | with_reducible rfl
  (try simp only [Act.put, List.setIfInBounds_toArray, List.set_cons_zero, List.set_cons_succ])
  refine wpAnyH_take (i := 4) (oi := ⟨some 33, _, _, _, _, _⟩) (v := ?_) rfl (by kernel_rfl) (by kernel_rfl) (by kernel_rfl) (fun _ _ _ h => h) (Or.inl ⟨by rfl, ?_⟩) hHeld ?_
  rotate_left
  · intro W hSW; have hSW0 := hSW; go_simp; first | done | with_reducible rfl
  (try simp only [Act.put, List.setIfInBounds_toArray, List.set_cons_zero, List.set_cons_succ])
  refine wpAnyH_take (i := 5) (oi := ⟨some 34, _, _, _, _, _⟩) (v := ?_) rfl (by kernel_rfl) (by kernel_rfl) (by kernel_rfl) (fun _ _ _ h => h) (Or.inl ⟨by rfl, ?_⟩) hHeld ?_
  rotate_left
  · intro W hSW; have hSW0 := hSW; go_simp; first | done | with_reducible rfl
  (try simp only [Act.put, List.setIfInBounds_toArray, List.set_cons_zero, List.set_cons_succ])
  refine wpAnyH_take (i := 6) (oi := ⟨some 35, _, _, _, _, _⟩) (v := ?_) rfl (by kernel_rfl) (by kernel_rfl) (by kernel_rfl) (fun _ _ _ h => h) (Or.inl ⟨by rfl, ?_⟩) hHeld ?_
  rotate_left
  · intro W hSW; have hSW0 := hSW; go_simp; first | done | with_reducible rfl
  (try simp only [Act.put, List.setIfInBounds_toArray, List.set_cons_zero, List.set_cons_succ])
  refine wpAnyH_take (i := 7) (oi := ⟨some 36, _, _, _, _, _⟩) (v := ?_) rfl (by kernel_rfl) (by kernel_rfl) (by kernel_rfl) (fun _ _ _ h => h) (Or.inl ⟨by rfl, ?_⟩) hHeld ?_
  rotate_left
  · intro W hSW; have hSW0 := hSW; go_simp; first | done | with_reducible rfl
  (try simp only [Act.put, List.setIfInBounds_toArray, List.set_cons_zero, List.set_cons_succ])
  refine wpAnyH_take (i := 8) (oi := ⟨some 37, _, _, _, _, _⟩) (v := _) rfl (by kernel_rfl) (by kernel_rfl) (by kernel_rfl) (fun _ _ _ h => h) (yields_row (by rfl) 32 _ (by rfl) g4 (by rfl) 32 (FV k q ve le (.slice A5 n5 c5) b m) _ (fun W h => HP4.out.after h) Tryd.underlying32 rfl (infoF _ _ _ _ _ _ _)) hHeld ?_
  (try simp only [Act.put, List.setIfInBounds_toArray, List.set_cons_zero, List.set_cons_succ])
  refine wpAnyH_take (i := 10) (oi := ⟨some 39, _, _, _, _, _⟩) (v := _) rfl (by kernel_rfl) (by kernel_rfl) (by kernel_rfl) (fun _ _ _ h => h) (yields_row (by rfl) 25 _ (by rfl) g6 (by rfl) 25 (RV k q ve le (.slice A6 n6 c6) b m) _ (fun W h => HP6.out.after h) Tryd.underlying25 rfl (infoR _ _ _ _ _ _ _)) hHeld ?_
  (try simp only [Act.put, List.setIfInBounds_toArray, List.set_cons_zero, List.set_cons_succ])
  refine wpAnyH_ready (rs := [9]) (by kernel_rfl) (by simp) ?_
  refine AllReadyH.cons (o := ⟨some 38, _, _, _, _, _⟩) rfl (fun K hK => ?_) (AllReadyH.nil)
  go_simp
  go_at_call 18
  refine (fromC k ve le q A5 n5 c5 b m x1 hq hb).mono ?_
  rintro e x2 ⟨rfl, h2⟩
  have bS2 : Below w4'.heap.size w4' x2 := Below.then_ bS1 h2
  clear hHeld
  refine hK.out _ _ ?_ (fun hHeld => ?_)
  · exact bS2
  clear hK K
  (try simp only [Act.put, List.setIfInBounds_toArray, List.set_cons_zero, List.set_cons_succ])
  refine wpAnyH_ready (rs := [11]) (by kernel_rfl) (by simp) ?_
  refine AllReadyH.cons (o := ⟨some 40, _, _, _, _, _⟩) rfl (fun K hK => ?_) (AllReadyH.nil)
  go_simp
  go_at_call 17
  refine (r16SameC k q ve le b m A5 n5 c5 A6 n6 c6 (rB l) x2 (HR5.out x2 bS2) (HR6.out x2 bS2) hnone5 hnone6).mono ?_
  rintro e x3 ⟨rfl, h3⟩
  have bS3 : Below w4'.heap.size w4' x3 := Below.then_ bS2 h3
  clear hHeld
  refine hK.out _ _ ?_ (fun hHeld => ?_)
  · exact bS3
  clear hK K
  (try simp only [Act.put, List.setIfInBounds_toArray, List.set_cons_zero, List.set_cons_succ])
  refine wpAnyH_take (i := 12) (oi := ⟨some 41, _, _, _, _, _⟩) (v := ?_) rfl (by kernel_rfl) (by kernel_rfl) (by kernel_rfl) (fun _ _ _ h => h) (Or.inl ⟨by rfl, ?_⟩) hHeld ?_
  rotate_left
  · intro W hSW; have hSW0 := hSW; go_simp; first | done | with_reducible rfl
  (try simp only [Act.put, List.setIfInBounds_toArray, List.set_cons_zero, List.set_cons_succ])
  refine wpAnyH_take (i := 13) (oi := ⟨some 42, _, _, _, _, _⟩) (v := ?_) rfl (by kernel_rfl) (by kernel_rfl) (by kernel_rfl) (fun _ _ _ h => h) (Or.inl ⟨by rfl, ?_⟩) hHeld ?_
  rotate_left
  · intro W hSW; have hSW0 := hSW; go_simp; first | done | with_reducible rfl
  (try simp only [Act.put, List.setIfInBounds_toArray, List.set_cons_zero, List.set_cons_succ])
  refine wpAnyH_take (i := 14) (oi := ⟨some 43, _, _, _, _, _⟩) (v := ?_) rfl (by kernel_rfl) (by kernel_rfl) (by kernel_rfl) (fun _ _ _ h => h) (Or.inl ⟨by rfl, ?_⟩) hHeld ?_
  rotate_left
  · intro W hSW; have hSW0 := hSW; go_simp; first | done | with_reducible rfl
  (try simp only [Act.put, List.setIfInBounds_toArray, List.set_cons_zero, List.set_cons_succ])
  refine wpAnyH_take (i := 15) (oi := ⟨some 44, _, _, _, _, _⟩) (v := ?_) rfl (by kernel_rfl) (by kernel_rfl) (by kernel_rfl) (fun _ _ _ h => h) (Or.inl ⟨by rfl, ?_⟩) hHeld ?_
  rotate_left
  · intro W hSW; have hSW0 := hSW; go_simp; first | done | with_reducible rfl
  (try simp only [Act.put, List.setIfInBounds_toArray, List.set_cons_zero, List.set_cons_succ])
  refine wpAnyH_take (i := 17) (oi := ⟨some 46, _, _, _, _, _⟩) (v := ?_) rfl (by kernel_rfl) (by kernel_rfl) (by kernel_rfl) (fun _ _ _ h => h) (Or.inl ⟨by rfl, ?_⟩) hHeld ?_
  rotate_left
  · intro W hSW; have hSW0 := hSW; go_simp; first | done | with_reducible rfl
  (try simp only [Act.put, List.setIfInBounds_toArray, List.set_cons_zero, List.set_cons_succ])
  refine wpAnyH_ready (rs := [16]) (by kernel_rfl) (by simp) ?_
  refine AllReadyH.cons (o := ⟨some 45, _, _, _, _, _⟩) rfl (fun K hK => ?_) (AllReadyH.nil)
  have kx := HK.out x3 bS3
  go_simp
  clear hHeld kx
  refine hK.out _ _ ?_ (fun hHeld => ?_)
  · exact bS3
  clear hK K
  (try simp only [Act.put, List.setIfInBounds_toArray, List.set_cons_zero, List.set_cons_succ])
  refine wpAnyH_take (i := 18) (oi := ⟨some 47, _, _, _, _, _⟩) (v := ?_) rfl (by kernel_rfl) (by kernel_rfl) (by kernel_rfl) (fun _ _ _ h => h) (Or.inl ⟨by rfl, ?_⟩) hHeld ?_
  rotate_left
  · intro W hSW; have hSW0 := hSW; go_simp; first | done | with_reducible rfl
  (try simp only [Act.put, List.setIfInBounds_toArray, List.set_cons_zero, List.set_cons_succ])
  refine wpAnyH_take (i := 19) (oi := ⟨some 48, _, _, _, _, _⟩) (v := ?_) rfl (by kernel_rfl) (by kernel_rfl) (by kernel_rfl) (fun _ _ _ h => h) (Or.inl ⟨by rfl, ?_⟩) hHeld ?_
  rotate_left
  · intro W hSW; have hSW0 := hSW; go_simp; first | done | with_reducible rfl
  (try simp only [Act.put, List.setIfInBounds_toArray, List.set_cons_zero, List.set_cons_succ])
  refine wpAnyH_done (by kernel_rfl) ?_ _
  refine NoPanic.normal ?_
  clear hHeld
  by_cases hz : ErN (rdX l) = 0
  · have hnil := (ErN_zero (rdX l) l rfl).1 hz
    obtain ⟨_, _, hbit, hwe, hwb⟩ := HN.out.yes hnil
    have p43 := HP4.out.after bS3
    have r53 := HR5.out x3 bS3
    have CW := Lib.hid (writeC k q ve le A5 n5 c5 b m (rB l) x3 hq hv r53 (bit256 hbit) (by omega) hb hm)
    rw [hwe, hwb] at CW
    have HBX := Lib.hid (fun (W : World) (h : Below x3.heap.size x3 W) => bS0.trans ((Below.then_ bS3 h).mono bS0.size))
    have dz : (ErN (rdX l) != 0) = false := by rw [hz]; rfl
    clear hz
    generalize ErN (rdX l) = er at *
    go_upto_region 10 with (first
      | (refine at_load rfl 32 _ rfl g4 rfl 32 (FV k q ve le (.slice A5 n5 c5) b m) _ p43 Tryd.underlying32 rfl (infoF _ _ _ _ _ _ _) ?_)
      | (go_at_call 11; refine CW.out.mono ?_; rintro e x4 ⟨A8, n8, c8, rfl, own8, b8⟩))
    have kc8 := own8.conv x4 (Below.refl _ _)
    have HB8 := Lib.hid (HBX.out x4 b8)
    clear own8 CW
    generalize str l = s0 at *
    have es : (s0.toList == s0.toList) = true := by simp
    go_wp2_with fail
    go_ret
    exact ⟨rfl, HB8.out⟩
  · have dz : (ErN (rdX l) != 0) = true := by simpa using hz
    have HB8 := Lib.hid (bS0.trans (bS3.mono bS0.size))
    clear hz
    generalize ErN (rdX l) = er at *
    go_wp2_with fail
    go_ret
    exact ⟨rfl, HB8.out⟩
end Go.Proofs.YtkmacepodomdmaaDoor
