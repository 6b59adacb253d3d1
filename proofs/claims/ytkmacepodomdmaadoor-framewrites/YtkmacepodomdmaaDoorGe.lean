/-
  The reference's Read: data, what is behind the body.
-/
import Derived.Test.YtkmacepodomdmaaDoorGb
namespace Go.Proofs.YtkmacepodomdmaaDoor
open Go.RowKit
set_option maxRecDepth 100000
set_option linter.unusedVariables false
set_option linter.unusedSimpArgs false

set_option maxHeartbeats 4000000 in
theorem rdataPad (n c : Nat) (A : Option Addr) (bs : List Nat) (w : World) (hr : Rd w w.heap.size A n (U8 bs)) (hb : ∀ b ∈ bs, b < 256) (hnc : n ≤ c) (hc : c ≤ 9223372036854775807) (hn : n ≤ 120) (hk : bs.getD 0 0 / 16 = 1) (hh : 6 ≤ n) (hok : Crc.ok16 (bs.take 6) = true) (hz : (num (((Bm.ofBytes bs).drop 6).take 2)) = 0) (hl : (num (((Bm.ofBytes bs).drop 8).take 8)) ≤ 64) (hs1 : (num (((Bm.ofBytes bs).drop 8).take 8)) + 11 ≤ n) (hs2 : n ≤ (num (((Bm.ofBytes bs).drop 8).take 8)) + 11) (hp : ∃ j, 8 * ((num (((Bm.ofBytes bs).drop 8).take 8)) + 4) + 54 ≤ j ∧ j < (Bm.ofBytes bs).length ∧ (Bm.ofBytes bs).getD j 0 ≠ 0) : Calls Tryd.prog 16 #[.slice A n c] w (RNo 5 w) := by
  have hx := Bm.byte_lt bs hb 0
  go_enter Tryd.func16, Tryd.ntmps16
  go_upto_region 1 with (refine at_alloc rfl 25 rfl _ zeroR ?_; intro w1 L1)
  have q1 := L1.row
  have bel1 := L1.bel
  have r1 := (hr.below bel1).up bel1.size
  obtain ⟨b, off, rfl, hlt2, hcell⟩ := r1.cell8 0 (by omega)
  rw [Nat.add_zero] at hcell
  have rh := r1.cut8 6 hh
  have C := Lib.hid (refRight16 _ 6 c _ w1 rh (fun b hb' => hb b (List.mem_of_mem_take hb')) (by omega) (by omega) hc (rh.conv_hid (fun h => by cases h)))
  rw [hok] at C
  have HR := Lib.hid r1
  have HB := Lib.hid hb
  generalize hxe : bs.getD 0 0 = x at *
  obtain ⟨g, hg⟩ : ∃ g, g = w.heap.size := ⟨_, rfl⟩
  have HG : Hid (w.heap.size ≤ g) := by unfold Hid; omega
  rw [← hg] at q1 ⊢
  have HGL := Lib.hid q1.lt
  clear L1 hg rh r1 hr hok hxe hb
  have e1 : (x : Int) / 16 = 1 := by omega
  clear hk
  go_upto_region 11 with (go_at_call 46; refine C.out.mono ?_; rintro e w2 ⟨rfl, b2⟩)
  have q2 := q1.after b2
  have bel2 := Below.then_ bel1 b2
  have HR2 := Lib.hid ((HR.out.below b2).up b2.size)
  have CO := Lib.hid (r1OfC _ n c bs w2 HR2.out HB.out (by omega))
  go_upto_region 12 with (go_at_call 47; refine CO.out.mono ?_; rintro e w3 ⟨A3, n3, c3, rfl, own3, b3⟩)
  have q3 := q2.after b3
  have bel3 := Below.then_ bel2 b3
  have rd3 := own3.rd
  have hbd := own3.bounds
  have HN3 : Hid (n3 = 8 * n) := by unfold Hid; rw [rd3.len8, Bm.ofBytes_length, ← HR.out.len8]
  have hn3 : 8 * 6 ≤ n3 := by rw [HN3.out]; omega
  have hc3 : n3 ≤ c3 := hbd.1
  have hc4 : c3 ≤ 9223372036854775807 := by have := hbd.2; unfold maxLen at this; omega
  obtain ⟨b4, off4, rfl, hlt4, _⟩ := rd3.at_ (by omega)
  have HL3 := Lib.hid rd3
  have HBL : Hid (b4 < w3.heap.size) := hlt4
  have HBG : Hid (b4 ≠ g) := by
    have h1 := own3.block b4 rfl
    have h2 := HGL.out
    have h3 := b2.size
    unfold Hid
    intro e
    omega
  have CNx : Hid (∀ W, Below w3.heap.size w3 W → ∀ lo k : Nat, lo + k ≤ n3 → k ≤ 40 → Calls Tryd.prog 48 #[.slice (some ⟨b4, off4 + lo, none⟩) k (c3 - lo)] W fun e w' => e = .returned (.int .i64 (num (((Bm.ofBytes bs).drop lo).take k) : Nat)) ∧ W = w') := fun W hW lo k h1 h2 =>
    rnumberC _ k _ _ W (((HL3.out.mid8 lo k h1 (by omega)).below hW).up hW.size) (fun x hx => Bm.ofBytes_bit bs x (List.mem_of_mem_drop (List.mem_of_mem_take hx))) h2
  have CVx : Hid (∀ W, Below w3.heap.size w3 W → Calls Tryd.prog 48 #[.slice (some ⟨b4, off4 + 4, none⟩) 2 (c3 - 4)] W fun e w' => e = .returned (.int .i64 ((num (((Bm.ofBytes bs).drop 4).take 2)) : Nat)) ∧ W = w') := fun W hW => CNx.out W hW 4 2 (by omega) (by omega)
  have CLx : Hid (∀ W, Below w3.heap.size w3 W → Calls Tryd.prog 48 #[.slice (some ⟨b4, off4 + 8, none⟩) 8 (c3 - 8)] W fun e w' => e = .returned (.int .i64 ((num (((Bm.ofBytes bs).drop 8).take 8)) : Nat)) ∧ W = w') := fun W hW => CNx.out W hW 8 8 (by omega) (by omega)
  have CSx : Hid (∀ W, Below w3.heap.size w3 W → Calls Tryd.prog 48 #[.slice (some ⟨b4, off4 + 16, none⟩) 16 (c3 - 16)] W fun e w' => e = .returned (.int .i64 ((num (((Bm.ofBytes bs).drop 16).take 16)) : Nat)) ∧ W = w') := fun W hW => CNx.out W hW 16 16 (by omega) (by omega)
  have CPx : Hid (∀ W, Below w3.heap.size w3 W → Calls Tryd.prog 48 #[.slice (some ⟨b4, off4 + 6, none⟩) 2 (c3 - 6)] W fun e w' => e = .returned (.int .i64 ((num (((Bm.ofBytes bs).drop 6).take 2)) : Nat)) ∧ W = w') := fun W hW => CNx.out W hW 6 2 (by omega) (by omega)
  have hle : (num (((Bm.ofBytes bs).drop 8).take 8)) < 256 := num_take_lt _ (fun x hx => Bm.ofBytes_bit bs x (List.mem_of_mem_drop hx)) 8
  obtain ⟨ve, hve2⟩ : ∃ v, v = (num (((Bm.ofBytes bs).drop 4).take 2)) := ⟨_, rfl⟩
  obtain ⟨le, hle2⟩ : ∃ v, v = (num (((Bm.ofBytes bs).drop 8).take 8)) := ⟨_, rfl⟩
  obtain ⟨sq, hsq2⟩ : ∃ v, v = (num (((Bm.ofBytes bs).drop 16).take 16)) := ⟨_, rfl⟩
  obtain ⟨pz, hpz2⟩ : ∃ v, v = (num (((Bm.ofBytes bs).drop 6).take 2)) := ⟨_, rfl⟩
  rw [← hve2] at CVx
  rw [← hle2] at CLx hle
  rw [← hsq2] at CSx
  rw [← hpz2] at CPx
  rw [hz] at hpz2
  rw [hpz2] at CPx
  rw [← hle2] at hl hs1 hs2 hp
  have HPD := Lib.hid hp
  clear hp hz
  have HVE := Lib.hid hve2
  have HLE := Lib.hid hle2
  have HSQ := Lib.hid hsq2
  clear hve2 hle2 hsq2 hpz2 CNx
  obtain ⟨w4, hw4⟩ : ∃ w4, w4 = w3.drew := ⟨_, rfl⟩
  have HW4 := Lib.hid hw4
  clear hw4
  have b4' : Below w3.heap.size w3 w4 := by rw [HW4.out]; exact (Below.refl _ _).drew
  have q4 := q3.after b4'
  have bel4 := Below.then_ bel3 b4'
  have f1 : (6 : Int) ≤ (c3 : Int) := by omega
  have f2 : (c3 = 4) = False := by simp; omega
  have f3 : (16 : Int) ≤ (c3 : Int) := by omega
  have f4 : (c3 = 8) = False := by simp; omega
  have f5 : (32 : Int) ≤ (c3 : Int) := by omega
  have f6 : (c3 = 16) = False := by simp; omega
  go_upto_region 18 with (fail)
  refine wp_region_noPanic ?_
  refine wp_region_held_drew (S := fun _ => True) (by kernel_rfl) trivial (fun hHeld => ?_)
  rw [← HW4.out]
  refine wpAnyH_take (i := 0) (oi := ⟨some 62, _, _, _, _, _⟩) (v := ?_) rfl (by kernel_rfl) (by kernel_rfl) (by kernel_rfl) (fun _ _ _ h => h) (Or.inl ⟨by rfl, ?_⟩) hHeld ?_
  rotate_left
  · intro W hSW; have hSW0 := hSW; go_simp; first | done | with_reducible rfl
  (try simp only [Act.put, List.setIfInBounds_toArray, List.set_cons_zero, List.set_cons_succ])
  refine wpAnyH_take (i := 1) (oi := ⟨some 63, _, _, _, _, _⟩) (v := ?_) rfl (by kernel_rfl) (by kernel_rfl) (by kernel_rfl) (fun _ _ _ h => h) (Or.inl ⟨by rfl, ?_⟩) hHeld ?_
  rotate_left
  · intro W hSW; have hSW0 := hSW; go_simp; first | done | with_reducible rfl
  (try simp only [Act.put, List.setIfInBounds_toArray, List.set_cons_zero, List.set_cons_succ])
  refine wpAnyH_take (i := 3) (oi := ⟨some 65, _, _, _, _, _⟩) (v := ?_) rfl (by kernel_rfl) (by kernel_rfl) (by kernel_rfl) (fun _ _ _ h => h) (Or.inl ⟨by rfl, ?_⟩) hHeld ?_
  rotate_left
  · intro W hSW; have hSW0 := hSW; go_simp; first | done | with_reducible rfl
  (try simp only [Act.put, List.setIfInBounds_toArray, List.set_cons_zero, List.set_cons_succ])
  refine wpAnyH_take (i := 4) (oi := ⟨some 66, _, _, _, _, _⟩) (v := ?_) rfl (by kernel_rfl) (by kernel_rfl) (by kernel_rfl) (fun _ _ _ h => h) (Or.inl ⟨by rfl, ?_⟩) hHeld ?_
  rotate_left
  · intro W hSW; have hSW0 := hSW; go_simp; first | done | with_reducible rfl
  (try simp only [Act.put, List.setIfInBounds_toArray, List.set_cons_zero, List.set_cons_succ])
  refine wpAnyH_take (i := 6) (oi := ⟨some 68, _, _, _, _, _⟩) (v := ?_) rfl (by kernel_rfl) (by kernel_rfl) (by kernel_rfl) (fun _ _ _ h => h) (Or.inl ⟨by rfl, ?_⟩) hHeld ?_
  rotate_left
  · intro W hSW; have hSW0 := hSW; go_simp; first | done | with_reducible rfl
  (try simp only [Act.put, List.setIfInBounds_toArray, List.set_cons_zero, List.set_cons_succ])
  refine wpAnyH_take (i := 7) (oi := ⟨some 69, _, _, _, _, _⟩) (v := ?_) rfl (by kernel_rfl) (by kernel_rfl) (by kernel_rfl) (fun _ _ _ h => h) (Or.inl ⟨by rfl, ?_⟩) hHeld ?_
  rotate_left
  · intro W hSW; have hSW0 := hSW; go_simp; first | done | with_reducible rfl
  (try simp only [Act.put, List.setIfInBounds_toArray, List.set_cons_zero, List.set_cons_succ])
  refine wpAnyH_ready (rs := [2, 10]) (by kernel_rfl) (by simp) ?_
  refine AllReadyH.cons (o := ⟨some 64, _, _, _, _, _⟩) rfl (fun K hK => ?_) (AllReadyH.cons (o := ⟨some 7, _, _, _, _, _⟩) rfl (fun K hK => ?_) (AllReadyH.nil))
  · go_simp
    refine (CVx.out _ b4').mono ?_
    rintro e W1 ⟨rfl, rfl⟩
    clear hHeld
    refine hK.out _ _ ?_ (fun hHeld => ?_)
    · trivial
    clear hK K
    (try simp only [Act.put, List.setIfInBounds_toArray, List.set_cons_zero, List.set_cons_succ])
    refine wpAnyH_ready (rs := [5, 10]) (by kernel_rfl) (by simp) ?_
    refine AllReadyH.cons (o := ⟨some 67, _, _, _, _, _⟩) rfl (fun K hK => ?_) (AllReadyH.cons (o := ⟨some 7, _, _, _, _, _⟩) rfl (fun K hK => ?_) (AllReadyH.nil))
    · go_simp
      refine (CLx.out _ b4').mono ?_
      rintro e W1 ⟨rfl, rfl⟩
      clear hHeld
      refine hK.out _ _ ?_ (fun hHeld => ?_)
      · trivial
      clear hK K
      (try simp only [Act.put, List.setIfInBounds_toArray, List.set_cons_zero, List.set_cons_succ])
      refine wpAnyH_ready (rs := [8, 10]) (by kernel_rfl) (by simp) ?_
      refine AllReadyH.cons (o := ⟨some 70, _, _, _, _, _⟩) rfl (fun K hK => ?_) (AllReadyH.cons (o := ⟨some 7, _, _, _, _, _⟩) rfl (fun K hK => ?_) (AllReadyH.nil))
      · go_simp
        refine (CSx.out _ b4').mono ?_
        rintro e W1 ⟨rfl, rfl⟩
        clear hHeld
        refine hK.out _ _ ?_ (fun hHeld => ?_)
        · trivial
        clear hK K
        (try simp only [Act.put, List.setIfInBounds_toArray, List.set_cons_zero, List.set_cons_succ])
        refine wpAnyH_take (i := 9) (oi := ⟨some 71, _, _, _, _, _⟩) (v := ?_) rfl (by kernel_rfl) (by kernel_rfl) (by kernel_rfl) (fun _ _ _ h => h) (Or.inl ⟨by rfl, ?_⟩) hHeld ?_
        rotate_left
        · intro W hSW; have hSW0 := hSW; go_simp; first | done | with_reducible rfl
        (try simp only [Act.put, List.setIfInBounds_toArray, List.set_cons_zero, List.set_cons_succ])
        refine wpAnyH_ready (rs := [10]) (by kernel_rfl) (by simp) ?_
        refine AllReadyH.cons (o := ⟨some 7, _, _, _, _, _⟩) rfl (fun K hK => ?_) (AllReadyH.nil)
        refine step_alloc (by rfl) 25 (by rfl) _ zeroR ?_
        intro wA LA
        clear hHeld
        have bA := Below.then_ b4' LA.bel
        refine hK.out _ _ ?_ (fun hHeld => ?_)
        · trivial
        clear hK K
        (try simp only [Act.put, List.setIfInBounds_toArray, List.set_cons_zero, List.set_cons_succ])
        refine wpAnyH_ready (rs := [11]) (by kernel_rfl) (by simp) ?_
        refine AllReadyH.cons (o := ⟨none, _, _, _, _, _⟩) rfl (fun K hK => ?_) (AllReadyH.nil)
        refine step_store (by rfl) 25 _ _ (by rfl) w4.heap.size (RV 1 sq ve le (.slice none 0 0) 0 0) (by rfl) (by rfl) 25 _ LA.row (infoR _ _ _ _ _ _ _) rfl (RV_all _ _ _ _ _ _ _ _ _) ?_
        intro w7 H7
        clear hHeld
        refine hK.out _ _ ?_ (fun hHeld => ?_)
        · trivial
        clear hK K
        (try simp only [Act.put, List.setIfInBounds_toArray, List.set_cons_zero, List.set_cons_succ])
        refine wpAnyH_done (by kernel_rfl) ?_ _
        refine NoPanic.normal ?_
        clear hHeld
        have b47 : Below w4.heap.size w4 w7 := LA.bel.trans (H7.below (Nat.le_refl _))
        have bw7 : Below w3.heap.size w3 w7 := Below.then_ b4' b47
        have p7 : Blk w7 w4.heap.size 25 (RV 1 sq ve le (.slice none 0 0) 0 0) := H7.row
        have q7 := q4.after b47
        have bel7 := Below.then_ bel4 b47
        have HGW : Hid (g ≠ w4.heap.size) := by unfold Hid; have := q4.lt; omega
        have CP := Lib.hid (CPx.out w7 bw7)
        have RL := Lib.hid (HL3.out.below bw7)
        obtain ⟨g7, hg7⟩ : ∃ g7, g7 = w4.heap.size := ⟨_, rfl⟩
        have HG7 : Hid (w.heap.size ≤ g7) := by unfold Hid; have := bel4.size; omega
        have HG73 : Hid (w3.heap.size ≤ g7) := by unfold Hid; have := b4'.size; omega
        have HB7 : Hid (b4 ≠ g7) := by unfold Hid; have := HBL.out; have := b4'.size; omega
        rw [← hg7] at p7 HGW ⊢
        have c73 : w7.cell? ⟨g7, 3, none⟩ = some (.int .i64 (le : Int)) := (p7.cell 3).trans rfl
        clear LA H7 b47 bA q4 bel4 hg7 CVx CLx CSx CPx
        have CB := Lib.hid (fun W => rbitsC le W (by omega))
        obtain ⟨Bn, hBn⟩ : ∃ Bn, Bn = 8 * (le + 4) + 6 := ⟨_, rfl⟩
        rw [← hBn] at CB
        have e3 : ((Bn : Int) + 7) / 8 = (le : Int) + 5 := by omega
        have HBN := Lib.hid hBn
        have hBn1 : 38 ≤ Bn := by omega
        have hBn2 : Bn ≤ 8 * (le + 4) + 6 := by omega
        clear hBn
        have hB3 : 48 + Bn ≤ n3 := by rw [HN3.out]; omega
        have hB4 : 48 + Bn ≤ c3 := by omega
        have f7 : (48 : Int) + (Bn : Int) ≤ (c3 : Int) := by omega
        have f8 : (c3 = 48) = False := by simp; omega
        have HE4 : Hid ((48 + (Bn : Int)).toNat - 48 = Bn) := by unfold Hid; omega
        have HE5 : Hid (48 + Bn - 48 = Bn) := by unfold Hid; omega
        have HE6 : Hid ((48 + (Bn : Int) - 48).toNat = Bn) := by unfold Hid; omega
        go_upto_region 28 with (first | (go_at_call 48; refine CP.out.mono ?_; rintro e w' ⟨rfl, rfl⟩) | (go_at_call 37; refine (CB.out _).mono ?_; rintro e w' ⟨rfl, rfl⟩))
        go_upto_region 29 with (first | (go_at_call 37; refine (CB.out _).mono ?_; rintro e w' ⟨rfl, rfl⟩) | (refine at_cell rfl 22 _ _ rfl g7 4 (.slice (some ⟨b4, off4 + 48, none⟩) ((48 + (Bn : Int)).toNat - 48) (c3 - 48)) rfl rfl 25 _ p7 (show 4 < 7 by omega) infoB1 rfl ?_; intro w9 h9; rw [HE4.out] at h9) | (refine at_cell rfl 22 _ _ rfl g7 4 (.slice (some ⟨b4, off4 + 48, none⟩) (48 + Bn - 48) (c3 - 48)) rfl rfl 25 _ p7 (show 4 < 7 by omega) infoB1 rfl ?_; intro w9 h9; rw [HE5.out] at h9) | (refine at_cell rfl 22 _ _ rfl g7 4 (.slice (some ⟨b4, off4 + 48, none⟩) (48 + (Bn : Int) - 48).toNat (c3 - 48)) rfl rfl 25 _ p7 (show 4 < 7 by omega) infoB1 rfl ?_; intro w9 h9; rw [HE6.out] at h9))
        have p9 : Blk w9 g7 25 (RV 1 sq ve le (.slice (some ⟨b4, off4 + 48, none⟩) Bn (c3 - 48)) 0 0) := h9.row
        have q9 := h9.blk q7 HGW.out
        have bel9 := bel7.trans (h9.below HG7.out)
        have R9 := RL.out.below (h9.below HG73.out)
        have c93 : w9.cell? ⟨g7, 3, none⟩ = some (.int .i64 (le : Int)) := (p9.cell 3).trans rfl
        clear h9 p7 q7 c73 CP RL rd3 own3
        go_wp2_with (go_at_call 37; refine (CB.out _).mono ?_; rintro e w' ⟨rfl, rfl⟩)
        go_loop [9] (fun i => ∃ k : Nat, 48 + Bn ≤ k ∧ k ≤ n3 ∧ i = .int .i64 (k : Int) ∧ Hid (∀ j, 48 + Bn ≤ j → j < k → (Bm.ofBytes bs).getD j 0 = 0)) (fun i => n3 - (intOf i).toNat)
        case atStart => exact ⟨48 + Bn, Nat.le_refl _, hB3, by go_num, fun j h1 h2 => absurd h2 (by omega)⟩
        case round =>
          obtain ⟨k, hk1, hk2, rfl, HZ⟩ := hrel
          by_cases hlt : k < n3
          · obtain ⟨b5, off5, e5, hlt5, hcell⟩ := R9.cell8 k hlt
            cases e5
            have hx2 := Bm.byte_lt (Bm.ofBytes bs) (bit256 (Bm.ofBytes_bit bs)) k
            obtain ⟨y, hye⟩ : ∃ y, y = (Bm.ofBytes bs).getD k 0 := ⟨_, rfl⟩
            rw [← hye] at hx2 hcell
            have HX := Lib.hid hye
            clear hye
            by_cases h1 : y = 0
            · have ty : ((y : Int) != 0) = false := by simp [h1]
              have HZ0 := Lib.hid h1
              clear h1
              go_wp2
              go_round
              case rel => exact ⟨k + 1, by omega, by omega, by go_num, fun j h1 h2 => by
                by_cases hj : j = k
                · rw [hj, ← HX.out, HZ0.out]
                · exact HZ.out j h1 (by omega)⟩
              case measure => simp [intOf] <;> omega
            · have ty : ((y : Int) != 0) = true := by simp [h1]
              go_wp2_with (refine at_store rfl 25 _ _ rfl g (RV 0 0 0 0 (.slice none 0 0) 0 0) rfl rfl 25 _ q9 (infoR _ _ _ _ _ _ _) rfl (RV_all _ _ _ _ _ _ _ _ _) ?_; intro w8 H8)
              refine bodyPost_ret (v := .tuple #[.agg (RV 0 0 0 0 (.slice none 0 0) 0 0), .int .i64 5]) (results_row_tmp rfl _ _ g 25 _ _ rfl _ rfl H8.row Tryd.underlying25 rfl (infoR _ _ _ _ _ _ _)) rfl ?_
              exact ⟨rfl, bel9.trans (H8.below HG.out)⟩
          · exfalso
            obtain ⟨j, h1, h2, h3⟩ := HPD.out
            exact h3 (HZ.out j (by have := HBN.out; omega) (by rw [Bm.ofBytes_length, ← HR.out.len8] at h2; have := HN3.out; omega))
      · refine step_alloc (by rfl) 25 (by rfl) _ zeroR ?_
        intro wA LA
        clear hHeld
        have bA := Below.then_ b4' LA.bel
        refine hK.out _ _ ?_ (fun hHeld => ?_)
        · trivial
        clear hK K
        (try simp only [Act.put, List.setIfInBounds_toArray, List.set_cons_zero, List.set_cons_succ])
        refine wpAnyH_ready (rs := [8]) (by kernel_rfl) (by simp) ?_
        refine AllReadyH.cons (o := ⟨some 70, _, _, _, _, _⟩) rfl (fun K hK => ?_) (AllReadyH.nil)
        go_simp
        refine (CSx.out _ bA).mono ?_
        rintro e W1 ⟨rfl, rfl⟩
        clear hHeld
        refine hK.out _ _ ?_ (fun hHeld => ?_)
        · trivial
        clear hK K
        (try simp only [Act.put, List.setIfInBounds_toArray, List.set_cons_zero, List.set_cons_succ])
        refine wpAnyH_take (i := 9) (oi := ⟨some 71, _, _, _, _, _⟩) (v := ?_) rfl (by kernel_rfl) (by kernel_rfl) (by kernel_rfl) (fun _ _ _ h => h) (Or.inl ⟨by rfl, ?_⟩) hHeld ?_
        rotate_left
        · intro W hSW; have hSW0 := hSW; go_simp; first | done | with_reducible rfl
        (try simp only [Act.put, List.setIfInBounds_toArray, List.set_cons_zero, List.set_cons_succ])
        refine wpAnyH_ready (rs := [11]) (by kernel_rfl) (by simp) ?_
        refine AllReadyH.cons (o := ⟨none, _, _, _, _, _⟩) rfl (fun K hK => ?_) (AllReadyH.nil)
        refine step_store (by rfl) 25 _ _ (by rfl) w4.heap.size (RV 1 sq ve le (.slice none 0 0) 0 0) (by rfl) (by rfl) 25 _ LA.row (infoR _ _ _ _ _ _ _) rfl (RV_all _ _ _ _ _ _ _ _ _) ?_
        intro w7 H7
        clear hHeld
        refine hK.out _ _ ?_ (fun hHeld => ?_)
        · trivial
        clear hK K
        (try simp only [Act.put, List.setIfInBounds_toArray, List.set_cons_zero, List.set_cons_succ])
        refine wpAnyH_done (by kernel_rfl) ?_ _
        refine NoPanic.normal ?_
        clear hHeld
        have b47 : Below w4.heap.size w4 w7 := LA.bel.trans (H7.below (Nat.le_refl _))
        have bw7 : Below w3.heap.size w3 w7 := Below.then_ b4' b47
        have p7 : Blk w7 w4.heap.size 25 (RV 1 sq ve le (.slice none 0 0) 0 0) := H7.row
        have q7 := q4.after b47
        have bel7 := Below.then_ bel4 b47
        have HGW : Hid (g ≠ w4.heap.size) := by unfold Hid; have := q4.lt; omega
        have CP := Lib.hid (CPx.out w7 bw7)
        have RL := Lib.hid (HL3.out.below bw7)
        obtain ⟨g7, hg7⟩ : ∃ g7, g7 = w4.heap.size := ⟨_, rfl⟩
        have HG7 : Hid (w.heap.size ≤ g7) := by unfold Hid; have := bel4.size; omega
        have HG73 : Hid (w3.heap.size ≤ g7) := by unfold Hid; have := b4'.size; omega
        have HB7 : Hid (b4 ≠ g7) := by unfold Hid; have := HBL.out; have := b4'.size; omega
        rw [← hg7] at p7 HGW ⊢
        have c73 : w7.cell? ⟨g7, 3, none⟩ = some (.int .i64 (le : Int)) := (p7.cell 3).trans rfl
        clear LA H7 b47 bA q4 bel4 hg7 CVx CLx CSx CPx
        have CB := Lib.hid (fun W => rbitsC le W (by omega))
        obtain ⟨Bn, hBn⟩ : ∃ Bn, Bn = 8 * (le + 4) + 6 := ⟨_, rfl⟩
        rw [← hBn] at CB
        have e3 : ((Bn : Int) + 7) / 8 = (le : Int) + 5 := by omega
        have HBN := Lib.hid hBn
        have hBn1 : 38 ≤ Bn := by omega
        have hBn2 : Bn ≤ 8 * (le + 4) + 6 := by omega
        clear hBn
        have hB3 : 48 + Bn ≤ n3 := by rw [HN3.out]; omega
        have hB4 : 48 + Bn ≤ c3 := by omega
        have f7 : (48 : Int) + (Bn : Int) ≤ (c3 : Int) := by omega
        have f8 : (c3 = 48) = False := by simp; omega
        have HE4 : Hid ((48 + (Bn : Int)).toNat - 48 = Bn) := by unfold Hid; omega
        have HE5 : Hid (48 + Bn - 48 = Bn) := by unfold Hid; omega
        have HE6 : Hid ((48 + (Bn : Int) - 48).toNat = Bn) := by unfold Hid; omega
        go_upto_region 28 with (first | (go_at_call 48; refine CP.out.mono ?_; rintro e w' ⟨rfl, rfl⟩) | (go_at_call 37; refine (CB.out _).mono ?_; rintro e w' ⟨rfl, rfl⟩))
        go_upto_region 29 with (first | (go_at_call 37; refine (CB.out _).mono ?_; rintro e w' ⟨rfl, rfl⟩) | (refine at_cell rfl 22 _ _ rfl g7 4 (.slice (some ⟨b4, off4 + 48, none⟩) ((48 + (Bn : Int)).toNat - 48) (c3 - 48)) rfl rfl 25 _ p7 (show 4 < 7 by omega) infoB1 rfl ?_; intro w9 h9; rw [HE4.out] at h9) | (refine at_cell rfl 22 _ _ rfl g7 4 (.slice (some ⟨b4, off4 + 48, none⟩) (48 + Bn - 48) (c3 - 48)) rfl rfl 25 _ p7 (show 4 < 7 by omega) infoB1 rfl ?_; intro w9 h9; rw [HE5.out] at h9) | (refine at_cell rfl 22 _ _ rfl g7 4 (.slice (some ⟨b4, off4 + 48, none⟩) (48 + (Bn : Int) - 48).toNat (c3 - 48)) rfl rfl 25 _ p7 (show 4 < 7 by omega) infoB1 rfl ?_; intro w9 h9; rw [HE6.out] at h9))
        have p9 : Blk w9 g7 25 (RV 1 sq ve le (.slice (some ⟨b4, off4 + 48, none⟩) Bn (c3 - 48)) 0 0) := h9.row
        have q9 := h9.blk q7 HGW.out
        have bel9 := bel7.trans (h9.below HG7.out)
        have R9 := RL.out.below (h9.below HG73.out)
        have c93 : w9.cell? ⟨g7, 3, none⟩ = some (.int .i64 (le : Int)) := (p9.cell 3).trans rfl
        clear h9 p7 q7 c73 CP RL rd3 own3
        go_wp2_with (go_at_call 37; refine (CB.out _).mono ?_; rintro e w' ⟨rfl, rfl⟩)
        go_loop [9] (fun i => ∃ k : Nat, 48 + Bn ≤ k ∧ k ≤ n3 ∧ i = .int .i64 (k : Int) ∧ Hid (∀ j, 48 + Bn ≤ j → j < k → (Bm.ofBytes bs).getD j 0 = 0)) (fun i => n3 - (intOf i).toNat)
        case atStart => exact ⟨48 + Bn, Nat.le_refl _, hB3, by go_num, fun j h1 h2 => absurd h2 (by omega)⟩
        case round =>
          obtain ⟨k, hk1, hk2, rfl, HZ⟩ := hrel
          by_cases hlt : k < n3
          · obtain ⟨b5, off5, e5, hlt5, hcell⟩ := R9.cell8 k hlt
            cases e5
            have hx2 := Bm.byte_lt (Bm.ofBytes bs) (bit256 (Bm.ofBytes_bit bs)) k
            obtain ⟨y, hye⟩ : ∃ y, y = (Bm.ofBytes bs).getD k 0 := ⟨_, rfl⟩
            rw [← hye] at hx2 hcell
            have HX := Lib.hid hye
            clear hye
            by_cases h1 : y = 0
            · have ty : ((y : Int) != 0) = false := by simp [h1]
              have HZ0 := Lib.hid h1
              clear h1
              go_wp2
              go_round
              case rel => exact ⟨k + 1, by omega, by omega, by go_num, fun j h1 h2 => by
                by_cases hj : j = k
                · rw [hj, ← HX.out, HZ0.out]
                · exact HZ.out j h1 (by omega)⟩
              case measure => simp [intOf] <;> omega
            · have ty : ((y : Int) != 0) = true := by simp [h1]
              go_wp2_with (refine at_store rfl 25 _ _ rfl g (RV 0 0 0 0 (.slice none 0 0) 0 0) rfl rfl 25 _ q9 (infoR _ _ _ _ _ _ _) rfl (RV_all _ _ _ _ _ _ _ _ _) ?_; intro w8 H8)
              refine bodyPost_ret (v := .tuple #[.agg (RV 0 0 0 0 (.slice none 0 0) 0 0), .int .i64 5]) (results_row_tmp rfl _ _ g 25 _ _ rfl _ rfl H8.row Tryd.underlying25 rfl (infoR _ _ _ _ _ _ _)) rfl ?_
              exact ⟨rfl, bel9.trans (H8.below HG.out)⟩
          · exfalso
            obtain ⟨j, h1, h2, h3⟩ := HPD.out
            exact h3 (HZ.out j (by have := HBN.out; omega) (by rw [Bm.ofBytes_length, ← HR.out.len8] at h2; have := HN3.out; omega))
    · refine step_alloc (by rfl) 25 (by rfl) _ zeroR ?_
      intro wA LA
      clear hHeld
      have bA := Below.then_ b4' LA.bel
      refine hK.out _ _ ?_ (fun hHeld => ?_)
      · trivial
      clear hK K
      (try simp only [Act.put, List.setIfInBounds_toArray, List.set_cons_zero, List.set_cons_succ])
      refine wpAnyH_ready (rs := [5]) (by kernel_rfl) (by simp) ?_
      refine AllReadyH.cons (o := ⟨some 67, _, _, _, _, _⟩) rfl (fun K hK => ?_) (AllReadyH.nil)
      go_simp
      refine (CLx.out _ bA).mono ?_
      rintro e W1 ⟨rfl, rfl⟩
      clear hHeld
      refine hK.out _ _ ?_ (fun hHeld => ?_)
      · trivial
      clear hK K
      (try simp only [Act.put, List.setIfInBounds_toArray, List.set_cons_zero, List.set_cons_succ])
      refine wpAnyH_ready (rs := [8]) (by kernel_rfl) (by simp) ?_
      refine AllReadyH.cons (o := ⟨some 70, _, _, _, _, _⟩) rfl (fun K hK => ?_) (AllReadyH.nil)
      go_simp
      refine (CSx.out _ bA).mono ?_
      rintro e W1 ⟨rfl, rfl⟩
      clear hHeld
      refine hK.out _ _ ?_ (fun hHeld => ?_)
      · trivial
      clear hK K
      (try simp only [Act.put, List.setIfInBounds_toArray, List.set_cons_zero, List.set_cons_succ])
      refine wpAnyH_take (i := 9) (oi := ⟨some 71, _, _, _, _, _⟩) (v := ?_) rfl (by kernel_rfl) (by kernel_rfl) (by kernel_rfl) (fun _ _ _ h => h) (Or.inl ⟨by rfl, ?_⟩) hHeld ?_
      rotate_left
      · intro W hSW; have hSW0 := hSW; go_simp; first | done | with_reducible rfl
      (try simp only [Act.put, List.setIfInBounds_toArray, List.set_cons_zero, List.set_cons_succ])
      refine wpAnyH_ready (rs := [11]) (by kernel_rfl) (by simp) ?_
      refine AllReadyH.cons (o := ⟨none, _, _, _, _, _⟩) rfl (fun K hK => ?_) (AllReadyH.nil)
      refine step_store (by rfl) 25 _ _ (by rfl) w4.heap.size (RV 1 sq ve le (.slice none 0 0) 0 0) (by rfl) (by rfl) 25 _ LA.row (infoR _ _ _ _ _ _ _) rfl (RV_all _ _ _ _ _ _ _ _ _) ?_
      intro w7 H7
      clear hHeld
      refine hK.out _ _ ?_ (fun hHeld => ?_)
      · trivial
      clear hK K
      (try simp only [Act.put, List.setIfInBounds_toArray, List.set_cons_zero, List.set_cons_succ])
      refine wpAnyH_done (by kernel_rfl) ?_ _
      refine NoPanic.normal ?_
      clear hHeld
      have b47 : Below w4.heap.size w4 w7 := LA.bel.trans (H7.below (Nat.le_refl _))
      have bw7 : Below w3.heap.size w3 w7 := Below.then_ b4' b47
      have p7 : Blk w7 w4.heap.size 25 (RV 1 sq ve le (.slice none 0 0) 0 0) := H7.row
      have q7 := q4.after b47
      have bel7 := Below.then_ bel4 b47
      have HGW : Hid (g ≠ w4.heap.size) := by unfold Hid; have := q4.lt; omega
      have CP := Lib.hid (CPx.out w7 bw7)
      have RL := Lib.hid (HL3.out.below bw7)
      obtain ⟨g7, hg7⟩ : ∃ g7, g7 = w4.heap.size := ⟨_, rfl⟩
      have HG7 : Hid (w.heap.size ≤ g7) := by unfold Hid; have := bel4.size; omega
      have HG73 : Hid (w3.heap.size ≤ g7) := by unfold Hid; have := b4'.size; omega
      have HB7 : Hid (b4 ≠ g7) := by unfold Hid; have := HBL.out; have := b4'.size; omega
      rw [← hg7] at p7 HGW ⊢
      have c73 : w7.cell? ⟨g7, 3, none⟩ = some (.int .i64 (le : Int)) := (p7.cell 3).trans rfl
      clear LA H7 b47 bA q4 bel4 hg7 CVx CLx CSx CPx
      have CB := Lib.hid (fun W => rbitsC le W (by omega))
      obtain ⟨Bn, hBn⟩ : ∃ Bn, Bn = 8 * (le + 4) + 6 := ⟨_, rfl⟩
      rw [← hBn] at CB
      have e3 : ((Bn : Int) + 7) / 8 = (le : Int) + 5 := by omega
      have HBN := Lib.hid hBn
      have hBn1 : 38 ≤ Bn := by omega
      have hBn2 : Bn ≤ 8 * (le + 4) + 6 := by omega
      clear hBn
      have hB3 : 48 + Bn ≤ n3 := by rw [HN3.out]; omega
      have hB4 : 48 + Bn ≤ c3 := by omega
      have f7 : (48 : Int) + (Bn : Int) ≤ (c3 : Int) := by omega
      have f8 : (c3 = 48) = False := by simp; omega
      have HE4 : Hid ((48 + (Bn : Int)).toNat - 48 = Bn) := by unfold Hid; omega
      have HE5 : Hid (48 + Bn - 48 = Bn) := by unfold Hid; omega
      have HE6 : Hid ((48 + (Bn : Int) - 48).toNat = Bn) := by unfold Hid; omega
      go_upto_region 28 with (first | (go_at_call 48; refine CP.out.mono ?_; rintro e w' ⟨rfl, rfl⟩) | (go_at_call 37; refine (CB.out _).mono ?_; rintro e w' ⟨rfl, rfl⟩))
      go_upto_region 29 with (first | (go_at_call 37; refine (CB.out _).mono ?_; rintro e w' ⟨rfl, rfl⟩) | (refine at_cell rfl 22 _ _ rfl g7 4 (.slice (some ⟨b4, off4 + 48, none⟩) ((48 + (Bn : Int)).toNat - 48) (c3 - 48)) rfl rfl 25 _ p7 (show 4 < 7 by omega) infoB1 rfl ?_; intro w9 h9; rw [HE4.out] at h9) | (refine at_cell rfl 22 _ _ rfl g7 4 (.slice (some ⟨b4, off4 + 48, none⟩) (48 + Bn - 48) (c3 - 48)) rfl rfl 25 _ p7 (show 4 < 7 by omega) infoB1 rfl ?_; intro w9 h9; rw [HE5.out] at h9) | (refine at_cell rfl 22 _ _ rfl g7 4 (.slice (some ⟨b4, off4 + 48, none⟩) (48 + (Bn : Int) - 48).toNat (c3 - 48)) rfl rfl 25 _ p7 (show 4 < 7 by omega) infoB1 rfl ?_; intro w9 h9; rw [HE6.out] at h9))
      have p9 : Blk w9 g7 25 (RV 1 sq ve le (.slice (some ⟨b4, off4 + 48, none⟩) Bn (c3 - 48)) 0 0) := h9.row
      have q9 := h9.blk q7 HGW.out
      have bel9 := bel7.trans (h9.below HG7.out)
      have R9 := RL.out.below (h9.below HG73.out)
      have c93 : w9.cell? ⟨g7, 3, none⟩ = some (.int .i64 (le : Int)) := (p9.cell 3).trans rfl
      clear h9 p7 q7 c73 CP RL rd3 own3
      go_wp2_with (go_at_call 37; refine (CB.out _).mono ?_; rintro e w' ⟨rfl, rfl⟩)
      go_loop [9] (fun i => ∃ k : Nat, 48 + Bn ≤ k ∧ k ≤ n3 ∧ i = .int .i64 (k : Int) ∧ Hid (∀ j, 48 + Bn ≤ j → j < k → (Bm.ofBytes bs).getD j 0 = 0)) (fun i => n3 - (intOf i).toNat)
      case atStart => exact ⟨48 + Bn, Nat.le_refl _, hB3, by go_num, fun j h1 h2 => absurd h2 (by omega)⟩
      case round =>
        obtain ⟨k, hk1, hk2, rfl, HZ⟩ := hrel
        by_cases hlt : k < n3
        · obtain ⟨b5, off5, e5, hlt5, hcell⟩ := R9.cell8 k hlt
          cases e5
          have hx2 := Bm.byte_lt (Bm.ofBytes bs) (bit256 (Bm.ofBytes_bit bs)) k
          obtain ⟨y, hye⟩ : ∃ y, y = (Bm.ofBytes bs).getD k 0 := ⟨_, rfl⟩
          rw [← hye] at hx2 hcell
          have HX := Lib.hid hye
          clear hye
          by_cases h1 : y = 0
          · have ty : ((y : Int) != 0) = false := by simp [h1]
            have HZ0 := Lib.hid h1
            clear h1
            go_wp2
            go_round
            case rel => exact ⟨k + 1, by omega, by omega, by go_num, fun j h1 h2 => by
              by_cases hj : j = k
              · rw [hj, ← HX.out, HZ0.out]
              · exact HZ.out j h1 (by omega)⟩
            case measure => simp [intOf] <;> omega
          · have ty : ((y : Int) != 0) = true := by simp [h1]
            go_wp2_with (refine at_store rfl 25 _ _ rfl g (RV 0 0 0 0 (.slice none 0 0) 0 0) rfl rfl 25 _ q9 (infoR _ _ _ _ _ _ _) rfl (RV_all _ _ _ _ _ _ _ _ _) ?_; intro w8 H8)
            refine bodyPost_ret (v := .tuple #[.agg (RV 0 0 0 0 (.slice none 0 0) 0 0), .int .i64 5]) (results_row_tmp rfl _ _ g 25 _ _ rfl _ rfl H8.row Tryd.underlying25 rfl (infoR _ _ _ _ _ _ _)) rfl ?_
            exact ⟨rfl, bel9.trans (H8.below HG.out)⟩
        · exfalso
          obtain ⟨j, h1, h2, h3⟩ := HPD.out
          exact h3 (HZ.out j (by have := HBN.out; omega) (by rw [Bm.ofBytes_length, ← HR.out.len8] at h2; have := HN3.out; omega))
  · refine step_alloc (by rfl) 25 (by rfl) _ zeroR ?_
    intro wA LA
    clear hHeld
    have bA := Below.then_ b4' LA.bel
    refine hK.out _ _ ?_ (fun hHeld => ?_)
    · trivial
    clear hK K
    (try simp only [Act.put, List.setIfInBounds_toArray, List.set_cons_zero, List.set_cons_succ])
    refine wpAnyH_ready (rs := [2]) (by kernel_rfl) (by simp) ?_
    refine AllReadyH.cons (o := ⟨some 64, _, _, _, _, _⟩) rfl (fun K hK => ?_) (AllReadyH.nil)
    go_simp
    refine (CVx.out _ bA).mono ?_
    rintro e W1 ⟨rfl, rfl⟩
    clear hHeld
    refine hK.out _ _ ?_ (fun hHeld => ?_)
    · trivial
    clear hK K
    (try simp only [Act.put, List.setIfInBounds_toArray, List.set_cons_zero, List.set_cons_succ])
    refine wpAnyH_ready (rs := [5]) (by kernel_rfl) (by simp) ?_
    refine AllReadyH.cons (o := ⟨some 67, _, _, _, _, _⟩) rfl (fun K hK => ?_) (AllReadyH.nil)
    go_simp
    refine (CLx.out _ bA).mono ?_
    rintro e W1 ⟨rfl, rfl⟩
    clear hHeld
    refine hK.out _ _ ?_ (fun hHeld => ?_)
    · trivial
    clear hK K
    (try simp only [Act.put, List.setIfInBounds_toArray, List.set_cons_zero, List.set_cons_succ])
    refine wpAnyH_ready (rs := [8]) (by kernel_rfl) (by simp) ?_
    refine AllReadyH.cons (o := ⟨some 70, _, _, _, _, _⟩) rfl (fun K hK => ?_) (AllReadyH.nil)
    go_simp
    refine (CSx.out _ bA).mono ?_
    rintro e W1 ⟨rfl, rfl⟩
    clear hHeld
    refine hK.out _ _ ?_ (fun hHeld => ?_)
    · trivial
    clear hK K
    (try simp only [Act.put, List.setIfInBounds_toArray, List.set_cons_zero, List.set_cons_succ])
    refine wpAnyH_take (i := 9) (oi := ⟨some 71, _, _, _, _, _⟩) (v := ?_) rfl (by kernel_rfl) (by kernel_rfl) (by kernel_rfl) (fun _ _ _ h => h) (Or.inl ⟨by rfl, ?_⟩) hHeld ?_
    rotate_left
    · intro W hSW; have hSW0 := hSW; go_simp; first | done | with_reducible rfl
    (try simp only [Act.put, List.setIfInBounds_toArray, List.set_cons_zero, List.set_cons_succ])
    refine wpAnyH_ready (rs := [11]) (by kernel_rfl) (by simp) ?_
    refine AllReadyH.cons (o := ⟨none, _, _, _, _, _⟩) rfl (fun K hK => ?_) (AllReadyH.nil)
    refine step_store (by rfl) 25 _ _ (by rfl) w4.heap.size (RV 1 sq ve le (.slice none 0 0) 0 0) (by rfl) (by rfl) 25 _ LA.row (infoR _ _ _ _ _ _ _) rfl (RV_all _ _ _ _ _ _ _ _ _) ?_
    intro w7 H7
    clear hHeld
    refine hK.out _ _ ?_ (fun hHeld => ?_)
    · trivial
    clear hK K
    (try simp only [Act.put, List.setIfInBounds_toArray, List.set_cons_zero, List.set_cons_succ])
    refine wpAnyH_done (by kernel_rfl) ?_ _
    refine NoPanic.normal ?_
    clear hHeld
    have b47 : Below w4.heap.size w4 w7 := LA.bel.trans (H7.below (Nat.le_refl _))
    have bw7 : Below w3.heap.size w3 w7 := Below.then_ b4' b47
    have p7 : Blk w7 w4.heap.size 25 (RV 1 sq ve le (.slice none 0 0) 0 0) := H7.row
    have q7 := q4.after b47
    have bel7 := Below.then_ bel4 b47
    have HGW : Hid (g ≠ w4.heap.size) := by unfold Hid; have := q4.lt; omega
    have CP := Lib.hid (CPx.out w7 bw7)
    have RL := Lib.hid (HL3.out.below bw7)
    obtain ⟨g7, hg7⟩ : ∃ g7, g7 = w4.heap.size := ⟨_, rfl⟩
    have HG7 : Hid (w.heap.size ≤ g7) := by unfold Hid; have := bel4.size; omega
    have HG73 : Hid (w3.heap.size ≤ g7) := by unfold Hid; have := b4'.size; omega
    have HB7 : Hid (b4 ≠ g7) := by unfold Hid; have := HBL.out; have := b4'.size; omega
    rw [← hg7] at p7 HGW ⊢
    have c73 : w7.cell? ⟨g7, 3, none⟩ = some (.int .i64 (le : Int)) := (p7.cell 3).trans rfl
    clear LA H7 b47 bA q4 bel4 hg7 CVx CLx CSx CPx
    have CB := Lib.hid (fun W => rbitsC le W (by omega))
    obtain ⟨Bn, hBn⟩ : ∃ Bn, Bn = 8 * (le + 4) + 6 := ⟨_, rfl⟩
    rw [← hBn] at CB
    have e3 : ((Bn : Int) + 7) / 8 = (le : Int) + 5 := by omega
    have HBN := Lib.hid hBn
    have hBn1 : 38 ≤ Bn := by omega
    have hBn2 : Bn ≤ 8 * (le + 4) + 6 := by omega
    clear hBn
    have hB3 : 48 + Bn ≤ n3 := by rw [HN3.out]; omega
    have hB4 : 48 + Bn ≤ c3 := by omega
    have f7 : (48 : Int) + (Bn : Int) ≤ (c3 : Int) := by omega
    have f8 : (c3 = 48) = False := by simp; omega
    have HE4 : Hid ((48 + (Bn : Int)).toNat - 48 = Bn) := by unfold Hid; omega
    have HE5 : Hid (48 + Bn - 48 = Bn) := by unfold Hid; omega
    have HE6 : Hid ((48 + (Bn : Int) - 48).toNat = Bn) := by unfold Hid; omega
    go_upto_region 28 with (first | (go_at_call 48; refine CP.out.mono ?_; rintro e w' ⟨rfl, rfl⟩) | (go_at_call 37; refine (CB.out _).mono ?_; rintro e w' ⟨rfl, rfl⟩))
    go_upto_region 29 with (first | (go_at_call 37; refine (CB.out _).mono ?_; rintro e w' ⟨rfl, rfl⟩) | (refine at_cell rfl 22 _ _ rfl g7 4 (.slice (some ⟨b4, off4 + 48, none⟩) ((48 + (Bn : Int)).toNat - 48) (c3 - 48)) rfl rfl 25 _ p7 (show 4 < 7 by omega) infoB1 rfl ?_; intro w9 h9; rw [HE4.out] at h9) | (refine at_cell rfl 22 _ _ rfl g7 4 (.slice (some ⟨b4, off4 + 48, none⟩) (48 + Bn - 48) (c3 - 48)) rfl rfl 25 _ p7 (show 4 < 7 by omega) infoB1 rfl ?_; intro w9 h9; rw [HE5.out] at h9) | (refine at_cell rfl 22 _ _ rfl g7 4 (.slice (some ⟨b4, off4 + 48, none⟩) (48 + (Bn : Int) - 48).toNat (c3 - 48)) rfl rfl 25 _ p7 (show 4 < 7 by omega) infoB1 rfl ?_; intro w9 h9; rw [HE6.out] at h9))
    have p9 : Blk w9 g7 25 (RV 1 sq ve le (.slice (some ⟨b4, off4 + 48, none⟩) Bn (c3 - 48)) 0 0) := h9.row
    have q9 := h9.blk q7 HGW.out
    have bel9 := bel7.trans (h9.below HG7.out)
    have R9 := RL.out.below (h9.below HG73.out)
    have c93 : w9.cell? ⟨g7, 3, none⟩ = some (.int .i64 (le : Int)) := (p9.cell 3).trans rfl
    clear h9 p7 q7 c73 CP RL rd3 own3
    go_wp2_with (go_at_call 37; refine (CB.out _).mono ?_; rintro e w' ⟨rfl, rfl⟩)
    go_loop [9] (fun i => ∃ k : Nat, 48 + Bn ≤ k ∧ k ≤ n3 ∧ i = .int .i64 (k : Int) ∧ Hid (∀ j, 48 + Bn ≤ j → j < k → (Bm.ofBytes bs).getD j 0 = 0)) (fun i => n3 - (intOf i).toNat)
    case atStart => exact ⟨48 + Bn, Nat.le_refl _, hB3, by go_num, fun j h1 h2 => absurd h2 (by omega)⟩
    case round =>
      obtain ⟨k, hk1, hk2, rfl, HZ⟩ := hrel
      by_cases hlt : k < n3
      · obtain ⟨b5, off5, e5, hlt5, hcell⟩ := R9.cell8 k hlt
        cases e5
        have hx2 := Bm.byte_lt (Bm.ofBytes bs) (bit256 (Bm.ofBytes_bit bs)) k
        obtain ⟨y, hye⟩ : ∃ y, y = (Bm.ofBytes bs).getD k 0 := ⟨_, rfl⟩
        rw [← hye] at hx2 hcell
        have HX := Lib.hid hye
        clear hye
        by_cases h1 : y = 0
        · have ty : ((y : Int) != 0) = false := by simp [h1]
          have HZ0 := Lib.hid h1
          clear h1
          go_wp2
          go_round
          case rel => exact ⟨k + 1, by omega, by omega, by go_num, fun j h1 h2 => by
            by_cases hj : j = k
            · rw [hj, ← HX.out, HZ0.out]
            · exact HZ.out j h1 (by omega)⟩
          case measure => simp [intOf] <;> omega
        · have ty : ((y : Int) != 0) = true := by simp [h1]
          go_wp2_with (refine at_store rfl 25 _ _ rfl g (RV 0 0 0 0 (.slice none 0 0) 0 0) rfl rfl 25 _ q9 (infoR _ _ _ _ _ _ _) rfl (RV_all _ _ _ _ _ _ _ _ _) ?_; intro w8 H8)
          refine bodyPost_ret (v := .tuple #[.agg (RV 0 0 0 0 (.slice none 0 0) 0 0), .int .i64 5]) (results_row_tmp rfl _ _ g 25 _ _ rfl _ rfl H8.row Tryd.underlying25 rfl (infoR _ _ _ _ _ _ _)) rfl ?_
          exact ⟨rfl, bel9.trans (H8.below HG.out)⟩
      · exfalso
        obtain ⟨j, h1, h2, h3⟩ := HPD.out
        exact h3 (HZ.out j (by have := HBN.out; omega) (by rw [Bm.ofBytes_length, ← HR.out.len8] at h2; have := HN3.out; omega))
end Go.Proofs.YtkmacepodomdmaaDoor
