/-
  The reference's Read: acks.
-/
import Derived.Test.YtkmacepodomdmaaDoorGb
namespace Go.Proofs.YtkmacepodomdmaaDoor
open Go.RowKit
set_option maxRecDepth 100000
set_option linter.unusedVariables false
set_option linter.unusedSimpArgs false

set_option maxHeartbeats 1000000 in
theorem rackField (n c : Nat) (A : Option Addr) (bs : List Nat) (w : World) (hr : Rd w w.heap.size A n (U8 bs)) (hb : ∀ b ∈ bs, b < 256) (hnc : n ≤ c) (hc : c ≤ 9223372036854775807) (hn : n ≤ 120) (hk : bs.getD 0 0 / 16 = 2) (hh : 9 ≤ n) (hok : Crc.ok16 (bs.take 9) = true) (hz : num (((Bm.ofBytes bs).drop 4).take 4) ≠ 0) : Calls Tryd.prog 16 #[.slice A n c] w (RNo 5 w) := by
  have hx := Bm.byte_lt bs hb 0
  go_enter Tryd.func16, Tryd.ntmps16
  go_upto_region 1 with (refine at_alloc rfl 25 rfl _ zeroR ?_; intro w1 L1)
  have q1 := L1.row
  have bel1 := L1.bel
  have r1 := (hr.below bel1).up bel1.size
  obtain ⟨b, off, rfl, hlt2, hcell⟩ := r1.cell8 0 (by omega)
  rw [Nat.add_zero] at hcell
  have rh := r1.cut8 9 hh
  have C := Lib.hid (refRight16 _ 9 c _ w1 rh (fun b hb' => hb b (List.mem_of_mem_take hb')) (by omega) (by omega) hc (rh.conv_hid (fun h => by cases h)))
  rw [hok] at C
  have HR := Lib.hid r1
  have HB := Lib.hid hb
  generalize hxe : bs.getD 0 0 = x at *
  obtain ⟨g, hg⟩ : ∃ g, g = w.heap.size := ⟨_, rfl⟩
  have HG : Hid (w.heap.size ≤ g) := by unfold Hid; omega
  rw [← hg] at q1 ⊢
  have HGL := Lib.hid q1.lt
  clear L1 hg rh r1 hr hok hxe hb
  have e1 : (x : Int) / 16 = 2 := by omega
  clear hk
  go_upto_region 11 with (go_at_call 46; refine C.out.mono ?_; rintro e w2 ⟨rfl, b2⟩)
  have q2 := q1.after b2
  have bel2 := Below.then_ bel1 b2
  have HR2 := Lib.hid ((HR.out.below b2).up b2.size)
  have CO := Lib.hid (r1OfC _ n c bs w2 HR2.out HB.out (by omega))
  go_upto_region 12 with (go_at_call 47; refine CO.out.mono ?_; rintro e w3 ⟨A3, n3, c3, rfl, own3, b3⟩)
  have q3 := q2.after b3
  have bel3 := Below.then_ bel2 b3
  have rd3 := own3.rd
  have hbd := own3.bounds
  have HN3 : Hid (n3 = 8 * n) := by unfold Hid; rw [rd3.len8, Bm.ofBytes_length, ← HR.out.len8]
  have hn3 : 8 * 9 ≤ n3 := by rw [HN3.out]; omega
  have hc3 : n3 ≤ c3 := hbd.1
  have hc4 : c3 ≤ 9223372036854775807 := by have := hbd.2; unfold maxLen at this; omega
  obtain ⟨b4, off4, rfl, hlt4, _⟩ := rd3.at_ (by omega)
  have HL3 := Lib.hid rd3
  have HBL : Hid (b4 < w3.heap.size) := hlt4
  have HBG : Hid (b4 ≠ g) := by
    have h1 := own3.block b4 rfl
    have h2 := HGL.out
    have h3 := b2.size
    unfold Hid
    intro e
    omega
  have CNx : Hid (∀ W, Below w3.heap.size w3 W → ∀ lo k : Nat, lo + k ≤ n3 → k ≤ 40 → Calls Tryd.prog 48 #[.slice (some ⟨b4, off4 + lo, none⟩) k (c3 - lo)] W fun e w' => e = .returned (.int .i64 (num (((Bm.ofBytes bs).drop lo).take k) : Nat)) ∧ W = w') := fun W hW lo k h1 h2 =>
    rnumberC _ k _ _ W (((HL3.out.mid8 lo k h1 (by omega)).below hW).up hW.size) (fun x hx => Bm.ofBytes_bit bs x (List.mem_of_mem_drop (List.mem_of_mem_take hx))) h2
  have C1 := Lib.hid (CNx.out w3 (Below.refl _ _) 4 4 (by omega) (by omega))
  generalize num (((Bm.ofBytes bs).drop 4).take 4) = z at C1 hz
  have tz : ((z : Int) != 0) = true := by simp; omega
  clear CNx
  go_wp2_with (first | (go_at_call 48; refine C1.out.mono ?_; rintro e w' ⟨rfl, rfl⟩) | (refine at_store rfl 25 _ _ rfl g (RV 0 0 0 0 (.slice none 0 0) 0 0) rfl rfl 25 _ q3 (infoR _ _ _ _ _ _ _) rfl (RV_all _ _ _ _ _ _ _ _ _) ?_; intro w8 H8))
  refine bodyPost_ret (v := .tuple #[.agg (RV 0 0 0 0 (.slice none 0 0) 0 0), .int .i64 5]) (results_row_tmp rfl _ _ g 25 _ _ rfl _ rfl H8.row Tryd.underlying25 rfl (infoR _ _ _ _ _ _ _)) rfl ?_
  exact ⟨rfl, bel3.trans (H8.below HG.out)⟩
set_option maxHeartbeats 1000000 in
theorem rackTail (n c : Nat) (A : Option Addr) (bs : List Nat) (w : World) (hr : Rd w w.heap.size A n (U8 bs)) (hb : ∀ b ∈ bs, b < 256) (hnc : n ≤ c) (hc : c ≤ 9223372036854775807) (hn : n ≤ 120) (hk : bs.getD 0 0 / 16 = 2) (hh : 9 ≤ n) (hok : Crc.ok16 (bs.take 9) = true) (hz : num (((Bm.ofBytes bs).drop 4).take 4) = 0) (hl : 9 < n) : Calls Tryd.prog 16 #[.slice A n c] w (RNo 3 w) := by
  have hx := Bm.byte_lt bs hb 0
  go_enter Tryd.func16, Tryd.ntmps16
  go_upto_region 1 with (refine at_alloc rfl 25 rfl _ zeroR ?_; intro w1 L1)
  have q1 := L1.row
  have bel1 := L1.bel
  have r1 := (hr.below bel1).up bel1.size
  obtain ⟨b, off, rfl, hlt2, hcell⟩ := r1.cell8 0 (by omega)
  rw [Nat.add_zero] at hcell
  have rh := r1.cut8 9 hh
  have C := Lib.hid (refRight16 _ 9 c _ w1 rh (fun b hb' => hb b (List.mem_of_mem_take hb')) (by omega) (by omega) hc (rh.conv_hid (fun h => by cases h)))
  rw [hok] at C
  have HR := Lib.hid r1
  have HB := Lib.hid hb
  generalize hxe : bs.getD 0 0 = x at *
  obtain ⟨g, hg⟩ : ∃ g, g = w.heap.size := ⟨_, rfl⟩
  have HG : Hid (w.heap.size ≤ g) := by unfold Hid; omega
  rw [← hg] at q1 ⊢
  have HGL := Lib.hid q1.lt
  clear L1 hg rh r1 hr hok hxe hb
  have e1 : (x : Int) / 16 = 2 := by omega
  clear hk
  go_upto_region 11 with (go_at_call 46; refine C.out.mono ?_; rintro e w2 ⟨rfl, b2⟩)
  have q2 := q1.after b2
  have bel2 := Below.then_ bel1 b2
  have HR2 := Lib.hid ((HR.out.below b2).up b2.size)
  have CO := Lib.hid (r1OfC _ n c bs w2 HR2.out HB.out (by omega))
  go_upto_region 12 with (go_at_call 47; refine CO.out.mono ?_; rintro e w3 ⟨A3, n3, c3, rfl, own3, b3⟩)
  have q3 := q2.after b3
  have bel3 := Below.then_ bel2 b3
  have rd3 := own3.rd
  have hbd := own3.bounds
  have HN3 : Hid (n3 = 8 * n) := by unfold Hid; rw [rd3.len8, Bm.ofBytes_length, ← HR.out.len8]
  have hn3 : 8 * 9 ≤ n3 := by rw [HN3.out]; omega
  have hc3 : n3 ≤ c3 := hbd.1
  have hc4 : c3 ≤ 9223372036854775807 := by have := hbd.2; unfold maxLen at this; omega
  obtain ⟨b4, off4, rfl, hlt4, _⟩ := rd3.at_ (by omega)
  have HL3 := Lib.hid rd3
  have HBL : Hid (b4 < w3.heap.size) := hlt4
  have HBG : Hid (b4 ≠ g) := by
    have h1 := own3.block b4 rfl
    have h2 := HGL.out
    have h3 := b2.size
    unfold Hid
    intro e
    omega
  have CNx : Hid (∀ W, Below w3.heap.size w3 W → ∀ lo k : Nat, lo + k ≤ n3 → k ≤ 40 → Calls Tryd.prog 48 #[.slice (some ⟨b4, off4 + lo, none⟩) k (c3 - lo)] W fun e w' => e = .returned (.int .i64 (num (((Bm.ofBytes bs).drop lo).take k) : Nat)) ∧ W = w') := fun W hW lo k h1 h2 =>
    rnumberC _ k _ _ W (((HL3.out.mid8 lo k h1 (by omega)).below hW).up hW.size) (fun x hx => Bm.ofBytes_bit bs x (List.mem_of_mem_drop (List.mem_of_mem_take hx))) h2
  have C1 := Lib.hid (CNx.out w3 (Below.refl _ _) 4 4 (by omega) (by omega))
  rw [hz] at C1
  clear CNx hz
  go_wp2_with (first | (go_at_call 48; refine C1.out.mono ?_; rintro e w' ⟨rfl, rfl⟩) | (refine at_store rfl 25 _ _ rfl g (RV 0 0 0 0 (.slice none 0 0) 0 0) rfl rfl 25 _ q3 (infoR _ _ _ _ _ _ _) rfl (RV_all _ _ _ _ _ _ _ _ _) ?_; intro w8 H8))
  refine bodyPost_ret (v := .tuple #[.agg (RV 0 0 0 0 (.slice none 0 0) 0 0), .int .i64 3]) (results_row_tmp rfl _ _ g 25 _ _ rfl _ rfl H8.row Tryd.underlying25 rfl (infoR _ _ _ _ _ _ _)) rfl ?_
  exact ⟨rfl, bel3.trans (H8.below HG.out)⟩
set_option maxHeartbeats 1000000 in
theorem rackYes (n c : Nat) (A : Option Addr) (bs : List Nat) (w : World) (hr : Rd w w.heap.size A n (U8 bs)) (hb : ∀ b ∈ bs, b < 256) (hnc : n ≤ c) (hc : c ≤ 9223372036854775807) (hn : n ≤ 120) (hk : bs.getD 0 0 / 16 = 2) (hh : 9 ≤ n) (hok : Crc.ok16 (bs.take 9) = true) (hz : num (((Bm.ofBytes bs).drop 4).take 4) = 0) (hl : ¬ 9 < n) : Calls Tryd.prog 16 #[.slice A n c] w fun e w' => e = .returned (.tuple #[.agg (RV 2 0 0 0 (.slice none 0 0) (num (((Bm.ofBytes bs).drop 8).take 16) : Nat) (num (((Bm.ofBytes bs).drop 24).take 32))), .int .i64 0]) ∧ Below w.heap.size w w' := by
  have hx := Bm.byte_lt bs hb 0
  go_enter Tryd.func16, Tryd.ntmps16
  go_upto_region 1 with (refine at_alloc rfl 25 rfl _ zeroR ?_; intro w1 L1)
  have q1 := L1.row
  have bel1 := L1.bel
  have r1 := (hr.below bel1).up bel1.size
  obtain ⟨b, off, rfl, hlt2, hcell⟩ := r1.cell8 0 (by omega)
  rw [Nat.add_zero] at hcell
  have rh := r1.cut8 9 hh
  have C := Lib.hid (refRight16 _ 9 c _ w1 rh (fun b hb' => hb b (List.mem_of_mem_take hb')) (by omega) (by omega) hc (rh.conv_hid (fun h => by cases h)))
  rw [hok] at C
  have HR := Lib.hid r1
  have HB := Lib.hid hb
  generalize hxe : bs.getD 0 0 = x at *
  obtain ⟨g, hg⟩ : ∃ g, g = w.heap.size := ⟨_, rfl⟩
  have HG : Hid (w.heap.size ≤ g) := by unfold Hid; omega
  rw [← hg] at q1 ⊢
  have HGL := Lib.hid q1.lt
  clear L1 hg rh r1 hr hok hxe hb
  have e1 : (x : Int) / 16 = 2 := by omega
  clear hk
  go_upto_region 11 with (go_at_call 46; refine C.out.mono ?_; rintro e w2 ⟨rfl, b2⟩)
  have q2 := q1.after b2
  have bel2 := Below.then_ bel1 b2
  have HR2 := Lib.hid ((HR.out.below b2).up b2.size)
  have CO := Lib.hid (r1OfC _ n c bs w2 HR2.out HB.out (by omega))
  go_upto_region 12 with (go_at_call 47; refine CO.out.mono ?_; rintro e w3 ⟨A3, n3, c3, rfl, own3, b3⟩)
  have q3 := q2.after b3
  have bel3 := Below.then_ bel2 b3
  have rd3 := own3.rd
  have hbd := own3.bounds
  have HN3 : Hid (n3 = 8 * n) := by unfold Hid; rw [rd3.len8, Bm.ofBytes_length, ← HR.out.len8]
  have hn3 : 8 * 9 ≤ n3 := by rw [HN3.out]; omega
  have hc3 : n3 ≤ c3 := hbd.1
  have hc4 : c3 ≤ 9223372036854775807 := by have := hbd.2; unfold maxLen at this; omega
  obtain ⟨b4, off4, rfl, hlt4, _⟩ := rd3.at_ (by omega)
  have HL3 := Lib.hid rd3
  have HBL : Hid (b4 < w3.heap.size) := hlt4
  have HBG : Hid (b4 ≠ g) := by
    have h1 := own3.block b4 rfl
    have h2 := HGL.out
    have h3 := b2.size
    unfold Hid
    intro e
    omega
  have CNx : Hid (∀ W, Below w3.heap.size w3 W → ∀ lo k : Nat, lo + k ≤ n3 → k ≤ 40 → Calls Tryd.prog 48 #[.slice (some ⟨b4, off4 + lo, none⟩) k (c3 - lo)] W fun e w' => e = .returned (.int .i64 (num (((Bm.ofBytes bs).drop lo).take k) : Nat)) ∧ W = w') := fun W hW lo k h1 h2 =>
    rnumberC _ k _ _ W (((HL3.out.mid8 lo k h1 (by omega)).below hW).up hW.size) (fun x hx => Bm.ofBytes_bit bs x (List.mem_of_mem_drop (List.mem_of_mem_take hx))) h2
  have C1 := Lib.hid (CNx.out w3 (Below.refl _ _) 4 4 (by omega) (by omega))
  rw [hz] at C1
  clear hz
  go_upto_region 17 with (go_at_call 48; refine C1.out.mono ?_; rintro e w' ⟨rfl, rfl⟩)
  obtain ⟨w4, hw4⟩ : ∃ w4, w4 = w3.drew := ⟨_, rfl⟩
  have HW4 := Lib.hid hw4
  clear hw4
  have b4' : Below w3.heap.size w3 w4 := by rw [HW4.out]; exact (Below.refl _ _).drew
  have q4 := q3.after b4'
  have bel4 := Below.then_ bel3 b4'
  have C2 := Lib.hid (CNx.out w4 b4' 8 16 (by omega) (by omega))
  have C3 := Lib.hid (CNx.out w4 b4' 24 32 (by omega) (by omega))
  have hba : num (((Bm.ofBytes bs).drop 8).take 16) < 65536 := num_take_lt _ (fun x hx => Bm.ofBytes_bit bs x (List.mem_of_mem_drop hx)) 16
  have hmo : num (((Bm.ofBytes bs).drop 24).take 32) < 4294967296 := num_take_lt _ (fun x hx => Bm.ofBytes_bit bs x (List.mem_of_mem_drop hx)) 32
  obtain ⟨ba, hba2⟩ : ∃ ba, ba = num (((Bm.ofBytes bs).drop 8).take 16) := ⟨_, rfl⟩
  obtain ⟨mo, hmo2⟩ : ∃ mo, mo = num (((Bm.ofBytes bs).drop 24).take 32) := ⟨_, rfl⟩
  rw [← hba2] at C2 hba
  rw [← hmo2] at C3 hmo
  have HBA := Lib.hid hba2
  have HMO := Lib.hid hmo2
  clear hba2 hmo2
  have e2 : IntKind.u32.wrap (mo : Int) = (mo : Int) := by rw [IntKind.wrap_u32]; omega
  clear CNx
  have f1 : (24 : Int) ≤ (c3 : Int) := by omega
  have f2 : (c3 = 8) = False := by simp; omega
  have f3 : (56 : Int) ≤ (c3 : Int) := by omega
  have f4 : (c3 = 24) = False := by simp; omega
  refine wp_region_noPanic ?_
  refine wp_region_held_drew (S := fun _ => True) (by kernel_rfl) trivial (fun hHeld => ?_)
  rw [← HW4.out]
  refine wpAnyH_take (i := 0) (oi := ⟨some 54, _, _, _, _, _⟩) (v := ?_) rfl (by kernel_rfl) (by kernel_rfl) (by kernel_rfl) (fun _ _ _ h => h) (Or.inl ⟨by rfl, ?_⟩) hHeld ?_
  rotate_left
  · intro W hSW; have hSW0 := hSW; go_simp; first | done | with_reducible rfl
  (try simp only [Act.put, List.setIfInBounds_toArray, List.set_cons_zero, List.set_cons_succ])
  refine wpAnyH_take (i := 1) (oi := ⟨some 55, _, _, _, _, _⟩) (v := ?_) rfl (by kernel_rfl) (by kernel_rfl) (by kernel_rfl) (fun _ _ _ h => h) (Or.inl ⟨by rfl, ?_⟩) hHeld ?_
  rotate_left
  · intro W hSW; have hSW0 := hSW; go_simp; first | done | with_reducible rfl
  (try simp only [Act.put, List.setIfInBounds_toArray, List.set_cons_zero, List.set_cons_succ])
  refine wpAnyH_take (i := 3) (oi := ⟨some 57, _, _, _, _, _⟩) (v := ?_) rfl (by kernel_rfl) (by kernel_rfl) (by kernel_rfl) (fun _ _ _ h => h) (Or.inl ⟨by rfl, ?_⟩) hHeld ?_
  rotate_left
  · intro W hSW; have hSW0 := hSW; go_simp; first | done | with_reducible rfl
  (try simp only [Act.put, List.setIfInBounds_toArray, List.set_cons_zero, List.set_cons_succ])
  refine wpAnyH_take (i := 4) (oi := ⟨some 58, _, _, _, _, _⟩) (v := ?_) rfl (by kernel_rfl) (by kernel_rfl) (by kernel_rfl) (fun _ _ _ h => h) (Or.inl ⟨by rfl, ?_⟩) hHeld ?_
  rotate_left
  · intro W hSW; have hSW0 := hSW; go_simp; first | done | with_reducible rfl
  (try simp only [Act.put, List.setIfInBounds_toArray, List.set_cons_zero, List.set_cons_succ])
  refine wpAnyH_ready (rs := [2]) (by kernel_rfl) (by simp) ?_
  refine AllReadyH.cons (o := ⟨some 56, _, _, _, _, _⟩) rfl (fun K hK => ?_) (AllReadyH.nil)
  go_simp
  refine (C2.out).mono ?_
  rintro e W1 ⟨rfl, rfl⟩
  clear hHeld
  refine hK.out _ _ ?_ (fun hHeld => ?_)
  · trivial
  clear hK K
  (try simp only [Act.put, List.setIfInBounds_toArray, List.set_cons_zero, List.set_cons_succ])
  refine wpAnyH_ready (rs := [5]) (by kernel_rfl) (by simp) ?_
  refine AllReadyH.cons (o := ⟨some 59, _, _, _, _, _⟩) rfl (fun K hK => ?_) (AllReadyH.nil)
  go_simp
  refine (C3.out).mono ?_
  rintro e W1 ⟨rfl, rfl⟩
  clear hHeld
  refine hK.out _ _ ?_ (fun hHeld => ?_)
  · trivial
  clear hK K
  (try simp only [Act.put, List.setIfInBounds_toArray, List.set_cons_zero, List.set_cons_succ])
  refine wpAnyH_take (i := 6) (oi := ⟨some 60, _, _, _, _, _⟩) (v := ?_) rfl (by kernel_rfl) (by kernel_rfl) (by kernel_rfl) (fun _ _ _ h => h) (Or.inl ⟨by rfl, ?_⟩) hHeld ?_
  rotate_left
  · intro W hSW; have hSW0 := hSW; go_simp; first | done | with_reducible rfl
  (try simp only [Act.put, List.setIfInBounds_toArray, List.set_cons_zero, List.set_cons_succ])
  refine wpAnyH_take (i := 7) (oi := ⟨some 61, _, _, _, _, _⟩) (v := ?_) rfl (by kernel_rfl) (by kernel_rfl) (by kernel_rfl) (fun _ _ _ h => h) (Or.inl ⟨by rfl, ?_⟩) hHeld ?_
  rotate_left
  · intro W hSW; have hSW0 := hSW; go_simp; first | done | with_reducible rfl
  (try simp only [Act.put, List.setIfInBounds_toArray, List.set_cons_zero, List.set_cons_succ])
  refine wpAnyH_ready (rs := [8]) (by kernel_rfl) (by simp) ?_
  refine AllReadyH.cons (o := ⟨none, _, _, _, _, _⟩) rfl (fun K hK => ?_) (AllReadyH.nil)
  refine step_store (by rfl) 25 _ _ (by rfl) g (RV 2 0 0 0 (.slice none 0 0) ba mo) (by rfl) (by rfl) 25 _ q4 (infoR _ _ _ _ _ _ _) rfl (RV_all _ _ _ _ _ _ _ _ _) ?_
  intro w7 H7
  clear hHeld
  refine hK.out _ _ ?_ (fun hHeld => ?_)
  · trivial
  clear hK K
  (try simp only [Act.put, List.setIfInBounds_toArray, List.set_cons_zero, List.set_cons_succ])
  refine wpAnyH_take (i := 9) (oi := ⟨some 3, _, _, _, _, _⟩) (v := ?_) rfl (by kernel_rfl) (by kernel_rfl) (by kernel_rfl) (fun _ _ _ h => h) (Or.inl ⟨by rfl, ?_⟩) hHeld ?_
  rotate_left
  · intro W hSW; have hSW0 := hSW; go_simp; first | done | with_reducible rfl
  (try simp only [Act.put, List.setIfInBounds_toArray, List.set_cons_zero, List.set_cons_succ])
  refine wpAnyH_done (by kernel_rfl) ?_ _
  refine NoPanic.normal ?_
  clear hHeld
  go_wp2
  refine bodyPost_ret (v := .tuple #[.agg (RV 2 0 0 0 (.slice none 0 0) ba mo), .int .i64 0]) (results_row_tmp rfl _ _ g 25 _ _ rfl _ rfl H7.row Tryd.underlying25 rfl (infoR _ _ _ _ _ _ _)) rfl ?_
  exact ⟨by rw [HBA.out, HMO.out], bel4.trans (H7.below HG.out)⟩
end Go.Proofs.YtkmacepodomdmaaDoor
