/-
  Layer 16: the reference's Write.
-/
import Derived.Test.YtkmacepodomdmaaDoorGl
import Derived.Test.YtkmacepodomdmaaDoorFt
namespace Go.Proofs.YtkmacepodomdmaaDoor
open Go.RowKit
set_option maxRecDepth 100000
set_option linter.unusedVariables false
set_option linter.unusedSimpArgs false

theorem wOutNo {w w1 : World} {bs : List Nat} {er er' : Int} (h : er = er' ∧ bs = []) (bel : Below w.heap.size w w1) : WOut w bs er (.returned (.tuple #[.slice none 0 0, .int .i64 er'])) w1 := by
  obtain ⟨rfl, rfl⟩ := h
  exact ⟨none, 0, 0, rfl, Own.nil _ _ _, bel⟩
theorem ps_data (v l q : Nat) : [(1, 4), (v, 2), (0, 2), (l, 8), (q, 16)].flatMap pw = dataBits v l q := by simp [pw, dataBits]
theorem ps_ack (b m : Nat) : [(2, 4), (0, 4), (b, 16), (m, 32)].flatMap pw = ackBits b m := by simp [pw, ackBits]
set_option maxHeartbeats 2000000 in
set_option maxRecDepth 100000 in
/-- Write. -/
theorem rwriteC (kind : Int) (q : Nat) (ver len : Int) (A : Option Addr) (n c : Nat) (base more : Nat) (body : List Nat) (w : World) (hs : q < 65536) (hr : Rd w w.heap.size A n (U8 body)) (h256 : ∀ b ∈ body, b < 256) (hn : n ≤ 65536) (hb : base < 65536) (hm : more < 4294967296) :
    Calls Tryd.prog 12 #[.agg (RV kind q ver len (.slice A n c) base more)] w (WOut w (WB kind q ver len body base more) (WE kind ver len body)) := by
  obtain ⟨i0, hi0, hz0, hz1, hz2⟩ := info_parts info5
  have HN := Lib.hid hr.len8
  go_enter Tryd.func12, Tryd.ntmps12
  go_upto_region 1 with (refine at_box rfl 25 _ rfl (RV kind q ver len (.slice A n c) base more) rfl ?_; intro w1 L1)
  have p1 := L1.row
  have bel1 := L1.bel
  obtain ⟨g1, hgg⟩ : ∃ g, g = w.heap.size := ⟨_, rfl⟩
  have HG := Lib.hid (show w.heap.size ≤ g1 by omega)
  rw [← hgg] at p1 ⊢
  have c0 : w1.cell? ⟨g1, 0, none⟩ = some (.int .i64 kind) := (p1.cell 0).trans rfl
  have c1 : w1.cell? ⟨g1, 1, none⟩ = some (.int .i64 (q : Int)) := (p1.cell 1).trans rfl
  have c2 : w1.cell? ⟨g1, 2, none⟩ = some (.int .i64 ver) := (p1.cell 2).trans rfl
  have c3 : w1.cell? ⟨g1, 3, none⟩ = some (.int .i64 len) := (p1.cell 3).trans rfl
  have c4 : w1.cell? ⟨g1, 4, none⟩ = some (.slice A n c) := (p1.cell 4).trans rfl
  have c5 : w1.cell? ⟨g1, 5, none⟩ = some (.int .i64 (base : Int)) := (p1.cell 5).trans rfl
  have c6 : w1.cell? ⟨g1, 6, none⟩ = some (.int .u32 (more : Int)) := (p1.cell 6).trans rfl
  have r1 := (hr.below bel1).up bel1.size
  have HB1 := Lib.hid bel1
  have HP1 := Lib.hid p1
  clear L1 hgg hr bel1 p1
  by_cases h1 : kind = 1
  · have e1 : (kind == 1) = true := by simp [h1]
    have HWE : Hid (WE kind ver len body = wE ver len body) := by unfold Hid WE; rw [if_pos h1]
    have HWB : Hid (WB kind q ver len body base more = wB ver len q body) := by unfold Hid WB; rw [if_pos h1]
    clear h1
    have CR := Lib.hid (fun W (h : Below w1.heap.size w1 W) => refRight A n c body W ((r1.below h).up h.size) h256 hn)
    by_cases hv1 : ver < 0
    · have hw : Hid (WE kind ver len body = 5 ∧ WB kind q ver len body base more = []) := by
        have : wE ver len body = 5 := by unfold wE; rw [if_pos (.inl hv1)]
        exact ⟨HWE.out.trans this, by rw [HWB.out]; unfold wB; rw [this]; rfl⟩
      have d1 : decide (ver < 0) = true := by simp; omega
      clear hv1
      go_wp2_with fail
      go_ret2
      exact wOutNo hw.out HB1.out
    have d1 : decide (ver < 0) = false := by simp; omega
    by_cases hv2 : 3 < ver
    · have hw : Hid (WE kind ver len body = 5 ∧ WB kind q ver len body base more = []) := by
        have : wE ver len body = 5 := by unfold wE; rw [if_pos (.inr (.inl hv2))]
        exact ⟨HWE.out.trans this, by rw [HWB.out]; unfold wB; rw [this]; rfl⟩
      have d2 : decide (ver > 3) = true := by simp; omega
      have d2' : decide (3 < ver) = true := by simp; omega
      clear hv1 hv2
      go_wp2_with fail
      go_ret2
      exact wOutNo hw.out HB1.out
    have d2 : decide (ver > 3) = false := by simp; omega
    have d2' : decide (3 < ver) = false := by simp; omega
    cases hB : Bm.isB body with
    | false =>
      have hw : Hid (WE kind ver len body = 5 ∧ WB kind q ver len body base more = []) := by
        have : wE ver len body = 5 := by unfold wE; rw [if_pos (.inr (.inr hB))]
        exact ⟨HWE.out.trans this, by rw [HWB.out]; unfold wB; rw [this]; rfl⟩
      rw [hB] at CR
      clear hv1 hv2 hB
      go_wp2_with (go_at_call 36; refine (CR.out _ (Below.refl _ _)).mono ?_; rintro e w' ⟨rfl, rfl⟩)
      go_ret2
      exact wOutNo hw.out HB1.out
    | true =>
      rw [hB] at CR
      have hbit := Bm.isB_true hB
      by_cases hl1 : len < 0
      · have hw : Hid (WE kind ver len body = 7 ∧ WB kind q ver len body base more = []) := by
          have : wE ver len body = 7 := by unfold wE; rw [if_neg (by rw [hB]; simp; omega), if_pos (by omega)]
          exact ⟨HWE.out.trans this, by rw [HWB.out]; unfold wB; rw [this]; rfl⟩
        have d3 : decide (len < 0) = true := by simp; omega
        clear hv1 hv2 hB hl1
        go_wp2_with (go_at_call 36; refine (CR.out _ (Below.refl _ _)).mono ?_; rintro e w' ⟨rfl, rfl⟩)
        go_ret2
        exact wOutNo hw.out HB1.out
      have d3 : decide (len < 0) = false := by simp; omega
      by_cases hl2 : 64 < len
      · have hw : Hid (WE kind ver len body = 7 ∧ WB kind q ver len body base more = []) := by
          have : wE ver len body = 7 := by unfold wE; rw [if_neg (by rw [hB]; simp; omega), if_pos (by omega)]
          exact ⟨HWE.out.trans this, by rw [HWB.out]; unfold wB; rw [this]; rfl⟩
        have d4 : decide (len > 64) = true := by simp; omega
        have d4' : decide (64 < len) = true := by simp; omega
        clear hv1 hv2 hB hl1 hl2
        go_wp2_with (go_at_call 36; refine (CR.out _ (Below.refl _ _)).mono ?_; rintro e w' ⟨rfl, rfl⟩)
        go_ret2
        exact wOutNo hw.out HB1.out
      have d4 : decide (len > 64) = false := by simp; omega
      have d4' : decide (64 < len) = false := by simp; omega
      obtain ⟨le, rfl⟩ : ∃ le : Nat, len = (le : Int) := ⟨len.toNat, by omega⟩
      obtain ⟨ve, rfl⟩ : ∃ ve : Nat, ver = (ve : Int) := ⟨ver.toNat, by omega⟩
      have hle : le ≤ 64 := by omega
      have hve : ve < 4 := by omega
      have CB := Lib.hid (fun W => (rbitsC le W (by omega)).mono (R' := fun e w' => e = .returned (.int .i64 ((8 * (le + 4) + 6 : Nat) : Int)) ∧ w' = W) fun e w' h => ⟨h.1, h.2.symm⟩)
      obtain ⟨T, hT⟩ : ∃ T, T = 8 * (le + 4) + 6 := ⟨_, rfl⟩
      rw [← hT] at CB
      have hfb : fb (le : Int) = (T : Int) := by unfold fb; rw [if_pos (by omega)]; omega
      by_cases hnl : n = T
      · have hw0 : wE (ve : Int) (le : Int) body = 0 := by
          unfold wE
          rw [if_neg (by rw [hB]; simp; omega), if_neg (by omega), if_neg (by rw [hfb, ← HN.out, hnl]; simp)]
        have hw : Hid (WE kind ve le body = 0 ∧ WB kind q ve le body base more = Crc.seal16 (Bm.toBytes (dataBits ve le q)) ++ Bm.toBytes body) := by
          refine ⟨HWE.out.trans hw0, ?_⟩
          rw [HWB.out]; unfold wB; rw [if_pos hw0]; rfl
        have dn : ((n : Int) != (T : Int)) = false := by simp; omega
        have HTL := Lib.hid hT
        clear hv1 hv2 hB hl1 hl2 hfb hw0 hT hnl
        go_upto_region 7 with (go_at_call 36; refine (CR.out _ (Below.refl _ _)).mono ?_; rintro e w' ⟨rfl, rfl⟩)
        go_big_quiet (first | (go_at_call 37; refine Calls.quiet_of_same (CB.out _)))
        obtain ⟨w2, hw2⟩ : ∃ w2, w2 = w1.drewN nq := ⟨_, rfl⟩
        have b12 : Below w1.heap.size w1 w2 := by rw [hw2]; exact below_drawn _
        rw [← hw2]
        clear hw2
        have k0 : w2.cell? ⟨g1, 2, none⟩ = some (.int .i64 (ve : Int)) := ((HP1.out.after b12).cell 2).trans rfl
        have k3 : w2.cell? ⟨g1, 3, none⟩ = some (.int .i64 (le : Int)) := ((HP1.out.after b12).cell 3).trans rfl
        have k1 : w2.cell? ⟨g1, 1, none⟩ = some (.int .i64 (q : Int)) := ((HP1.out.after b12).cell 1).trans rfl
        clear c0 c1 c2 c3 c4 c5 c6
        have CPT : Hid (∀ W : World, Calls Tryd.prog 39 #[.slice (some ⟨W.heap.size, 0, none⟩) 5 5] (W.alloc (.cells #[.int .i64 1, .int .i64 4, .int .i64 (ve : Int), .int .i64 2, .int .i64 0, .int .i64 2, .int .i64 (le : Int), .int .i64 8, .int .i64 (q : Int), .int .i64 16] 72)) (Made (W.alloc (.cells #[.int .i64 1, .int .i64 4, .int .i64 (ve : Int), .int .i64 2, .int .i64 0, .int .i64 2, .int .i64 (le : Int), .int .i64 8, .int .i64 (q : Int), .int .i64 16] 72)) (dataBits ve le q))) := by
          intro W
          rw [← ps_data ve le q]
          refine rputC W.heap.size 5 5 [(1, 4), (ve, 2), (0, 2), (le, 8), (q, 16)] _ rfl (by omega) (by simp) (fun j u hu => ?_) (fun p hp => ?_)
          · exact ((laid_alloc W 72 #[.int .i64 1, .int .i64 4, .int .i64 (ve : Int), .int .i64 2, .int .i64 0, .int .i64 2, .int .i64 (le : Int), .int .i64 8, .int .i64 (q : Int), .int .i64 16]).row.cell j).trans (by rw [← Array.getElem?_toList]; exact hu)
          · simp only [List.mem_cons, List.not_mem_nil, or_false] at hp
            rcases hp with rfl | rfl | rfl | rfl | rfl
            · exact ⟨by omega, by omega, by decide⟩
            · exact ⟨by omega, by omega, hve⟩
            · exact ⟨by omega, by omega, by decide⟩
            · exact ⟨by omega, by omega, show le < 256 by omega⟩
            · exact ⟨by omega, by omega, hs⟩
        have HDL : Hid ((Bm.toBytes (dataBits ve le q)).length = 4) := by unfold Hid; rw [Bm.toBytes_length, dataBits_length]
        have HD256 := Lib.hid (toBytes256 _ (dataBits_bit ve le q))
        have CBY0 := Lib.hid (fun (A : Option Addr) (n c : Nat) (W : World) (h : Rd W W.heap.size A n (U8 (dataBits ve le q))) => refBytes A n c _ W h (dataBits_bit ve le q) (by rw [h.len8, dataBits_length]; omega))
        have HSL : Hid ((Crc.seal16 (Bm.toBytes (dataBits ve le q))).length = 6) := by unfold Hid; rw [Crc.seal16_length, HDL.out]
        generalize dataBits ve le q = DB at *
        generalize Bm.toBytes DB = hd at *
        go_upto_region 10 with (first
          | (go_at_call 39; refine (CPT.out w2).mono ?_; rintro e w4 ⟨A4, n4, c4, rfl, own4, b4⟩)
          | (go_at_call 38; refine (CBY0.out _ _ _ _ own4.rd).mono ?_; rintro e w3 ⟨A3, n3, c3, rfl, own3, b3⟩))
        have ba : Below w2.heap.size w2 (w2.alloc (.cells #[.int .i64 1, .int .i64 4, .int .i64 (ve : Int), .int .i64 2, .int .i64 0, .int .i64 2, .int .i64 (le : Int), .int .i64 8, .int .i64 (q : Int), .int .i64 16] 72)) := (Below.refl _ _).alloc (Nat.le_refl _) _
        have b13 : Below w1.heap.size w1 w3 := Below.then_ b12 (Below.then_ ba (Below.then_ b4 b3))
        have q3 := HP1.out.after b13
        have hg1 := q3.lt
        have k4 : w3.cell? ⟨g1, 4, none⟩ = some (.slice A n c) := (q3.cell 4).trans rfl
        have r3 := (r1.below b13).up b13.size
        have CSL := Lib.hid (fun (W : World) (h : Below w3.heap.size w3 W) => refSeal16 A3 n3 c3 hd W (own3.rdOf h) HD256.out own3.none_ (by have := own3.rd.len8; rw [HDL.out] at this; omega))
        have CBY := Lib.hid (fun (W : World) (h : Below w3.heap.size w3 W) => refBytes A n c body W ((r3.below h).up h.size) hbit hn)
        have HB3 := Lib.hid (HB1.out.trans (b13.mono HB1.out.size))
        clear CPT CBY0 own4 b4 b3 ba b12 b13 q3 own3 k0 k1 k3 r3 CR CB
        refine wp_region_noPanic ?_
        have s0 : w3.drew.cell? ⟨g1, 4, none⟩ = some (.slice A n c) := k4
        refine wp_region_held_drew (S := fun W => W.cell? ⟨g1, 4, none⟩ = some (.slice A n c)) (by kernel_rfl) s0 (fun hHeld => ?_)
        clear s0
        refine wpAnyH_take (i := 0) (oi := ⟨some 52, _, _, _, _, _⟩) (v := ?_) rfl (by kernel_rfl) (by kernel_rfl) (by kernel_rfl) (fun _ _ _ h => h) (Or.inl ⟨by rfl, ?_⟩) hHeld ?_
        rotate_left
        · intro W hSW; have hSW0 := hSW; go_simp; first | done | with_reducible rfl
        (try simp only [Act.put, List.setIfInBounds_toArray, List.set_cons_zero, List.set_cons_succ])
        refine wpAnyH_take (i := 2) (oi := ⟨some 54, _, _, _, _, _⟩) (v := ?_) rfl (by kernel_rfl) (by kernel_rfl) (by kernel_rfl) (fun _ _ _ h => h) (Or.inl ⟨by rfl, ?_⟩) hHeld ?_
        rotate_left
        · intro W hSW; have hSW0 := hSW; go_simp; first | done | with_reducible rfl
        (try simp only [Act.put, List.setIfInBounds_toArray, List.set_cons_zero, List.set_cons_succ])
        refine wpAnyH_take (i := 3) (oi := ⟨some 55, _, _, _, _, _⟩) (v := ?_) rfl (by kernel_rfl) (by kernel_rfl) (by kernel_rfl) (fun _ _ _ h => h) (Or.inl ⟨by rfl, ?_⟩) hHeld ?_
        rotate_left
        · intro W hSW; have hSW0 := hSW; go_simp; first | done | with_reducible rfl
        (try simp only [Act.put, List.setIfInBounds_toArray, List.set_cons_zero, List.set_cons_succ])
        refine wpAnyH_ready (rs := [1]) (by kernel_rfl) (by simp) ?_
        refine AllReadyH.cons (o := ⟨some 53, _, _, _, _, _⟩) rfl (fun K hK => ?_) (AllReadyH.nil)
        go_simp
        go_at_call 40
        refine (CSL.out w3.drew ((Below.refl w3.heap.size w3).drew)).mono ?_
        rintro e x1 ⟨A5, n5, c5, rfl, own5, h1⟩
        have bS1 : Below w3.heap.size w3 x1 := Below.then_ ((Below.refl w3.heap.size w3).drew) h1
        have hn5 : n5 ≤ 100 := by have := own5.rd.len8; rw [HSL.out] at this; omega
        clear hHeld
        refine hK.out _ _ ?_ (fun hHeld => ?_)
        · exact (bS1.cell (p := ⟨g1, 4, none⟩) hg1).trans k4
        clear hK K
        (try simp only [Act.put, List.setIfInBounds_toArray, List.set_cons_zero, List.set_cons_succ])
        refine wpAnyH_ready (rs := [4]) (by kernel_rfl) (by simp) ?_
        refine AllReadyH.cons (o := ⟨some 56, _, _, _, _, _⟩) rfl (fun K hK => ?_) (AllReadyH.nil)
        go_simp
        go_at_call 38
        refine (CBY.out x1 bS1).mono ?_
        rintro e x2 ⟨A6, n6, c6, rfl, own6, h2⟩
        have bS2 : Below w3.heap.size w3 x2 := Below.then_ bS1 h2
        have hn6 : n6 ≤ 20000 := by have := own6.rd.len8; rw [Bm.toBytes_length] at this; have := HN.out; omega
        clear hHeld
        refine hK.out _ _ ?_ (fun hHeld => ?_)
        · exact (bS2.cell (p := ⟨g1, 4, none⟩) hg1).trans k4
        clear hK K
        (try simp only [Act.put, List.setIfInBounds_toArray, List.set_cons_zero, List.set_cons_succ])
        refine wpAnyH_ready (rs := [5]) (by kernel_rfl) (by simp) ?_
        refine AllReadyH.cons (o := ⟨some 57, _, _, _, _, _⟩) rfl (fun K hK => ?_) (AllReadyH.nil)
        refine step_app (by rfl) _ _ 22 (by rfl) w3.heap.size 5 i0 _ 1 Tryd.underlying22 hi0 hz0 hz1 hz2 rfl A5 n5 c5 (U8 (Crc.seal16 hd)) (by rfl) ((own5.down (Nat.le_refl _)).below h2 (Nat.le_refl _)) x2.heap.size A6 n6 c6 (U8 (Bm.toBytes body)) (by rfl) own6.rd own6.none_ (U8_one _) (by omega) (by unfold maxLen; omega) (by have := bS2.size; omega) ?_
        intro A7 c7 x3 own7 g7
        have b7 : Below w3.heap.size w3 x3 := bS2.grown g7 bS2.size (fun j hj => by have := (own5.block j hj).1; exact this)
        clear hHeld
        refine hK.out _ _ ?_ (fun hHeld => ?_)
        · exact (b7.cell (p := ⟨g1, 4, none⟩) hg1).trans k4
        clear hK K
        (try simp only [Act.put, List.setIfInBounds_toArray, List.set_cons_zero, List.set_cons_succ])
        refine wpAnyH_take (i := 6) (oi := ⟨some 2, _, _, _, _, _⟩) (v := ?_) rfl (by kernel_rfl) (by kernel_rfl) (by kernel_rfl) (fun _ _ _ h => h) (Or.inl ⟨by rfl, ?_⟩) hHeld ?_
        rotate_left
        · intro W hSW; have hSW0 := hSW; go_simp; first | done | with_reducible rfl
        (try simp only [Act.put, List.setIfInBounds_toArray, List.set_cons_zero, List.set_cons_succ])
        refine wpAnyH_take (i := 7) (oi := ⟨some 3, _, _, _, _, _⟩) (v := ?_) rfl (by kernel_rfl) (by kernel_rfl) (by kernel_rfl) (fun _ _ _ h => h) (Or.inl ⟨by rfl, ?_⟩) hHeld ?_
        rotate_left
        · intro W hSW; have hSW0 := hSW; go_simp; first | done | with_reducible rfl
        (try simp only [Act.put, List.setIfInBounds_toArray, List.set_cons_zero, List.set_cons_succ])
        refine wpAnyH_done (by kernel_rfl) ?_ _
        refine NoPanic.normal ?_
        clear hHeld
        go_wp2_with fail
        go_ret2
        refine ⟨A7, n5 + n6, c7, by rw [hw.out.1]; rfl, ?_, HB3.out.trans (b7.mono HB3.out.size)⟩
        rw [hw.out.2, U8_append]
        exact own7.down HB3.out.size
      · have hw0 : wE (ve : Int) (le : Int) body = 13 := by
          unfold wE
          rw [if_neg (by rw [hB]; simp; omega), if_neg (by omega), if_pos (by rw [hfb, ← HN.out]; omega)]
        have hw : Hid (WE kind ve le body = 13 ∧ WB kind q ve le body base more = []) := ⟨HWE.out.trans hw0, by rw [HWB.out]; unfold wB; rw [hw0]; rfl⟩
        have dn : ((n : Int) != (T : Int)) = true := by simp; omega
        clear hv1 hv2 hB hl1 hl2 hfb hw0 hT hnl
        go_upto_region 7 with (go_at_call 36; refine (CR.out _ (Below.refl _ _)).mono ?_; rintro e w' ⟨rfl, rfl⟩)
        go_big_quiet (first | (go_at_call 37; refine Calls.quiet_of_same (CB.out _)))
        go_wp2_with fail
        go_ret2
        exact wOutNo hw.out (HB1.out.trans (below_drawn _))
  · have e1 : (kind == 1) = false := by simp; omega
    by_cases h2 : kind = 2
    · have e2 : (kind == 2) = true := by simp [h2]
      have hw : Hid (WE kind ver len body = 0 ∧ WB kind q ver len body base more = Crc.seal16 (Bm.toBytes (ackBits base more))) := by
        refine ⟨?_, ?_⟩
        · unfold WE; rw [if_neg h1, if_pos h2]
        · unfold WB; rw [if_neg h1, if_pos h2]; rfl
      have CPT : Hid (∀ W : World, Calls Tryd.prog 39 #[.slice (some ⟨W.heap.size, 0, none⟩) 4 4] (W.alloc (.cells #[.int .i64 2, .int .i64 4, .int .i64 0, .int .i64 4, .int .i64 (base : Int), .int .i64 16, .int .i64 (more : Int), .int .i64 32] 72)) (Made (W.alloc (.cells #[.int .i64 2, .int .i64 4, .int .i64 0, .int .i64 4, .int .i64 (base : Int), .int .i64 16, .int .i64 (more : Int), .int .i64 32] 72)) (ackBits base more))) := by
        intro W
        rw [← ps_ack base more]
        refine rputC W.heap.size 4 4 [(2, 4), (0, 4), (base, 16), (more, 32)] _ rfl (by omega) (by simp) (fun j u hu => ?_) (fun p hp => ?_)
        · exact ((laid_alloc W 72 #[.int .i64 2, .int .i64 4, .int .i64 0, .int .i64 4, .int .i64 (base : Int), .int .i64 16, .int .i64 (more : Int), .int .i64 32]).row.cell j).trans (by rw [← Array.getElem?_toList]; exact hu)
        · simp only [List.mem_cons, List.not_mem_nil, or_false] at hp
          rcases hp with rfl | rfl | rfl | rfl
          · exact ⟨by omega, by omega, by decide⟩
          · exact ⟨by omega, by omega, by decide⟩
          · exact ⟨by omega, by omega, hb⟩
          · exact ⟨by omega, by omega, hm⟩
      have HDL : Hid ((Bm.toBytes (ackBits base more)).length = 7) := by unfold Hid; rw [Bm.toBytes_length, ackBits_length]
      have HD256 := Lib.hid (toBytes256 _ (ackBits_bit base more))
      have CBY0 := Lib.hid (fun (A : Option Addr) (n c : Nat) (W : World) (h : Rd W W.heap.size A n (U8 (ackBits base more))) => refBytes A n c _ W h (ackBits_bit base more) (by rw [h.len8, ackBits_length]; omega))
      generalize ackBits base more = DB at *
      generalize Bm.toBytes DB = hd at *
      have CSL := Lib.hid (fun (A : Option Addr) (n c : Nat) (W : World) (h : Rd W W.heap.size A n (U8 hd)) (hno : A = none → n = 0 ∧ c = 0) => refSeal16 A n c hd W h HD256.out hno (by rw [h.len8, HDL.out]; omega))
      clear h1 h2
      go_wp2_with (first
        | (go_at_call 39; refine (CPT.out w1).mono ?_; rintro e w4 ⟨A4, n4, c4, rfl, own4, b4⟩)
        | (go_at_call 38; refine (CBY0.out _ _ _ _ own4.rd).mono ?_; rintro e w3 ⟨A3, n3, c3, rfl, own3, b3⟩)
        | (go_at_call 40; refine (CSL.out _ _ _ _ own3.rd own3.none_).mono ?_; rintro e w5 ⟨A5, n5, c5, rfl, own5, b5⟩))
      have ba : Below w1.heap.size w1 (w1.alloc (.cells #[.int .i64 2, .int .i64 4, .int .i64 0, .int .i64 4, .int .i64 (base : Int), .int .i64 16, .int .i64 (more : Int), .int .i64 32] 72)) := (Below.refl _ _).alloc (Nat.le_refl _) _
      have b13 := HB1.out.trans ((Below.then_ ba (Below.then_ b4 b3)).mono HB1.out.size)
      go_ret2
      refine ⟨A5, n5, c5, by rw [hw.out.1]; rfl, ?_, b13.trans (b5.mono b13.size)⟩
      rw [hw.out.2]
      exact own5.down b13.size
    · have e2 : (kind == 2) = false := by simp; omega
      have hw : Hid (WE kind ver len body = 4 ∧ WB kind q ver len body base more = []) := by
        refine ⟨?_, ?_⟩
        · unfold WE; rw [if_neg h1, if_neg h2]
        · unfold WB; rw [if_neg h1, if_neg h2]
      clear h1 h2
      go_wp2_with fail
      go_ret2
      exact wOutNo hw.out HB1.out
end Go.Proofs.YtkmacepodomdmaaDoor
