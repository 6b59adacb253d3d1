/-
  The walk of ViterbiLong.
-/
import Derived.Test.YtlnjealhiikmeabDoorVj
namespace Go.Proofs.YtlnjealhiikmeabDoor
open Go.RowKit
set_option linter.unusedVariables false
set_option linter.unusedSimpArgs false

theorem rb_noughts (N n : Nat) : Cv.rb (List.replicate N (0 : Int)) n 0 0 = List.replicate n 0 := (Cv.rb_best _ n).uniq (Cv.best_noughts N n)
theorem mb_noughts (N n : Nat) : Cv.mb (List.replicate N (0 : Int)) n 0 0 = 0 := by
  rw [← Cv.rb_eq]
  exact Cv.fw_noughts N _ 0 0
theorem noughts_in (N : Nat) : ∀ z ∈ List.replicate N (0 : Int), -31 ≤ z ∧ z ≤ 31 := fun z hz => by have := List.eq_of_mem_replicate hz; omega

set_option maxHeartbeats 600000 in
set_option maxRecDepth 100000 in
/-- ViterbiLong. -/
theorem walkViterbiLong (z : Int) (w : World) (hT : Taps w) :
    Calls Tryd.prog 7 #[.int .i64 z] w fun e w' => e = .returned (.bool true) ∧ Below w.heap.size w w' := by
  obtain ⟨i0, hi0, hz0, hz1, hz2⟩ := info_parts info3
  obtain ⟨u, hu, hu2⟩ := wrap_u64 z
  obtain ⟨m, hm, hm2⟩ : ∃ m : Nat, m < 3 ∧ (u : Int) % 3 = (m : Int) := ⟨u % 3, by omega, by omega⟩
  obtain ⟨n, hn⟩ : ∃ n, 4096 + m = n := ⟨_, rfl⟩
  have en : (4096 : Int) + (m : Int) = (n : Int) := by omega
  obtain ⟨N, hN⟩ : ∃ N, 4 * (n + 6) = N := ⟨_, rfl⟩
  have eN : 4 * ((n : Int) + 6) = (N : Int) := by omega
  have hN2 : N ≤ 16416 := by omega
  have hn2 : n ≤ 4098 := by omega
  have hn3 : 4096 ≤ n := by omega
  have HN := Lib.hid hN
  clear hN
  by_cases h0 : m = 0
  · have hn4 : n ≤ 4096 := by omega
    have t1 : ¬ (4096 : Int) < (n : Int) := by omega
    have HB := Lib.hid (rb_noughts N n)
    have HMB := Lib.hid (mb_noughts N n)
    clear h0 hn
    go_enter Tryd.func7, Tryd.ntmps7
    go_wp2_with (at_make; refine wpList_make_full _ rfl _ _ 22 rfl w.heap.size 3 i0 (.int .i64 0) 1 Tryd.underlying22 hi0 hz0 hz1 .i64 .i64 _ _ N rfl rfl (by first | rfl | omega) (by first | rfl | omega) (by rw [hz2]; omega) (by unfold maxLen; omega) (Nat.le_refl _) ?_; intro w2 hown2 hgrow2)
    have be2 : Below w.heap.size w w2 := (Below.refl _ _).grown hgrow2 (Nat.le_refl _) (fun k h => by cases h)
    have own2 : Own w2 w.heap.size 3 (some ⟨w.heap.size, 0, none⟩) N N (I64 (List.replicate N 0)) := ⟨by rw [made64] at hown2; exact hown2⟩
    have D := Lib.hid (decodeO (some ⟨w.heap.size, 0, none⟩) N n N w.heap.size (List.replicate N 0) w2 w2 own2 (Below.refl _ _) (noughts_in N) HN.out.symm hn4 (hT.after be2))
    rw [HB.out, HMB.out] at D
    clear hown2 hgrow2 hi0 hz0 hz1 hz2 hu hu2 hm2
    refine D.out.mono ?_
    rintro e w3 ⟨A3, n3, c3, rfl, ow3, be3⟩
    have hn3' : n3 = n := by rw [ow3.rd.len8, List.length_replicate]
    subst hn3'
    have b3 := Below.then_ be2 be3
    go_upto_region 7 with (go_at_call 13; refine (decodesC w3 (hT.after b3)).mono ?_; rintro e w4 ⟨rfl, be4⟩)
    have ow4 := ow3.below be4 (Nat.le_refl _)
    have HC := Lib.hid ow4.convO
    have HB4 := Lib.hid (Below.then_ b3 be4)
    obtain ⟨j0, hj0, hj1, hj2, hj3⟩ := info_parts info5
    obtain ⟨wm, hrun, om, gm⟩ := run_make_full (P := Tryd.prog) w4.drew w4.heap.size 25 5 j0 (.int .u8 0) 1 Tryd.underlying25 hj0 hj1 hj2 .i64 .i64 n3 (by rw [hj3]; omega) (by unfold maxLen; omega) (Nat.le_refl _)
    have hrun' : (Instr.makeSlice 25 (.int .i64 (n3 : Int)) (.int .i64 (n3 : Int))).run Tryd.prog w4.drew = .ok (.slice (some ⟨w4.heap.size, 0, none⟩) n3 n3) wm := hrun
    clear hrun
    generalize hs0 : str (List.replicate n3 0) = s0 at *
    have HSZ := Lib.hid hs0
    have HK : Hid (∀ W, Below w4.heap.size w4 W → (Below w4.heap.size w4 W ∧ convO A3 n3 c3 W = .ok (.string s0) W)) := fun W hB => ⟨hB, HC.out W hB⟩
    clear hs0 HC ow3 ow4 be2 be3 be4 b3 own2 D hj0 hj1 hj2 hj3
    have hany := convO_eq
    have hp1 : (s0.toList == s0.toList) = true := by simp
    have hp2 : ((n3 : Int) == (n3 : Int)) = true := by simp
    go_wp2_with fail
    refine wp_region_noPanic ?_
    refine wp_region_held_drew (S := fun W => Below w4.heap.size w4 W ∧ convO A3 n3 c3 W = .ok (.string s0) W) (by kernel_rfl) (HK.out _ (Below.refl _ _).drew) (fun hHeld => ?_)
    refine wpAnyH_take (i := 0) (oi := ⟨some 32, _, _, _, _, _⟩) (v := ?_) rfl (by kernel_rfl) (by kernel_rfl) (by kernel_rfl) (fun _ _ _ h => h) (Or.inl ⟨by rfl, ?_⟩) (by assumption) ?_
    rotate_left
    · intro W hSW; obtain ⟨hSW0, hSW1⟩ := hSW; go_simp; first | done | with_reducible rfl
    (try simp only [Act.put, List.setIfInBounds_toArray, List.set_cons_zero, List.set_cons_succ])
    refine wpAnyH_take (i := 1) (oi := ⟨some 33, _, _, _, _, _⟩) (v := ?_) rfl (by kernel_rfl) (by kernel_rfl) (by kernel_rfl) (fun _ _ _ h => h) (Or.inl ⟨by rfl, ?_⟩) (by assumption) ?_
    rotate_left
    · intro W hSW; obtain ⟨hSW0, hSW1⟩ := hSW; go_simp; first | done | with_reducible rfl
    (try simp only [Act.put, List.setIfInBounds_toArray, List.set_cons_zero, List.set_cons_succ])
    refine wpAnyH_take (i := 2) (oi := ⟨some 34, _, _, _, _, _⟩) (v := ?_) rfl (by kernel_rfl) (by kernel_rfl) (by kernel_rfl) (fun _ _ _ h => h) (Or.inl ⟨by rfl, ?_⟩) (by assumption) ?_
    rotate_left
    · intro W hSW; obtain ⟨hSW0, hSW1⟩ := hSW; go_simp; first | done | with_reducible rfl
    (try simp only [Act.put, List.setIfInBounds_toArray, List.set_cons_zero, List.set_cons_succ])
    refine wpAnyH_take (i := 3) (oi := ⟨some 35, _, _, _, _, _⟩) (v := ?_) rfl (by kernel_rfl) (by kernel_rfl) (by kernel_rfl) (fun _ _ _ h => h) (Or.inl ⟨by rfl, ?_⟩) (by assumption) ?_
    rotate_left
    · intro W hSW; obtain ⟨hSW0, hSW1⟩ := hSW; go_simp; first | done | with_reducible rfl
    (try simp only [Act.put, List.setIfInBounds_toArray, List.set_cons_zero, List.set_cons_succ])
    refine wpAnyH_take (i := 4) (oi := ⟨some 36, _, _, _, _, _⟩) (v := ?_) rfl (by kernel_rfl) (by kernel_rfl) (by kernel_rfl) (fun _ _ _ h => h) (Or.inl ⟨by rfl, ?_⟩) (by assumption) ?_
    rotate_left
    · intro W hSW; obtain ⟨hSW0, hSW1⟩ := hSW; go_simp; first | done | with_reducible rfl
    (try simp only [Act.put, List.setIfInBounds_toArray, List.set_cons_zero, List.set_cons_succ])
    refine wpAnyH_take (i := 5) (oi := ⟨some 37, _, _, _, _, _⟩) (v := ?_) rfl (by kernel_rfl) (by kernel_rfl) (by kernel_rfl) (fun _ _ _ h => h) (Or.inl ⟨by rfl, ?_⟩) (by assumption) ?_
    rotate_left
    · intro W hSW; obtain ⟨hSW0, hSW1⟩ := hSW; go_simp; first | done | with_reducible rfl
    (try simp only [Act.put, List.setIfInBounds_toArray, List.set_cons_zero, List.set_cons_succ])
    refine wpAnyH_take (i := 6) (oi := ⟨some 38, _, _, _, _, _⟩) (v := ?_) rfl (by kernel_rfl) (by kernel_rfl) (by kernel_rfl) (fun _ _ _ h => h) (Or.inl ⟨by rfl, ?_⟩) (by assumption) ?_
    rotate_left
    · intro W hSW; obtain ⟨hSW0, hSW1⟩ := hSW; go_simp; first | done | with_reducible rfl
    (try simp only [Act.put, List.setIfInBounds_toArray, List.set_cons_zero, List.set_cons_succ])
    refine wpAnyH_take (i := 7) (oi := ⟨some 39, _, _, _, _, _⟩) (v := ?_) rfl (by kernel_rfl) (by kernel_rfl) (by kernel_rfl) (fun _ _ _ h => h) (Or.inl ⟨by rfl, ?_⟩) (by assumption) ?_
    rotate_left
    · intro W hSW; obtain ⟨hSW0, hSW1⟩ := hSW; go_simp; first | done | with_reducible rfl
    (try simp only [Act.put, List.setIfInBounds_toArray, List.set_cons_zero, List.set_cons_succ])
    refine wpAnyH_take (i := 8) (oi := ⟨some 40, _, _, _, _, _⟩) (v := ?_) rfl (by kernel_rfl) (by kernel_rfl) (by kernel_rfl) (fun _ _ _ h => h) (Or.inl ⟨by rfl, ?_⟩) (by assumption) ?_
    rotate_left
    · intro W hSW; obtain ⟨hSW0, hSW1⟩ := hSW; go_simp; first | done | with_reducible rfl
    (try simp only [Act.put, List.setIfInBounds_toArray, List.set_cons_zero, List.set_cons_succ])
    refine wpAnyH_take (i := 9) (oi := ⟨some 41, _, _, _, _, _⟩) (v := ?_) rfl (by kernel_rfl) (by kernel_rfl) (by kernel_rfl) (fun _ _ _ h => h) (Or.inl ⟨by rfl, ?_⟩) (by assumption) ?_
    rotate_left
    · intro W hSW; obtain ⟨hSW0, hSW1⟩ := hSW; go_simp; first | done | with_reducible rfl
    (try simp only [Act.put, List.setIfInBounds_toArray, List.set_cons_zero, List.set_cons_succ])
    refine wpAnyH_take (i := 10) (oi := ⟨some 42, _, _, _, _, _⟩) (v := ?_) rfl (by kernel_rfl) (by kernel_rfl) (by kernel_rfl) (fun _ _ _ h => h) (Or.inl ⟨by rfl, ?_⟩) (by assumption) ?_
    rotate_left
    · intro W hSW; obtain ⟨hSW0, hSW1⟩ := hSW; go_simp; first | done | with_reducible rfl
    (try simp only [Act.put, List.setIfInBounds_toArray, List.set_cons_zero, List.set_cons_succ])
    refine wpAnyH_take (i := 11) (oi := ⟨some 43, _, _, _, _, _⟩) (v := ?_) rfl (by kernel_rfl) (by kernel_rfl) (by kernel_rfl) (fun _ _ _ h => h) (Or.inl ⟨by rfl, ?_⟩) (by assumption) ?_
    rotate_left
    · intro W hSW; obtain ⟨hSW0, hSW1⟩ := hSW; go_simp; first | done | with_reducible rfl
    (try simp only [Act.put, List.setIfInBounds_toArray, List.set_cons_zero, List.set_cons_succ])
    refine wpAnyH_take (i := 12) (oi := ⟨some 44, _, _, _, _, _⟩) (v := ?_) rfl (by kernel_rfl) (by kernel_rfl) (by kernel_rfl) (fun _ _ _ h => h) (Or.inl ⟨by rfl, ?_⟩) (by assumption) ?_
    rotate_left
    · intro W hSW; obtain ⟨hSW0, hSW1⟩ := hSW; go_simp; first | done | with_reducible rfl
    (try simp only [Act.put, List.setIfInBounds_toArray, List.set_cons_zero, List.set_cons_succ])
    refine wpAnyH_take (i := 13) (oi := ⟨some 45, _, _, _, _, _⟩) (v := ?_) rfl (by kernel_rfl) (by kernel_rfl) (by kernel_rfl) (fun _ _ _ h => h) (Or.inl ⟨by rfl, ?_⟩) (by assumption) ?_
    rotate_left
    · intro W hSW; obtain ⟨hSW0, hSW1⟩ := hSW; go_simp; first | done | with_reducible rfl
    (try simp only [Act.put, List.setIfInBounds_toArray, List.set_cons_zero, List.set_cons_succ])
    refine wpAnyH_take (i := 14) (oi := ⟨some 46, _, _, _, _, _⟩) (v := ?_) rfl (by kernel_rfl) (by kernel_rfl) (by kernel_rfl) (fun _ _ _ h => h) (Or.inl ⟨by rfl, ?_⟩) (by assumption) ?_
    rotate_left
    · intro W hSW; obtain ⟨hSW0, hSW1⟩ := hSW; go_simp; first | done | with_reducible rfl
    (try simp only [Act.put, List.setIfInBounds_toArray, List.set_cons_zero, List.set_cons_succ])
    refine wpAnyH_take (i := 15) (oi := ⟨some 47, _, _, _, _, _⟩) (v := ?_) rfl (by kernel_rfl) (by kernel_rfl) (by kernel_rfl) (fun _ _ _ h => h) (Or.inl ⟨by rfl, ?_⟩) (by assumption) ?_
    rotate_left
    · intro W hSW; obtain ⟨hSW0, hSW1⟩ := hSW; go_simp; first | done | with_reducible rfl
    (try simp only [Act.put, List.setIfInBounds_toArray, List.set_cons_zero, List.set_cons_succ])
    refine wpAnyH_ready (rs := [16]) (by kernel_rfl) (by simp) ?_
    refine AllReadyH.cons (o := ⟨some 48, _, _, _, _, _⟩) rfl (fun K hK => ?_) AllReadyH.nil
    go_simp
    have bm : Below w4.heap.size w4 wm := (Below.refl _ w4).drew.trans ((Below.refl _ _).grown gm (Nat.le_refl _) (fun k h => by cases h))
    have omm : Own wm w4.heap.size 5 (some ⟨w4.heap.size, 0, none⟩) n3 n3 (U8 (List.replicate n3 0)) := ⟨by rw [made8] at om; exact om⟩
    have hq := omm.convO _ (Below.refl _ _)
    rw [HSZ.out] at hq
    clear hHeld
    refine hK.out _ _ ?_ (fun hHeld => ?_)
    · exact HK.out _ bm
    clear hK K
    (try simp only [Act.put, List.setIfInBounds_toArray, List.set_cons_zero, List.set_cons_succ])
    refine wpAnyH_ready (rs := [17]) (by kernel_rfl) (by simp) ?_
    refine AllReadyH.cons (o := ⟨some 49, _, _, _, _, _⟩) rfl (fun K hK => ?_) AllReadyH.nil
    go_simp
    clear hHeld
    refine hK.out _ _ ?_ (fun hHeld => ?_)
    · exact HK.out _ bm
    clear hK K
    (try simp only [Act.put, List.setIfInBounds_toArray, List.set_cons_zero, List.set_cons_succ])
    refine wpAnyH_take (i := 18) (oi := ⟨some 50, _, _, _, _, _⟩) (v := ?_) rfl (by kernel_rfl) (by kernel_rfl) (by kernel_rfl) (fun _ _ _ h => h) (Or.inl ⟨by rfl, ?_⟩) (by assumption) ?_
    rotate_left
    · intro W hSW; obtain ⟨hSW0, hSW1⟩ := hSW; go_simp; first | done | with_reducible rfl
    (try simp only [Act.put, List.setIfInBounds_toArray, List.set_cons_zero, List.set_cons_succ])
    refine wpAnyH_take (i := 19) (oi := ⟨some 51, _, _, _, _, _⟩) (v := ?_) rfl (by kernel_rfl) (by kernel_rfl) (by kernel_rfl) (fun _ _ _ h => h) (Or.inl ⟨by rfl, ?_⟩) (by assumption) ?_
    rotate_left
    · intro W hSW; obtain ⟨hSW0, hSW1⟩ := hSW; go_simp; first | done | with_reducible rfl
    (try simp only [Act.put, List.setIfInBounds_toArray, List.set_cons_zero, List.set_cons_succ])
    refine wpAnyH_take (i := 20) (oi := ⟨some 2, _, _, _, _, _⟩) (v := ?_) rfl (by kernel_rfl) (by kernel_rfl) (by kernel_rfl) (fun _ _ _ h => h) (Or.inl ⟨by rfl, ?_⟩) (by assumption) ?_
    rotate_left
    · intro W hSW; obtain ⟨hSW0, hSW1⟩ := hSW; go_simp; first | done | with_reducible rfl
    (try simp only [Act.put, List.setIfInBounds_toArray, List.set_cons_zero, List.set_cons_succ])
    refine wpAnyH_done (by kernel_rfl) ?_ _
    refine NoPanic.normal ?_
    go_wp2
    go_ret
    exact ⟨rfl, Below.then_ HB4.out hHeld.1⟩
  · have hn4 : 4096 < n := by omega
    have t1 : (4096 : Int) < (n : Int) := by omega
    have hNN : 16408 < N := by have := HN.out; omega
    clear h0 hn
    go_enter Tryd.func7, Tryd.ntmps7
    go_wp2_with (at_make; refine wpList_make_full _ rfl _ _ 22 rfl w.heap.size 3 i0 (.int .i64 0) 1 Tryd.underlying22 hi0 hz0 hz1 .i64 .i64 _ _ N rfl rfl (by first | rfl | omega) (by first | rfl | omega) (by rw [hz2]; omega) (by unfold maxLen; omega) (Nat.le_refl _) ?_; intro w2 hown2 hgrow2)
    have be2 : Below w.heap.size w w2 := (Below.refl _ _).grown hgrow2 (Nat.le_refl _) (fun k h => by cases h)
    have D := Lib.hid (decodeArg (some ⟨w.heap.size, 0, none⟩) N N w2 (.inr (.inr hNN)) (by omega))
    clear hown2 hgrow2 hi0 hz0 hz1 hz2 hu hu2 hm2
    refine D.out.mono ?_
    rintro e w3 ⟨rfl, rfl⟩
    go_wp2_with (go_at_call 13; refine (decodesC w2 (hT.after be2)).mono ?_; rintro e w4 ⟨rfl, be4⟩)
    go_ret
    exact ⟨rfl, Below.then_ be2 be4⟩
end Go.Proofs.YtlnjealhiikmeabDoor
