/-
  Contract of layer 9: ends.
-/
import Derived.Test.YtknfpdlomgllhaaDoorVc
namespace Go.Proofs.YtknfpdlomgllhaaDoor
open Go.RowKit
set_option maxRecDepth 100000
set_option linter.unusedVariables false
set_option linter.unusedSimpArgs false

set_option maxHeartbeats 400000 in
set_option maxRecDepth 100000 in
/-- viterbi.ends. -/
theorem endsC (b off c : Nat) (l : List Int) (w : World) (hr : Rd w w.heap.size (some ⟨b, off, none⟩) 24 (I64 l)) (hin : ∀ z ∈ l, -31 ≤ z ∧ z ≤ 31) (hc : 24 ≤ c) (hc2 : c ≤ 9223372036854775807) :
    Calls Tryd.prog 92 #[.agg EA, .slice (some ⟨b, off, none⟩) 24 c] w fun e w' => e = .returned (.agg (IA (en l 6))) ∧ Below w.heap.size w w' := by
  have hl : l.length = 24 := hr.len64.symm
  have HBD := Lib.hid (en_bounds hin hl)
  have HIN := Lib.hid (nums_in hin)
  have iE := Lib.hid infoEA
  have HBY := Lib.hid (fun (A : Option Addr) (c m : Nat) (W : World) (hm : m < 6) (hR : Rd W W.heap.size A 4 (I64 (nums l (5 - m)))) => byC A c 0 (nums l (5 - m)) (en l m) W hR (nums_in hin _) (by omega) (en_length l m) (fun i => by have := en_bounds hin hl m (by omega) i; omega))
  clear hl
  go_enter Tryd.func92, Tryd.ntmps92
  generalize EA = E at *
  go_upto_region 1 with (first | (refine at_box rfl 152 _ rfl E rfl ?_; intro w1 h1) | (refine at_alloc rfl 154 rfl (IA (List.replicate 64 0)) Z64_eq ?_; intro w3 h3))
  go_wp2_with (refine at_alloc rfl 154 rfl (IA (List.replicate 64 0)) Z64_eq ?_; intro w4 h4)
  have e1 : w.heap.size < w1.heap.size := by rw [h1.size]; omega
  have e2 : w1.heap.size < w3.heap.size := by rw [h3.size]; omega
  have k2 := (h1.row.after h3.bel).after h4.bel
  have k4 := h3.row.after h4.bel
  have k5 := h4.row
  have bel := Below.then_ (Below.then_ h1.bel h3.bel) h4.bel
  generalize hg0 : w.heap.size = g2 at *
  have HG := Lib.hid hg0
  generalize w1.heap.size = g4 at *
  generalize w3.heap.size = g5 at *
  clear hg0 h1 h3 h4
  go_loopw [6] (fun i wr => ∃ m : Nat, m ≤ 6 ∧ i = .int .i64 (5 - (m : Int)) ∧ Blk wr g2 152 E ∧ Blk wr g4 154 (IA (List.replicate 64 0)) ∧ Blk wr g5 154 (IA (en l m)) ∧ Below g2 w wr) (fun i _ => (intOf i + 1).toNat)
  case atStart => exact ⟨0, by omega, rfl, k2, k4, k5, bel⟩
  case round =>
    clear k2 k4 k5 bel
    obtain ⟨m, hm, rfl, k2, k4, k5, bel⟩ := hrel
    by_cases hlt : m < 6
    · obtain ⟨t, ht⟩ : ∃ t, 5 - m = t := ⟨_, rfl⟩
      have et : (5 : Int) - (m : Int) = (t : Int) := by omega
      rw [et]
      have d0 : decide ((0 : Int) ≤ (t : Int)) = true := by simp
      have ht5 : t ≤ 5 := by omega
      have CS := Lib.hid (fun W => stepC (some ⟨b, off, none⟩) b off 24 c t W rfl (by omega) hc hc2 (by omega))
      have hRr := (hr.below bel).up (B' := wr.heap.size) (Nat.le_of_lt k2.lt)
      have HRn := Lib.hid (rd_nums hRr t (by omega))
      have CB := Lib.hid (fun (W : World) (hB : Below wr.heap.size wr W) => HBY.out (some ⟨b, off + 4 * t, none⟩) (c - 4 * t) m W hlt (by rw [ht]; exact ((HRn.out).below hB).up hB.size))
      have HNX : Hid (en l (m + 1) = byL (nums l (5 - m)) 0 (en l m)) := rfl
      rw [← HNX.out] at CB
      have iB : Hid ((Tryd.prog.info? 154).map (·.size) = some (IA (en l m)).size) := by unfold Hid; rw [IA_size, en_length]; exact info64
      have iR : Hid ((Tryd.prog.info? 154).map (·.size) = some (IA (en l (m + 1))).size) := by unfold Hid; rw [IA_size, en_length]; exact info64
      have oR := Lib.hid (IA_one (en l (m + 1)))
      have zR : Hid ((IA (en l m)).size = (IA (en l (m + 1))).size) := by unfold Hid; rw [IA_size, IA_size, en_length, en_length]
      generalize hIB : IA (en l m) = IB at *
      generalize hRR : IA (en l (m + 1)) = R at *
      have HRR := Lib.hid hRR
      clear hIB hRR ht
      have hne : g2 ≠ g5 := by omega
      have hne4 : g4 ≠ g5 := by omega
      have HK0 : Hid (Blk wr.drew g2 152 E) := k2.drew
      have HK5 : Hid (Blk wr.drew g5 154 IB) := k5.drew
      have HB0 : Hid (Below wr.heap.size wr wr.drew) := (Below.refl _ _).drew
      have q0 : 4 * t ≤ 20 := by omega
      go_wp2_with fail
      refine wp_region_noPanic ?_
      refine wp_region_held_drew (S := fun W => Blk W g2 152 E) (by kernel_rfl) HK0.out (fun hHeld => ?_)
      refine wpAnyH_take (i := 0) (oi := ⟨some 15, _, _, _, _, _⟩) (v := _) rfl (by kernel_rfl) (by kernel_rfl) (by kernel_rfl) (fun _ _ _ h => h) (yields_row (by rfl) 152 _ (by rfl) g2 (by rfl) 152 E _ (fun W h => h) Tryd.underlying152 rfl iE.out) (by assumption) ?_
      (try simp only [Act.put, List.setIfInBounds_toArray, List.set_cons_zero, List.set_cons_succ])
      refine wpAnyH_take (i := 1) (oi := ⟨some 16, _, _, _, _, _⟩) (v := ?_) rfl (by kernel_rfl) (by kernel_rfl) (by kernel_rfl) (fun _ _ _ h => h) (Or.inl ⟨by rfl, ?_⟩) (by assumption) ?_
      rotate_left
      · intro W hSW; have hSW0 := hSW; go_simp; first | done | with_reducible rfl
      (try simp only [Act.put, List.setIfInBounds_toArray, List.set_cons_zero, List.set_cons_succ])
      refine wpAnyH_take (i := 2) (oi := ⟨some 17, _, _, _, _, _⟩) (v := ?_) rfl (by kernel_rfl) (by kernel_rfl) (by kernel_rfl) (fun _ _ _ h => h) (Or.inl ⟨by rfl, ?_⟩) (by assumption) ?_
      rotate_left
      · intro W hSW; have hSW0 := hSW; go_simp; first | done | with_reducible rfl
      (try simp only [Act.put, List.setIfInBounds_toArray, List.set_cons_zero, List.set_cons_succ])
      refine wpAnyH_ready (rs := [3, 4]) (by kernel_rfl) (by simp) ?_
      refine AllReadyH.cons (o := ⟨some 18, _, _, _, _, _⟩) rfl (fun K hK => ?_) (AllReadyH.cons (o := ⟨some 19, _, _, _, _, _⟩) rfl (fun K hK => ?_) (AllReadyH.nil))
      · go_simp
        refine (CS.out _).mono ?_
        rintro e wb ⟨rfl, rfl⟩
        clear hHeld
        refine hK.out _ _ ?_ (fun hHeld => ?_)
        · exact HK0.out
        clear hK K
        (try simp only [Act.put, List.setIfInBounds_toArray, List.set_cons_zero, List.set_cons_succ])
        refine wpAnyH_ready (rs := [4]) (by kernel_rfl) (by simp) ?_
        refine AllReadyH.cons (o := ⟨some 19, _, _, _, _, _⟩) rfl (fun K hK => ?_) (AllReadyH.nil)
        refine step_load (by rfl) 154 _ (by rfl) g5 (by rfl) 154 IB _ HK5.out Tryd.underlying154 rfl iB.out ?_
        clear hHeld
        refine hK.out _ _ ?_ (fun hHeld => ?_)
        · exact HK0.out
        clear hK K
        (try simp only [Act.put, List.setIfInBounds_toArray, List.set_cons_zero, List.set_cons_succ])
        refine wpAnyH_ready (rs := [5]) (by kernel_rfl) (by simp) ?_
        refine AllReadyH.cons (o := ⟨some 20, _, _, _, _, _⟩) rfl (fun K hK => ?_) (AllReadyH.nil)
        go_simp
        refine (CB.out _ HB0.out).mono ?_
        rintro e wb ⟨rfl, hbb⟩
        clear hHeld
        have n1 := HK0.out.after hbb
        have b1 := HK5.out.after hbb
        have k41 := k4.drew.after hbb
        refine hK.out _ _ ?_ (fun hHeld => ?_)
        · exact n1
        clear hK K
        (try simp only [Act.put, List.setIfInBounds_toArray, List.set_cons_zero, List.set_cons_succ])
        refine wpAnyH_ready (rs := [6]) (by kernel_rfl) (by simp) ?_
        refine AllReadyH.cons (o := ⟨none, _, _, _, _, _⟩) rfl (fun K hK => ?_) (AllReadyH.nil)
        refine step_store (by rfl) 154 _ _ (by rfl) g5 R (by rfl) (by rfl) 154 IB b1 iR.out zR.out oR.out ?_
        intro wd hu
        have n2 := hu.blk n1 hne
        have k42 := hu.blk k41 hne4
        clear hHeld
        refine hK.out _ _ ?_ (fun hHeld => ?_)
        · exact n2
        clear hK K
        (try simp only [Act.put, List.setIfInBounds_toArray, List.set_cons_zero, List.set_cons_succ])
        refine wpAnyH_done (by kernel_rfl) ?_ _
        refine NoPanic.normal ?_
        go_wp2
        go_roundw
        case rel =>
          refine ⟨m + 1, by omega, by go_num, n2, k42, by rw [HRR.out]; exact hu.row, ?_⟩
          exact (bel.trans (Below.drew (Below.refl _ _))).trans ((hbb.mono (Nat.le_of_lt k2.lt)).trans (hu.below (by omega)))
        case measure => simp [intOf] <;> omega
      · refine step_load (by rfl) 154 _ (by rfl) g5 (by rfl) 154 IB _ HK5.out Tryd.underlying154 rfl iB.out ?_
        clear hHeld
        refine hK.out _ _ ?_ (fun hHeld => ?_)
        · exact HK0.out
        clear hK K
        (try simp only [Act.put, List.setIfInBounds_toArray, List.set_cons_zero, List.set_cons_succ])
        refine wpAnyH_ready (rs := [3]) (by kernel_rfl) (by simp) ?_
        refine AllReadyH.cons (o := ⟨some 18, _, _, _, _, _⟩) rfl (fun K hK => ?_) (AllReadyH.nil)
        go_simp
        refine (CS.out _).mono ?_
        rintro e wb ⟨rfl, rfl⟩
        clear hHeld
        refine hK.out _ _ ?_ (fun hHeld => ?_)
        · exact HK0.out
        clear hK K
        (try simp only [Act.put, List.setIfInBounds_toArray, List.set_cons_zero, List.set_cons_succ])
        refine wpAnyH_ready (rs := [5]) (by kernel_rfl) (by simp) ?_
        refine AllReadyH.cons (o := ⟨some 20, _, _, _, _, _⟩) rfl (fun K hK => ?_) (AllReadyH.nil)
        go_simp
        refine (CB.out _ HB0.out).mono ?_
        rintro e wb ⟨rfl, hbb⟩
        clear hHeld
        have n1 := HK0.out.after hbb
        have b1 := HK5.out.after hbb
        have k41 := k4.drew.after hbb
        refine hK.out _ _ ?_ (fun hHeld => ?_)
        · exact n1
        clear hK K
        (try simp only [Act.put, List.setIfInBounds_toArray, List.set_cons_zero, List.set_cons_succ])
        refine wpAnyH_ready (rs := [6]) (by kernel_rfl) (by simp) ?_
        refine AllReadyH.cons (o := ⟨none, _, _, _, _, _⟩) rfl (fun K hK => ?_) (AllReadyH.nil)
        refine step_store (by rfl) 154 _ _ (by rfl) g5 R (by rfl) (by rfl) 154 IB b1 iR.out zR.out oR.out ?_
        intro wd hu
        have n2 := hu.blk n1 hne
        have k42 := hu.blk k41 hne4
        clear hHeld
        refine hK.out _ _ ?_ (fun hHeld => ?_)
        · exact n2
        clear hK K
        (try simp only [Act.put, List.setIfInBounds_toArray, List.set_cons_zero, List.set_cons_succ])
        refine wpAnyH_done (by kernel_rfl) ?_ _
        refine NoPanic.normal ?_
        go_wp2
        go_roundw
        case rel =>
          refine ⟨m + 1, by omega, by go_num, n2, k42, by rw [HRR.out]; exact hu.row, ?_⟩
          exact (bel.trans (Below.drew (Below.refl _ _))).trans ((hbb.mono (Nat.le_of_lt k2.lt)).trans (hu.below (by omega)))
        case measure => simp [intOf] <;> omega
    · obtain rfl : m = 6 := by omega
      have d0 : decide ((0 : Int) ≤ 5 - ((6 : Nat) : Int)) = false := by decide
      have i8 : Hid ((Tryd.prog.info? 154).map (·.size) = some (IA (en l 6)).size) := by unfold Hid; rw [IA_size, en_length]; exact info64
      have o8 := Lib.hid (IA_one (en l 6))
      have z8 : Hid ((IA (List.replicate 64 0)).size = (IA (en l 6)).size) := by unfold Hid; rw [IA_size, IA_size, en_length, List.length_replicate]
      generalize hRR : IA (en l 6) = R at *
      have HRR := Lib.hid hRR
      clear hRR
      generalize IA (List.replicate 64 0) = Z at *
      go_wp2_with (first | (refine at_load rfl 154 _ rfl g5 rfl 154 R _ k5 Tryd.underlying154 rfl i8.out ?_) | (refine at_store rfl 154 _ _ rfl g4 R rfl rfl 154 Z k4 i8.out z8.out o8.out ?_; intro w8 h8))
      refine bodyPost_ret (v := .agg R) (results_row rfl _ _ g4 154 _ _ rfl h8.row Tryd.underlying154 rfl i8.out) rfl ⟨by rw [HRR.out], ?_⟩
      rw [HG.out]
      exact bel.trans (h8.below (by omega))
end Go.Proofs.YtknfpdlomgllhaaDoor
