/-
  slices.Delete, at rows of elements of 3 cells.
-/
import Derived.Test.YtkmacepodomdmaaDk
import Derived.Deep.DeepCutAuto
namespace Go.Proofs.Ytkmacepodomdmaa
open Go.RowKit
set_option maxRecDepth 100000
set_option linter.unusedVariables false
set_option linter.unusedSimpArgs false

theorem chDelInfo : (Try.prog.info? 115).map (·.size) = some 3 := by kernel_rfl
noncomputable def chDelz : Value := ((Try.prog.info? 115).bind (·.zero)).getD undef
theorem chDelZero (w : World) : (zeroValue 115).run Try.prog w = .ok chDelz w := by kernel_rfl
theorem chDelOne : ∀ u ∈ chDelz.cells.toList, u.oneCell' = true := List.all_eq_true.1 (show chDelz.cells.toList.all (·.oneCell') = true by kernel_rfl)
set_option maxHeartbeats 1000000 in
set_option maxRecDepth 100000 in
theorem chDel (w : World) (base : Nat) (A : Option Addr) (n c i j : Nat) (xs : List Value) (h : OwnR w base 115 3 A n c xs) (hij : i ≤ j) (hj : j ≤ n) (h1 : ∀ u ∈ xs, u.oneCell' = true) :
    Calls Try.prog 76 #[.slice A n c, .int .i64 (i : Int), .int .i64 (j : Int)] w fun e w' =>
      e = .returned (.slice A (n - (j - i)) c) ∧ OwnR w' base 115 3 A (n - (j - i)) c (xs.take (i * 3) ++ xs.drop (j * 3)) ∧ w.grownBy w' (blk A) ∧ w'.heap.size = w.heap.size := by
  by_cases heq : i = j
  · subst heq
    have hnn : n - (i - i) = n := by omega
    rw [hnn, List.take_append_drop]
    have HX := Lib.hid h
    have hG : Hid (w.grownBy w (blk A) ∧ w.heap.size = w.heap.size) := ⟨⟨rfl, rfl, rfl, Nat.le_refl _, fun _ _ _ => rfl⟩, rfl⟩
    have dij : ((i : Int) == (i : Int)) = true := by simp
    rcases h.row.2 with ⟨hv, h0⟩ | ⟨g, cap, cur, hv, _, _, hnc, hcm, _, _⟩
    · injection hv with e1 e2 e3
      subst e1 e3
      have hi0 : i = 0 := by omega
      subst h0 hi0
      clear h hij hj hnn
      go_enter Try.func76, Try.ntmps76
      go_wp2
      go_ret
      exact ⟨by first | rfl | (congr 1; omega), HX.out, hG.out.1, rfl⟩
    · injection hv with e1 e2 e3
      subst e1 e3
      have hcm' : c ≤ 9223372036854775807 := by unfold maxLen at hcm; omega
      by_cases hni : n = i
      · subst hni
        clear h hij hj hnn hcm
        go_enter Try.func76, Try.ntmps76
        go_wp2
        go_ret
        exact ⟨by first | rfl | (congr 1; omega), HX.out, hG.out.1, rfl⟩
      · clear h hij hnn hcm
        go_enter Try.func76, Try.ntmps76
        go_wp2
        go_ret
        exact ⟨by first | rfl | (congr 1; omega), HX.out, hG.out.1, rfl⟩
  · have hlt : i < j := by omega
    obtain ⟨g, cur, rfl, hbg, hg, hnc, hcm, hcs, hcx⟩ := h.open_ (by omega)
    obtain ⟨i0, hi0, hsz⟩ : ∃ i0, Try.prog.info? 115 = some i0 ∧ i0.size = 3 := by
      have := chDelInfo
      cases hq : Try.prog.info? 115 with
      | none => rw [hq] at this; cases this
      | some i0 => exact ⟨i0, rfl, by rw [hq] at this; simpa using this⟩
    have hlen := h.row.1
    have HL : Hid ((xs.drop (j * 3)).length = (n - j) * 3) := by unfold Hid; rw [List.length_drop, hlen, Nat.sub_mul]
    have HO1 : Hid (∀ u ∈ xs.drop (j * 3), u.oneCell' = true) := fun u hu => h1 u (List.mem_of_mem_drop hu)
    have HF : Hid (i * 3 + (xs.drop (j * 3)).length ≤ cur.size) := by unfold Hid; rw [HL.out, hcs]; omega
    have hcm' : c ≤ 9223372036854775807 := by unfold maxLen at hcm; omega
    have dij : ((i : Int) == (j : Int)) = false := by simp; omega
    clear h hlen
    go_enter Try.func76, Try.ntmps76
    go_upto_region 5 with fail
    have hic : i ≤ c := by omega
    have hjc : j ≤ c := by omega
    obtain ⟨ad, hA, had⟩ : ∃ ad : Addr, (if c = j then (some ⟨g, 0, none⟩ : Option Addr) else some ⟨g, j * 3, none⟩) = some ad ∧ Hid (c = j ∨ ad = ⟨g, j * 3, none⟩) := by
      by_cases h : c = j
      · exact ⟨⟨g, 0, none⟩, by rw [if_pos h], .inl h⟩
      · exact ⟨⟨g, j * 3, none⟩, by rw [if_neg h], .inr rfl⟩
    have HC : Hid (∀ q u, (xs.drop (j * 3))[q]? = some u → w.drew.cell? (ad.add q) = some u) := fun q u hu => by
      rcases had.out with h | h
      · have hq := (List.getElem?_eq_some_iff.1 hu).1
        rw [HL.out] at hq
        omega
      · rw [h, Addr.add_lit]
        show w.cell? ⟨g, j * 3 + q, none⟩ = some u
        rw [List.getElem?_drop] at hu
        have hq := (List.getElem?_eq_some_iff.1 hu).1
        rw [← hcx, List.getElem?_take] at hu
        split at hu
        · rw [Array.getElem?_toList] at hu
          simpa [World.cell?, hg] using hu
        · cases hu
    refine wp_region_noPanic ?_
    refine wp_region_held_drew (S := fun _ => True) (by kernel_rfl) trivial (fun hHeld => ?_)
    refine wpAnyH_take (i := 0) (oi := ⟨some 20, _, _, _, _, _⟩) (v := ?_) rfl (by kernel_rfl) (by kernel_rfl) (by kernel_rfl) (fun _ _ _ h => h) (Or.inl ⟨by rfl, ?_⟩) hHeld ?_
    rotate_left
    · intro W hSW; have hSW0 := hSW; go_simp; first | done | with_reducible rfl
    (try simp only [Act.put, List.setIfInBounds_toArray, List.set_cons_zero, List.set_cons_succ])
    refine wpAnyH_take (i := 1) (oi := ⟨some 21, _, _, _, _, _⟩) (v := ?_) rfl (by kernel_rfl) (by kernel_rfl) (by kernel_rfl) (fun _ _ _ h => h) (Or.inl ⟨by rfl, ?_⟩) hHeld ?_
    rotate_left
    · intro W hSW; have hSW0 := hSW; go_simp; first | done | with_reducible rfl
    (try simp only [Act.put, List.setIfInBounds_toArray, List.set_cons_zero, List.set_cons_succ])
    refine wpAnyH_take (i := 2) (oi := ⟨some 22, _, _, _, _, _⟩) (v := ?_) rfl (by kernel_rfl) (by kernel_rfl) (by kernel_rfl) (fun _ _ _ h => h) (Or.inl ⟨by rfl, ?_⟩) hHeld ?_
    rotate_left
    · intro W hSW; have hSW0 := hSW; go_simp; first | done | with_reducible rfl
    (try simp only [Act.put, List.setIfInBounds_toArray, List.set_cons_zero, List.set_cons_succ])
    refine wpAnyH_take (i := 3) (oi := ⟨some 23, _, _, _, _, _⟩) (v := ?_) rfl (by kernel_rfl) (by kernel_rfl) (by kernel_rfl) (fun _ _ _ h => h) (Or.inl ⟨by rfl, ?_⟩) hHeld ?_
    rotate_left
    · intro W hSW; have hSW0 := hSW; go_simp; first | done | with_reducible rfl
    (try simp only [Act.put, List.setIfInBounds_toArray, List.set_cons_zero, List.set_cons_succ])
    refine wpAnyH_take (i := 4) (oi := ⟨some 24, _, _, _, _, _⟩) (v := ?_) rfl (by kernel_rfl) (by kernel_rfl) (by kernel_rfl) (fun _ _ _ h => h) (Or.inl ⟨by rfl, ?_⟩) hHeld ?_
    rotate_left
    · intro W hSW; have hSW0 := hSW; go_simp; first | done | with_reducible rfl
    (try simp only [Act.put, List.setIfInBounds_toArray, List.set_cons_zero, List.set_cons_succ])
    refine wpAnyH_take (i := 5) (oi := ⟨some 25, _, _, _, _, _⟩) (v := ?_) rfl (by kernel_rfl) (by kernel_rfl) (by kernel_rfl) (fun _ _ _ h => h) (Or.inl ⟨by rfl, ?_⟩) hHeld ?_
    rotate_left
    · intro W hSW; have hSW0 := hSW; go_simp; first | done | with_reducible rfl
    (try simp only [Act.put, List.setIfInBounds_toArray, List.set_cons_zero, List.set_cons_succ])
    refine wpAnyH_ready (rs := [6]) (by kernel_rfl) (by simp) ?_
    refine AllReadyH.cons (o := ⟨some 26, _, _, _, _, _⟩) rfl (fun K hK => ?_) (AllReadyH.nil)
    refine step_appRoom (by rfl) _ _ 111 (by rfl) 115 i0 3 Try.underlying111 hi0 hsz g i c cur (by exact hg) (by rfl) ad (n - j) _ (xs.drop (j * 3)) (by rfl) HL.out (fun q u hu => HC.out q u hu) HO1.out (by omega) HF.out ?_
    obtain ⟨cur1, hcur1⟩ : ∃ cur1, cur1 = (cur.toList.take (i * 3) ++ xs.drop (j * 3) ++ cur.toList.drop (i * 3 + (xs.drop (j * 3)).length)).toArray := ⟨_, rfl⟩
    rw [← hcur1]
    clear hHeld
    refine hK.out _ _ ?_ (fun hHeld => ?_)
    · trivial
    clear hK K
    (try simp only [Act.put, List.setIfInBounds_toArray, List.set_cons_zero, List.set_cons_succ])
    refine wpAnyH_take (i := 7) (oi := ⟨some 0, _, _, _, _, _⟩) (v := ?_) rfl (by kernel_rfl) (by kernel_rfl) (by kernel_rfl) (fun _ _ _ h => h) (Or.inl ⟨by rfl, ?_⟩) hHeld ?_
    rotate_left
    · intro W hSW; have hSW0 := hSW; go_simp; first | done | with_reducible rfl
    (try simp only [Act.put, List.setIfInBounds_toArray, List.set_cons_zero, List.set_cons_succ])
    refine wpAnyH_done (by kernel_rfl) ?_ _
    refine NoPanic.normal ?_
    clear hHeld
    obtain ⟨m, hm⟩ : ∃ m, m = i + (n - j) := ⟨_, rfl⟩
    rw [← hm]
    have hmn : m < n := by omega
    have hmc : m < c := by omega
    have hme : Hid (n - (j - i) = m) := by unfold Hid; omega
    have hil : i * 3 ≤ n * 3 := Nat.mul_le_mul_right _ (by omega)
    have hnl : n * 3 ≤ c * 3 := Nat.mul_le_mul_right _ hnc
    have hm3 : m * 3 = i * 3 + (n - j) * 3 := by rw [hm, Nat.add_mul]
    have hmn3 : m * 3 + (n - m) * 3 = n * 3 := by rw [← Nat.add_mul]; congr 1; omega
    have hpre : cur.toList.take (i * 3) = xs.take (i * 3) := by rw [← hcx, List.take_take, Nat.min_eq_left hil]
    have hcl1 : cur1.toList = (xs.take (i * 3) ++ xs.drop (j * 3)) ++ cur.toList.drop (i * 3 + (n - j) * 3) := by rw [hcur1, HL.out, hpre]
    have hxl : xs.length = n * 3 := by rw [← hcx, List.length_take, Array.length_toList, hcs]; omega
    have hfl : (xs.take (i * 3) ++ xs.drop (j * 3)).length = m * 3 := by rw [List.length_append, List.length_take, HL.out, hxl, hm3]; omega
    have hcs1 : cur1.size = c * 3 := by
      rw [← Array.length_toList, hcl1, List.length_append, hfl, List.length_drop, Array.length_toList, hcs]; omega
    obtain ⟨W1, hW1⟩ : ∃ W1, W1 = w.drew.setRow g cur1 := ⟨_, rfl⟩
    have hg1 : W1.heap[g]? = some (.cells cur1 115 (0, 0)) := by rw [hW1]; exact setRow_heap _ _ _ _ _ _ hg
    obtain ⟨Z, hZ, hcl⟩ := run_clearR (P := Try.prog) W1 111 115 chDelz 3 Try.underlying111 chDelZero (by kernel_rfl) chDelOne g (m * 3) (n - m) (c - m) (by omega) cur1 hg1 (by rw [hcs1, hmn3]; exact hnl)
    obtain ⟨cur2, hcur2⟩ : ∃ cur2, cur2 = (cur1.toList.take (m * 3) ++ Z ++ cur1.toList.drop (m * 3 + (n - m) * 3)).toArray := ⟨_, rfl⟩
    rw [← hcur2] at hcl
    have hR : Hid (OwnR (W1.setRow g cur2) base 115 3 (some ⟨g, 0, none⟩) m c (xs.take (i * 3) ++ xs.drop (j * 3))) := by
      refine OwnR.of_block hbg (setRow_heap _ _ _ _ _ _ hg1) (by omega) hcm ?_ ?_
      · rw [hcur2, List.size_toArray, List.length_append, List.length_append, List.length_take, List.length_drop, Array.length_toList, hcs1, hZ]; omega
      · have h1 : cur1.toList.take (m * 3) = xs.take (i * 3) ++ xs.drop (j * 3) := by rw [hcl1, ← hfl, List.take_left]
        rw [hcur2, h1, List.append_assoc, ← hfl, List.take_left]
    have hG : Hid (w.grownBy (W1.setRow g cur2) (some g) ∧ (W1.setRow g cur2).heap.size = w.heap.size) := by
      unfold Hid
      rw [hW1]
      exact ⟨⟨rfl, rfl, rfl, by simp, fun k _ hne => (setRow_other _ g k _ (fun e => hne (by rw [e]))).trans (setRow_other w.drew g k _ (fun e => hne (by rw [e])))⟩, by simp⟩
    rw [← hW1]
    clear hW1 hcur2 hZ hcs1 hfl hxl hcl1 hpre hmn3 hm3 hnl hil hm hcur1 HC hA had HF HL HO1 hcx hcs hg hg1
    go_wp2
    go_ret
    exact ⟨by rw [hme.out]; rfl, by rw [hme.out]; exact hR.out, hG.out.1, hG.out.2⟩
end Go.Proofs.Ytkmacepodomdmaa
