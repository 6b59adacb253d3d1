/-
  Layer 26: slices.DeleteFunc of flights, with the channel's own function.
-/
import Derived.Test.YtkmacepodomdmaaEa
namespace Go.Proofs.Ytkmacepodomdmaa
open Go.RowKit
set_option maxRecDepth 100000
set_option linter.unusedVariables false
set_option linter.unusedSimpArgs false

theorem grown_below {w w' : World} (h : Below w.heap.size w w') (row : Option Nat) : w.grownBy w' row := ⟨h.os, h.tape, h.output, h.size, fun k hk _ => h.block k hk⟩
theorem grown_trans {w w1 w2 : World} {row : Option Nat} (h : w.grownBy w1 row) (h2 : w1.grownBy w2 row) : w.grownBy w2 row :=
  ⟨h2.os.trans h.os, h2.tape.trans h.tape, h2.output.trans h.output, Nat.le_trans h.size h2.size, fun k hk hne => (h2.block k (Nat.lt_of_lt_of_le hk h.size) hne).trans (h.block k hk hne)⟩
theorem D3_set (X : List Fy) (i : Nat) (x : Fy) (hi : i < X.length) (q : Nat) : (D3 (X.set i x))[q]? = if 3 * i ≤ q ∧ q < 3 * i + 3 then (FE x)[q - 3 * i]? else (D3 X)[q]? := by
  induction X generalizing i q with
  | nil => simp at hi
  | cons p X ih =>
    cases i with
    | zero =>
      match q with
      | 0 => rfl
      | 1 => rfl
      | 2 => rfl
      | q + 3 => rw [if_neg (by omega)]; simp [D3]
    | succ i =>
      match q with
      | 0 => rw [if_neg (by omega)]; simp [D3]
      | 1 => rw [if_neg (by omega)]; simp [D3]
      | 2 => rw [if_neg (by omega)]; simp [D3]
      | q + 3 =>
        have := ih i (by simpa using hi) q
        simp only [List.set_cons_succ, D3, List.getElem?_cons_succ]
        rw [this]
        by_cases h : 3 * i ≤ q ∧ q < 3 * i + 3
        · rw [if_pos h, if_pos (by omega)]
          congr 1; omega
        · rw [if_neg h, if_neg (by omega)]
/-- An element of a row is written. -/
theorem OwnR.put3 {w w' : World} {base g n c : Nat} {X : List Fy} {cur cs' : Array Value} {i : Nat} {x : Fy} (hb : base ≤ g) (h1 : n ≤ c) (h2 : c ≤ maxLen) (h3 : cur.size = c * 3) (h4 : cur.toList.take (n * 3) = D3 X) (hX : X.length = n) (hi : i < n)
    (hu : Upd w w' g 115 cs') (hs : cs'.size = cur.size) (hc : ∀ q, cs'[q]? = if 3 * i ≤ q ∧ q < 3 * i + (FE x).size then (FE x)[q - 3 * i]? else cur[q]?) :
    OwnR w' base 115 3 (some ⟨g, 0, none⟩) n c (D3 (X.set i x)) := by
  refine OwnR.of_block hb hu.row h1 h2 (by rw [hs, h3]) ?_
  apply List.ext_getElem?
  intro q
  rw [D3_set X i x (by omega), List.getElem?_take, Array.getElem?_toList, hc q, ← h4, List.getElem?_take, Array.getElem?_toList]
  have h5 : (FE x).size = 3 := rfl
  rw [h5]
  by_cases hq : 3 * i ≤ q ∧ q < 3 * i + 3
  · rw [if_pos hq, if_pos hq, if_pos (by omega)]
  · rw [if_neg hq, if_neg hq]
theorem chZero : (Try.prog.info? 115).bind (fun i => i.zero.map (fun z => z.cells)) = some chDelz.cells := by kernel_rfl
theorem chZsize : chDelz.cells.size = 3 := by kernel_rfl
theorem filt_none {L : List Fy} {p : Fy → Bool} (h : ∀ j (hj : j < L.length), p L[j] = false) : L.filter (fun x => !p x) = L := by
  rw [List.filter_eq_self]
  intro x hx
  obtain ⟨j, hj, rfl⟩ := List.getElem_of_mem hx
  rw [h j hj]; rfl
set_option maxHeartbeats 2000000 in
set_option maxRecDepth 100000 in
theorem chDelF (w : World) (base : Nat) (A : Option Addr) (n c : Nat) (L : List Fy) (cl : Value) (p : Fy → Bool) (h : OwnR w base 115 3 A n c (D3 L)) (hn : n ≤ 1000000)
    (HP : ∀ W x, w.grownBy W (blk A) → x ∈ L → Calls Try.prog 62 #[.agg (FE x), cl] W fun e w' => e = .returned (.bool (p x)) ∧ Below W.heap.size W w') :
    Calls Try.prog 61 #[.slice A n c, .func (.func 62) #[] #[cl]] w fun e w' =>
      e = .returned (.slice A (L.filter fun x => !p x).length c) ∧ OwnR w' base 115 3 A (L.filter fun x => !p x).length c (D3 (L.filter fun x => !p x)) ∧ w.grownBy w' (blk A) := by
  have hlen := h.row.1
  rw [D3_len] at hlen
  have HN : Hid (n = L.length) := by unfold Hid; omega
  have HP' := Lib.hid HP
  have HO := Lib.hid h
  have CI := Lib.hid (chIdx w base A n c L cl p h hn (fun W x hb hx => HP W x (grown_below hb _) hx))
  clear HP h hlen
  obtain ⟨M, hM⟩ : ∃ M, M = L.filter fun x => !p x := ⟨_, rfl⟩
  have HM := Lib.hid hM
  rw [← hM]
  clear hM
  go_enter Try.func61, Try.ntmps61
  go_upto_region 2 with (go_at_call 77; refine CI.out.mono ?_; rintro e w1 ⟨r, rfl, hI, b1⟩)
  rcases hI with ⟨i0, hi0, rfl, hpi, hpj⟩ | ⟨rfl, hpj⟩
  · have hi0n : i0 < n := by rw [HN.out]; exact hi0
    obtain ⟨g, cur0, hA, hbg, _, hnc, hcm, _, _⟩ := HO.out.open_ (by omega)
    subst hA
    have hcm' : c ≤ 9223372036854775807 := by unfold maxLen at hcm; omega
    have d0 : ((i0 : Int) == -1) = false := by simp
    have hX0 : Hid (L.take i0 = (L.take (i0 + 1)).filter fun x => !p x) := by
      unfold Hid
      rw [List.take_succ_eq_append_getElem hi0, List.filter_append]
      have h1 : (L.take i0).filter (fun x => !p x) = L.take i0 := filt_none (fun j hj => by
        rw [List.length_take] at hj
        rw [List.getElem_take]
        exact hpj j (by omega) (by omega))
      rw [h1]; simp [hpi]
    have hO1 : Hid (OwnR w1 base 115 3 (some ⟨g, 0, none⟩) n c (D3 L)) := HO.out.below b1 (Nat.le_refl _)
    have hG1 : Hid (w.grownBy w1 (blk (some ⟨g, 0, none⟩))) := grown_below b1 _
    clear hpi hpj hi0 CI HO b1
    go_wp2_with fail
    go_loopw [5, 6] (fun s5 s6 wr => ∃ (i j : Nat) (X : List Fy), s5 = .int .i64 (i : Int) ∧ s6 = .int .i64 (j : Int) ∧ i < j ∧ j ≤ n ∧ Hid (X.length = n) ∧ Hid (OwnR wr base 115 3 (some ⟨g, 0, none⟩) n c (D3 X)) ∧ Hid (X.take i = (L.take j).filter fun x => !p x) ∧ Hid (X.drop j = L.drop j) ∧ Hid (w.grownBy wr (blk (some ⟨g, 0, none⟩)))) (fun _ s6 _ => n - (intOf s6).toNat)
    case atStart => exact ⟨i0, i0 + 1, L, rfl, by go_num, by omega, by omega, HN.out.symm, hO1, hX0, rfl, hG1⟩
    case round =>
      clear hX0 hO1 hG1 d0
      obtain ⟨i, j, X, rfl, rfl, hij, hjn, HXL, HOX, HXT, HXD, HG⟩ := hrel
      obtain ⟨g', cur, hA', _, hg, _, _, hcs, hcx⟩ := HOX.out.open_ (by omega)
      injection hA' with hA'
      injection hA' with hA'
      subst hA'
      by_cases hlt : j < n
      · have hjX : j < X.length := by rw [HXL.out]; exact hlt
        have hjL : j < L.length := by rw [← HN.out]; exact hlt
        have hXj : X[j] = L[j] := by
          have h1 : (X.drop j)[0]? = (L.drop j)[0]? := by rw [HXD.out]
          rw [List.getElem?_drop, List.getElem?_drop, Nat.add_zero, List.getElem?_eq_getElem hjX, List.getElem?_eq_getElem hjL] at h1
          injection h1
        obtain ⟨x, hx⟩ : ∃ x, x = L[j] := ⟨_, rfl⟩
        have hxm : x ∈ L := by rw [hx]; exact List.getElem_mem hjL
        obtain ⟨g2, hA2, _, hgw, hcell⟩ := HOX.out.cells (by omega)
        injection hA2 with hA2
        injection hA2 with hA2
        subst hA2
        have hr : Hid (wr.rangeAt g (3 * j) (FE x).toList) := fun q u hu => hcell _ _ (D3_get X j hjX q u (by rw [hXj, ← hx, ← Array.getElem?_toList]; exact hu))
        have HT1 : Hid ((L.take (j + 1)).filter (fun x => !p x) = X.take i ++ [x].filter (fun x => !p x)) := by
          unfold Hid; rw [List.take_succ_eq_append_getElem hjL, List.filter_append, ← HXT.out, hx]
        have HD1 : Hid (X.drop (j + 1) = L.drop (j + 1)) := by
          unfold Hid
          rw [show j + 1 = j + 1 from rfl, ← List.drop_drop, HXD.out, List.drop_drop]
        have CP : Hid (∀ W, Below wr.heap.size wr W → Calls Try.prog 62 #[.agg (FE x), cl] W fun e w' => e = .returned (.bool (p x)) ∧ Below W.heap.size W w') := fun W hb => HP'.out W x (grown_trans HG.out (grown_below hb _)) hxm
        have ix := fun W => run_idxR (P := Try.prog) (sz := 3) Try.underlying111 chDelInfo g 0 n c j hlt .i64 W
        have ixi := fun W => run_idxR (P := Try.prog) (sz := 3) Try.underlying111 chDelInfo g 0 n c i (by omega) .i64 W
        simp only [Nat.zero_add] at ix ixi
        have iE := infoFE x
        have d1 : decide ((j : Int) < (n : Int)) = true := by simp; omega
        have hone := FE_one x
        have HPUT : Hid (∀ (w3 w' : World) (cs' : Array Value), Below wr.heap.size wr w3 → Upd w3 w' g 115 cs' → cs'.size = cur.size → (∀ q, cs'[q]? = if 3 * i ≤ q ∧ q < 3 * i + (FE x).size then (FE x)[q - 3 * i]? else cur[q]?) → OwnR w' base 115 3 (some ⟨g, 0, none⟩) n c (D3 (X.set i x))) :=
          fun w3 w' cs' _ hu hs hc => OwnR.put3 hbg hnc hcm hcs hcx HXL.out (by omega) hu hs hc
        have HXS : Hid ((X.set i x).length = n ∧ (X.set i x).take (i + 1) = X.take i ++ [x] ∧ (X.set i x).drop (j + 1) = L.drop (j + 1)) := by
          refine ⟨by rw [List.length_set]; exact HXL.out, ?_, ?_⟩
          · rw [List.take_succ_eq_append_getElem (by rw [List.length_set, HXL.out]; omega), List.getElem_set_self, List.take_set_of_le (Nat.le_refl i)]
          · rw [List.drop_set_of_lt (by omega)]; exact HD1.out
        have hfit : 3 * i + (FE x).size ≤ cur.size := by rw [hcs]; show 3 * i + 3 ≤ _; omega
        have hgb : Blk wr g 115 cur := hg
        have hEs : (FE x).size = 3 := rfl
        clear hXj hx hcell hcx hcs hg
        generalize hpx : p x = px at *
        generalize FE x = E at *
        cases px
        · have HT2 : Hid ((L.take (j + 1)).filter (fun x => !p x) = X.take i ++ [x]) := by unfold Hid; rw [HT1.out]; simp [hpx]
          go_upto_region 9 with (first
          | (refine at_load_mid rfl 115 _ rfl g (3 * j) rfl E _ hr.out Try.underlying115 rfl iE ?_)
          | (refine at_alloc rfl 115 rfl _ chZero ?_; intro w2 L2)
          | (refine at_store rfl 115 _ _ rfl wr.heap.size E rfl rfl 115 _ L2.row iE (by rw [chZsize, hEs]) hone ?_; intro w3 H3; have b3 : Below wr.heap.size wr w3 := L2.bel.trans (H3.below (Nat.le_refl _)); have P3 := H3.row)
          | (refine at_load rfl 115 _ rfl wr.heap.size rfl 115 E _ P3 Try.underlying115 rfl iE ?_)
          | (go_at_call 62; refine (CP.out w3 b3).mono ?_; rintro e w4 ⟨rfl, b4⟩; have b34 : Below wr.heap.size wr w4 := Below.then_ b3 b4))
          have P4 := P3.after b4
          have q4 := hgb.after b34
          clear P3 b3 b4 L2 H3
          go_wp2_with (first
            | (refine at_load rfl 115 _ rfl wr.heap.size rfl 115 E _ P4 Try.underlying115 rfl iE ?_)
            | (refine at_store_mid rfl 115 _ _ rfl g (3 * i) E rfl rfl 115 cur q4 iE hfit hone ?_; intro w5 cs5 u5 hs5 hc5))
          go_roundw
          case rel => exact ⟨i + 1, j + 1, X.set i x, by go_num, by go_num, by omega, by omega, HXS.out.1, HPUT.out w4 w5 cs5 b34 u5 hs5 hc5, by show _ = _; rw [HXS.out.2.1, HT2.out], HXS.out.2.2, grown_trans HG.out (grown_trans (grown_below b34 _) u5.grown)⟩
          case measure => simp [intOf]; omega
        · have HT2 : Hid ((L.take (j + 1)).filter (fun x => !p x) = X.take i) := by unfold Hid; rw [HT1.out]; simp [hpx]
          go_wp2_with (first
          | (refine at_load_mid rfl 115 _ rfl g (3 * j) rfl E _ hr.out Try.underlying115 rfl iE ?_)
          | (refine at_alloc rfl 115 rfl _ chZero ?_; intro w2 L2)
          | (refine at_store rfl 115 _ _ rfl wr.heap.size E rfl rfl 115 _ L2.row iE (by rw [chZsize, hEs]) hone ?_; intro w3 H3; have b3 : Below wr.heap.size wr w3 := L2.bel.trans (H3.below (Nat.le_refl _)); have P3 := H3.row)
          | (refine at_load rfl 115 _ rfl wr.heap.size rfl 115 E _ P3 Try.underlying115 rfl iE ?_)
          | (go_at_call 62; refine (CP.out w3 b3).mono ?_; rintro e w4 ⟨rfl, b4⟩; have b34 : Below wr.heap.size wr w4 := Below.then_ b3 b4))
          go_roundw
          case rel => exact ⟨i, j + 1, X, rfl, by go_num, by omega, by omega, HXL, HOX.out.below b34 (Nat.le_refl _), HT2.out.symm, HD1, grown_trans HG.out (grown_below b34 _)⟩
          case measure => simp [intOf]; omega
      · obtain rfl : j = n := by omega
        have d1 : decide ((j : Int) < (j : Int)) = false := by simp
        have hMX : Hid (M = X.take i) := by unfold Hid; rw [HM.out, HXT.out, HN.out, List.take_of_length_le (Nat.le_refl _)]
        have hML : Hid (M.length = i) := by unfold Hid; rw [hMX.out, List.length_take, HXL.out]; omega
        have hic : i < c := by omega
        obtain ⟨Z, hZ, hcl⟩ := run_clearR (P := Try.prog) wr 111 115 chDelz 3 Try.underlying111 chDelZero chZsize chDelOne g (i * 3) (j - i) (c - i) (by omega) cur hg (by rw [hcs]; omega)
        obtain ⟨cur2, hcur2⟩ : ∃ cur2, cur2 = (cur.toList.take (i * 3) ++ Z ++ cur.toList.drop (i * 3 + (j - i) * 3)).toArray := ⟨_, rfl⟩
        rw [← hcur2] at hcl
        have hR : Hid (OwnR (wr.setRow g cur2) base 115 3 (some ⟨g, 0, none⟩) i c (D3 M)) := by
          refine OwnR.of_block hbg (setRow_heap _ _ _ _ _ _ hg) (by omega) hcm ?_ ?_
          · rw [hcur2, List.size_toArray, List.length_append, List.length_append, List.length_take, List.length_drop, Array.length_toList, hcs, hZ]; omega
          · have h0 : (cur.toList.take (i * 3)).length = i * 3 := by rw [List.length_take, Array.length_toList, hcs]; omega
            rw [hcur2, List.append_assoc]
            have h1 : (cur.toList.take (i * 3) ++ (Z ++ cur.toList.drop (i * 3 + (j - i) * 3))).take (i * 3) = cur.toList.take (i * 3) := by
              conv => lhs; arg 1; rw [← h0]
              rw [List.take_left]
            rw [h1, hMX.out, ← D3_take, ← hcx, List.take_take, Nat.min_eq_left (by omega)]
        have hGF : Hid (w.grownBy (wr.setRow g cur2) (blk (some ⟨g, 0, none⟩))) := grown_trans HG.out (setRow_grown wr g cur2)
        clear hcur2 hZ hcs hcx hg
        go_wp2_with fail
        go_ret
        exact ⟨by rw [hML.out]; rfl, by rw [hML.out]; exact hR.out, hGF.out⟩
  · have hMf : Hid (M = L) := by unfold Hid; rw [HM.out]; exact filt_none hpj
    have d0 : ((-1 : Int) == -1) = true := rfl
    have hO1 : Hid (OwnR w1 base 115 3 A n c (D3 L)) := HO.out.below b1 (Nat.le_refl _)
    have hG1 : Hid (w.grownBy w1 (blk A)) := grown_below b1 _
    clear hpj CI HO b1
    go_wp2_with fail
    go_ret
    exact ⟨by rw [hMf.out, ← HN.out]; rfl, by rw [hMf.out, ← HN.out]; exact hO1.out, hG1.out⟩
end Go.Proofs.Ytkmacepodomdmaa
