/-
  The walk of TrellisPaths.
-/
import Derived.Test.YtlnjealhiikmeaaDoorTq
import Derived.Test.YtlnjealhiikmeaaDoorTf
namespace Go.Proofs.YtlnjealhiikmeaaDoor
open Go.RowKit
set_option linter.unusedVariables false
set_option linter.unusedSimpArgs false

theorem PC_length (l : List Nat) : ∀ k, (PC l k).length = 7 * k
  | 0 => rfl
  | k + 1 => by
    rw [PC, List.length_append, PC_length l k, Array.length_toList, E7_size]
    omega
theorem PC_get (l : List Nat) (j : Nat) (hj : j < 7) : ∀ k i, i < k → (PC l k)[7 * i + j]? = (E7 (Cv.sv l i) (l.getD i 0))[j]?
  | 0, i, h => by omega
  | k + 1, i, h => by
    rw [PC]
    by_cases hi : i < k
    · rw [List.getElem?_append_left (by rw [PC_length]; omega), PC_get l j hj k i hi]
    · obtain rfl : i = k := by omega
      rw [List.getElem?_append_right (by rw [PC_length]; omega), PC_length, show 7 * i + j - 7 * i = j by omega, Array.getElem?_toList]
/-- An edge of a path where it lies. -/
theorem OwnR.edge {w : World} {base : Nat} {e : TypeId} {A : Option Addr} {n c : Nat} {l : List Nat} (h : OwnR w base e 7 A n c (PC l n)) (hn : 0 < n) :
    ∃ g, A = some ⟨g, 0, none⟩ ∧ ∀ W, Below w.heap.size w W → ∀ i, i < n → W.rangeAt g (7 * i) (E7 (Cv.sv l i) (l.getD i 0)).toList := by
  obtain ⟨g, hA, _, hlt, hc⟩ := h.cells hn
  refine ⟨g, hA, fun W hB i hi j v hv => ?_⟩
  have hj : j < 7 := by
    have := (List.getElem?_eq_some_iff.1 hv).1
    rw [Array.length_toList, E7_size] at this
    exact this
  rw [hB.cell (p := ⟨g, 7 * i + j, none⟩) hlt]
  refine hc _ v ?_
  rw [PC_get l j hj n i hi, ← hv, Array.getElem?_toList]

set_option maxHeartbeats 600000 in
set_option maxRecDepth 100000 in
/-- TrellisPaths. -/
theorem walkTrellisPaths (A : Option Addr) (n c : Nat) (xs : List Nat) (w : World) (h1 : Rd w w.heap.size A n (U8 xs)) (b1 : ∀ b ∈ xs, b < 256) (hnc : n ≤ c) (hc : c ≤ 9223372036854775807) (hnone : A = none → n = 0 ∧ c = 0) (hT : Taps w) :
    Calls Tryd.prog 9 #[.slice A n c] w fun e w' => e = .returned (.bool true) ∧ Below w.heap.size w w' := by
  obtain ⟨i0, hi0, hz0, hz1, hz2⟩ := info_parts info5
  obtain ⟨k, hk, hk2, hk3⟩ := min_if n 100
  obtain ⟨hm1, hm2⟩ := hk3 100 rfl
  clear hk3
  have r1 := h1.cut8 k hk2
  have bk := take256 b1 k
  generalize xs.take k = ls at *
  have r2 : Rd (w.alloc (.cells #[] 5)) w.heap.size A k (U8 ls) := r1.below ((Below.refl _ _).alloc (Nat.le_refl _) _)
  have hn2 : A = none → k = 0 ∧ c = 0 := fun h => ⟨by have := (hnone h).1; omega, (hnone h).2⟩
  have o1 : Own (w.alloc (.cells #[] 5)) w.heap.size 5 (some ⟨w.heap.size, 0, none⟩) 0 0 [] := ⟨World.ownsRow_made w #[] 0 (Nat.le_refl _) (by unfold maxLen; omega) (by simp)⟩
  have BK := Lib.hid bk
  clear h1 b1 hnone r1 bk
  go_enter Tryd.func9, Tryd.ntmps9
  go_upto_region 3 with (at_builtin; refine wpList_app _ rfl _ _ 30 rfl w.heap.size 5 i0 _ 1 Tryd.underlying30 hi0 hz0 hz1 hz2 rfl _ 0 0 [] rfl o1 w.heap.size A k c (U8 ls) rfl r2 hn2 (U8_one ls) (by omega) (by unfold maxLen; omega) (by simp) ?_; intro A5 c5 w5 hown5 hgrow5; have own := hown5.to (Nat.zero_add k) (List.nil_append (U8 ls)); have hcv := own.conv w5 (Below.refl _ _))
  have bel : Below w.heap.size w w5 := ((Below.refl _ _).alloc (Nat.le_refl _) _).grown hgrow5 (by simp) (fun j hj => by simp [Value.ownBlock] at hj; omega)
  clear hown5 hgrow5 r2 hn2 o1 hm1 hm2 hcv
  have hn5 := own.none_
  have hT5 := hT.after bel
  have rl := own.rdOf (Below.refl _ _)
  have HN := Lib.hid rl.len8
  clear hT
  have CD := Lib.hid (fun W (hT : Taps W) => leadsC W hT)
  generalize hs0 : str ls = s0 at *
  have HS0 := Lib.hid hs0
  clear hs0
  have hp0 : (s0.toList != s0.toList) = false := by simp
  by_cases hbit : Bm.isB ls = true
  · have hl := Bm.isB_true hbit
    have C := Lib.hid (pathC A5 k c5 ls w5 rl hn5 hl (by omega) hT5)
    have CR := Lib.hid (fun (W : World) (hB : Below w5.heap.size w5 W) => refRight A5 k c5 ls W (own.rdOf hB) BK.out (by omega))
    rw [hbit] at CR
    have CP := Lib.hid (fun (W : World) (hB : Below w5.heap.size w5 W) => refPath A5 k c5 ls W (own.rdOf hB) hl (by omega))
    have CC := Lib.hid (fun (W : World) (hB : Below w5.heap.size w5 W) => refCode A5 k c5 ls W (own.rdOf hB) hl (by omega))
    clear hbit
    go_upto_region 9 with (first | (go_at_call 26; refine C.out.mono ?_; rintro e w6 ⟨A6, c6, rfl, ow6, be6⟩) | (go_at_call 23; refine (CD.out w6 (hT5.after be6)).mono ?_; rintro e w7 ⟨rfl, be7⟩; have b57 := Below.then_ be6 be7; have hcv7 := own.conv w7 b57; rw [HS0.out] at hcv7) | (go_at_call 18; refine (CR.out w7 b57).mono ?_; rintro e w' ⟨rfl, rfl⟩) | (go_at_call 27; refine (CP.out w7 b57).mono ?_; rintro e w8 ⟨A8, c8, rfl, ow8, be8⟩))
    have b58 := Below.then_ b57 be8
    have ow68 := (ow6.below be7 (Nat.le_refl _)).below be8 (Nat.le_refl _)
    obtain ⟨g6, rfl, hp6⟩ := ow68.edge (by omega)
    obtain ⟨g8, rfl, hp8⟩ := ow8.edge (by omega)
    have HP6 := Lib.hid hp6
    have HP8 := Lib.hid hp8
    have ow := own.below b58 (Nat.le_refl _)
    have HB8 := Lib.hid (Below.then_ bel b58)
    have C1' := Lib.hid (fun (W : World) (hB : Below w8.heap.size w8 W) => CC.out W (Below.then_ b58 hB))
    have HE := Lib.hid (Cv.sv_end ls hl)
    rw [← HN.out] at HE
    have cell_last : w8.cell? ⟨g6, 7 * (k + 5) + 1, none⟩ = some (.int .i64 0) := by
      have := HP6.out w8 (Below.refl _ _) (k + 5) (by omega) 1 (.int .i64 (Cv.nx (Cv.sv ls (k + 5)) (ls.getD (k + 5) 0) : Nat)) rfl
      rw [show Cv.nx (Cv.sv ls (k + 5)) (ls.getD (k + 5) 0) = 0 from HE.out] at this
      exact this
    have ix := fun W => run_idxR (P := Tryd.prog) (sz := 7) Tryd.underlying52 (by kernel_rfl) g6 0 (k + 6) c6 (k + 5) (by omega) .i64 W
    obtain ⟨q, hq⟩ : ∃ q, k + 6 = q := ⟨_, rfl⟩
    obtain ⟨p, hp⟩ : ∃ p, k + 5 = p := ⟨_, rfl⟩
    have e5 : (q : Int) - 1 = (p : Int) := by omega
    have e5w : IntKind.i64.wrap ((q : Int) - 1) = (p : Int) := by rw [IntWalk.i64_in _ (by omega)]; omega
    have hq106 : q ≤ 106 := by omega
    have hq1 : 1 ≤ q := by omega
    rw [hp] at cell_last
    rw [hp, hq] at ix
    simp only [Nat.zero_add] at ix
    have HQ := Lib.hid hq
    rw [hq]
    clear hp6 hp8 hq hp own rl b58 b57 be6 be7 be8 ow6 ow8 ow68 C CR CP CC CD hT5 hcv7 bel hn5
    have hqq : ((q : Int) != (q : Int)) = false := by simp
    have hqq2 : (q != q) = false := by simp
    go_wp2
    go_loopw [7, 8] (fun s i wr => ∃ j m : Nat, j ≤ q ∧ i = .int .i64 j ∧ Hid (m = 4 * j) ∧ ∃ A9 c9, s = .slice A9 m c9 ∧ Own wr w8.heap.size 5 A9 m c9 (U8 (Cv.codeTo ls j)) ∧ Below w8.heap.size w8 wr) (fun _ i _ => q - (intOf i).toNat)
    case atStart => exact ⟨0, 0, Nat.zero_le _, rfl, rfl, none, 0, rfl, Own.nil _ _ _, Below.refl _ _⟩
    case round =>
      clear cell_last ix e5 e5w
      obtain ⟨j, m, hj, rfl, HM, A9, c9, rfl, hown, hbel⟩ := hrel
      have hsz := hbel.size
      have hm : m ≤ 424 := by have := HM.out; omega
      by_cases hlt : j < q
      · have hx := Bm.bit_le ls hl j
        have CQ := Lib.hid (fun W => sameC (Cv.sv ls j) (ls.getD j 0) W)
        have iK : Hid ((Tryd.prog.info? 44).map (·.size) = some (E7 (Cv.sv ls j) (ls.getD j 0)).size) := info7
        have iR : Hid ((Tryd.prog.info? 49).map (·.size) = some (E7 (Cv.sv ls j) (ls.getD j 0)).size) := infoR7
        have HCJ : Hid (Cv.codeTo ls (j + 1) = Cv.codeTo ls j ++ Cv.four ls j) := rfl
        have HRD : Hid (∀ W, Below w8.heap.size w8 W → Rd W W.heap.size (some ⟨g6, 7 * j + 3, none⟩) 4 (U8 (Cv.four ls j))) := fun W hB => by
          have hr := HP6.out W hB j (by have := HQ.out; omega)
          refine ⟨rfl, fun _ => ⟨g6, 7 * j + 3, rfl, ?_, fun i u hu => ?_⟩⟩
          · have h0 := hr 0 _ rfl
            by_cases hg : g6 < W.heap.size
            · exact hg
            · exfalso
              unfold World.cell? at h0
              rw [Array.getElem?_eq_none (by show W.heap.size ≤ g6; omega)] at h0
              cases h0
          · have hi4 : i < 4 := by have := (List.getElem?_eq_some_iff.1 hu).1; simpa [U8, Cv.four] using this
            unfold Cv.four at hu
            rw [← Cv.out_bitAt ls hl, ← Cv.out_bitAt ls hl, ← Cv.out_bitAt ls hl, ← Cv.out_bitAt ls hl] at hu
            rw [Nat.add_assoc]
            refine hr (3 + i) u ?_
            match i, hi4, hu with
            | 0, _, hu => exact hu
            | 1, _, hu => exact hu
            | 2, _, hu => exact hu
            | 3, _, hu => exact hu
        have ia := fun W => run_idxR (P := Tryd.prog) (sz := 7) Tryd.underlying52 (by kernel_rfl) g6 0 q c6 j hlt .i64 W
        have ib := fun W => run_idxR (P := Tryd.prog) (sz := 7) Tryd.underlying55 (by kernel_rfl) g8 0 q c8 j hlt .i64 W
        simp only [Nat.zero_add] at ia ib
        have bl_0 : Below wr.heap.size wr wr.drew := (Below.refl _ _).drew
        by_cases hj0 : j = 0
        · have dj : decide ((0 : Int) < (j : Int)) = false := by simp <;> omega
          have dj2 : decide (0 < j) = false := by simp <;> omega
          have HK : Hid (∀ W, Below w8.heap.size w8 W → (W.rangeAt g6 (7 * j) (E7 (Cv.sv ls j) (ls.getD j 0)).toList ∧ W.rangeAt g8 (7 * j) (E7 (Cv.sv ls j) (ls.getD j 0)).toList)) := fun W hB => ⟨HP6.out W hB j (by have := HQ.out; omega), HP8.out W hB j (by have := HQ.out; omega)⟩
          clear hj0
          generalize E7 (Cv.sv ls j) (ls.getD j 0) = EJ at *
          generalize Cv.codeTo ls j = cj at *
          generalize Cv.four ls j = fj at *
          go_wp2_with fail
          refine wp_region_noPanic ?_
          refine wp_region_held_drew (S := fun W => W.rangeAt g6 (7 * j) EJ.toList ∧ W.rangeAt g8 (7 * j) EJ.toList) (by kernel_rfl) (HK.out _ hbel.drew) (fun hHeld => ?_)
          refine wpAnyH_take (i := 0) (oi := ⟨some 68, _, _, _, _, _⟩) (v := ?_) rfl (by kernel_rfl) (by kernel_rfl) (by kernel_rfl) (fun _ _ _ h => h) (Or.inl ⟨by rfl, ?_⟩) (by assumption) ?_
          rotate_left
          · intro W hSW; obtain ⟨hSW0, hSW1⟩ := hSW; go_simp; first | done | with_reducible rfl
          (try simp only [Act.put, List.setIfInBounds_toArray, List.set_cons_zero, List.set_cons_succ])
          refine wpAnyH_take (i := 1) (oi := ⟨some 69, _, _, _, _, _⟩) (v := ?_) rfl (by kernel_rfl) (by kernel_rfl) (by kernel_rfl) (fun _ _ _ h => h) (Or.inl ⟨by rfl, ?_⟩) (by assumption) ?_
          rotate_left
          · intro W hSW; obtain ⟨hSW0, hSW1⟩ := hSW; go_simp; first | done | with_reducible rfl
          (try simp only [Act.put, List.setIfInBounds_toArray, List.set_cons_zero, List.set_cons_succ])
          refine wpAnyH_take (i := 2) (oi := ⟨some 70, _, _, _, _, _⟩) (v := ?_) rfl (by kernel_rfl) (by kernel_rfl) (by kernel_rfl) (fun _ _ _ h => h) (Or.inl ⟨by rfl, ?_⟩) (by assumption) ?_
          rotate_left
          · intro W hSW; obtain ⟨hSW0, hSW1⟩ := hSW; go_simp; first | done | with_reducible rfl
          (try simp only [Act.put, List.setIfInBounds_toArray, List.set_cons_zero, List.set_cons_succ])
          refine wpAnyH_take (i := 3) (oi := ⟨some 71, _, _, _, _, _⟩) (v := _) rfl (by kernel_rfl) (by kernel_rfl) (by kernel_rfl) (fun _ _ _ h => h) (yields_mid (by rfl) 44 _ (by rfl) g6 (7 * j) (by rfl) EJ _ (fun W h => h.1) Tryd.underlying44 rfl iK.out) (by assumption) ?_
          (try simp only [Act.put, List.setIfInBounds_toArray, List.set_cons_zero, List.set_cons_succ])
          refine wpAnyH_take (i := 4) (oi := ⟨some 72, _, _, _, _, _⟩) (v := ?_) rfl (by kernel_rfl) (by kernel_rfl) (by kernel_rfl) (fun _ _ _ h => h) (Or.inl ⟨by rfl, ?_⟩) (by assumption) ?_
          rotate_left
          · intro W hSW; obtain ⟨hSW0, hSW1⟩ := hSW; go_simp; first | done | with_reducible rfl
          (try simp only [Act.put, List.setIfInBounds_toArray, List.set_cons_zero, List.set_cons_succ])
          refine wpAnyH_take (i := 5) (oi := ⟨some 73, _, _, _, _, _⟩) (v := ?_) rfl (by kernel_rfl) (by kernel_rfl) (by kernel_rfl) (fun _ _ _ h => h) (Or.inl ⟨by rfl, ?_⟩) (by assumption) ?_
          rotate_left
          · intro W hSW; obtain ⟨hSW0, hSW1⟩ := hSW; go_simp; first | done | with_reducible rfl
          (try simp only [Act.put, List.setIfInBounds_toArray, List.set_cons_zero, List.set_cons_succ])
          refine wpAnyH_take (i := 6) (oi := ⟨some 74, _, _, _, _, _⟩) (v := ?_) rfl (by kernel_rfl) (by kernel_rfl) (by kernel_rfl) (fun _ _ _ h => h) (Or.inl ⟨by rfl, ?_⟩) (by assumption) ?_
          rotate_left
          · intro W hSW; obtain ⟨hSW0, hSW1⟩ := hSW; go_simp; first | done | with_reducible rfl
          (try simp only [Act.put, List.setIfInBounds_toArray, List.set_cons_zero, List.set_cons_succ])
          refine wpAnyH_take (i := 7) (oi := ⟨some 75, _, _, _, _, _⟩) (v := _) rfl (by kernel_rfl) (by kernel_rfl) (by kernel_rfl) (fun _ _ _ h => h) (yields_mid (by rfl) 49 _ (by rfl) g8 (7 * j) (by rfl) EJ _ (fun W h => h.2) Tryd.underlying49 rfl iR.out) (by assumption) ?_
          (try simp only [Act.put, List.setIfInBounds_toArray, List.set_cons_zero, List.set_cons_succ])
          refine wpAnyH_ready (rs := [8]) (by kernel_rfl) (by simp) ?_
          refine AllReadyH.cons (o := ⟨some 76, _, _, _, _, _⟩) rfl (fun K hK => ?_) (AllReadyH.nil)
          go_simp
          refine (CQ.out _).mono ?_
          rintro e W1 ⟨rfl, hb_1⟩
          have bl_1 := Below.then_ bl_0 hb_1
          clear hHeld
          refine hK.out _ _ ?_ (fun hHeld => ?_)
          · exact HK.out _ (Below.then_ hbel bl_1)
          clear hK K
          (try simp only [Act.put, List.setIfInBounds_toArray, List.set_cons_zero, List.set_cons_succ])
          refine wpAnyH_take (i := 9) (oi := ⟨some 77, _, _, _, _, _⟩) (v := ?_) rfl (by kernel_rfl) (by kernel_rfl) (by kernel_rfl) (fun _ _ _ h => h) (Or.inl ⟨by rfl, ?_⟩) (by assumption) ?_
          rotate_left
          · intro W hSW; obtain ⟨hSW0, hSW1⟩ := hSW; go_simp; first | done | with_reducible rfl
          (try simp only [Act.put, List.setIfInBounds_toArray, List.set_cons_zero, List.set_cons_succ])
          refine wpAnyH_take (i := 10) (oi := ⟨some 78, _, _, _, _, _⟩) (v := ?_) rfl (by kernel_rfl) (by kernel_rfl) (by kernel_rfl) (fun _ _ _ h => h) (Or.inl ⟨by rfl, ?_⟩) (by assumption) ?_
          rotate_left
          · intro W hSW; obtain ⟨hSW0, hSW1⟩ := hSW; go_simp; first | done | with_reducible rfl
          (try simp only [Act.put, List.setIfInBounds_toArray, List.set_cons_zero, List.set_cons_succ])
          refine wpAnyH_take (i := 11) (oi := ⟨some 79, _, _, _, _, _⟩) (v := ?_) rfl (by kernel_rfl) (by kernel_rfl) (by kernel_rfl) (fun _ _ _ h => h) (Or.inl ⟨by rfl, ?_⟩) (by assumption) ?_
          rotate_left
          · intro W hSW; obtain ⟨hSW0, hSW1⟩ := hSW; go_simp; first | done | with_reducible rfl
          (try simp only [Act.put, List.setIfInBounds_toArray, List.set_cons_zero, List.set_cons_succ])
          refine wpAnyH_take (i := 12) (oi := ⟨some 80, _, _, _, _, _⟩) (v := ?_) rfl (by kernel_rfl) (by kernel_rfl) (by kernel_rfl) (fun _ _ _ h => h) (Or.inl ⟨by rfl, ?_⟩) (by assumption) ?_
          rotate_left
          · intro W hSW; obtain ⟨hSW0, hSW1⟩ := hSW; go_simp; first | done | with_reducible rfl
          (try simp only [Act.put, List.setIfInBounds_toArray, List.set_cons_zero, List.set_cons_succ])
          refine wpAnyH_take (i := 13) (oi := ⟨some 81, _, _, _, _, _⟩) (v := ?_) rfl (by kernel_rfl) (by kernel_rfl) (by kernel_rfl) (fun _ _ _ h => h) (Or.inl ⟨by rfl, ?_⟩) (by assumption) ?_
          rotate_left
          · intro W hSW; obtain ⟨hSW0, hSW1⟩ := hSW; go_simp; first | done | with_reducible rfl
          (try simp only [Act.put, List.setIfInBounds_toArray, List.set_cons_zero, List.set_cons_succ])
          refine wpAnyH_take (i := 14) (oi := ⟨some 82, _, _, _, _, _⟩) (v := undef) rfl (by kernel_rfl) (by kernel_rfl) (by kernel_rfl) (fun _ _ _ h => h) (Or.inr ⟨by rfl, rfl⟩) (by assumption) ?_
          (try simp only [Act.put, List.setIfInBounds_toArray, List.set_cons_zero, List.set_cons_succ])
          refine wpAnyH_take (i := 15) (oi := ⟨some 83, _, _, _, _, _⟩) (v := undef) rfl (by kernel_rfl) (by kernel_rfl) (by kernel_rfl) (fun _ _ _ h => h) (Or.inr ⟨by rfl, rfl⟩) (by assumption) ?_
          (try simp only [Act.put, List.setIfInBounds_toArray, List.set_cons_zero, List.set_cons_succ])
          refine wpAnyH_take (i := 16) (oi := ⟨some 84, _, _, _, _, _⟩) (v := undef) rfl (by kernel_rfl) (by kernel_rfl) (by kernel_rfl) (fun _ _ _ h => h) (Or.inr ⟨by rfl, rfl⟩) (by assumption) ?_
          (try simp only [Act.put, List.setIfInBounds_toArray, List.set_cons_zero, List.set_cons_succ])
          refine wpAnyH_take (i := 17) (oi := ⟨some 85, _, _, _, _, _⟩) (v := undef) rfl (by kernel_rfl) (by kernel_rfl) (by kernel_rfl) (fun _ _ _ h => h) (Or.inr ⟨by rfl, rfl⟩) (by assumption) ?_
          (try simp only [Act.put, List.setIfInBounds_toArray, List.set_cons_zero, List.set_cons_succ])
          refine wpAnyH_take (i := 18) (oi := ⟨some 86, _, _, _, _, _⟩) (v := undef) rfl (by kernel_rfl) (by kernel_rfl) (by kernel_rfl) (fun _ _ _ h => h) (Or.inr ⟨by rfl, rfl⟩) (by assumption) ?_
          (try simp only [Act.put, List.setIfInBounds_toArray, List.set_cons_zero, List.set_cons_succ])
          refine wpAnyH_take (i := 19) (oi := ⟨some 87, _, _, _, _, _⟩) (v := undef) rfl (by kernel_rfl) (by kernel_rfl) (by kernel_rfl) (fun _ _ _ h => h) (Or.inr ⟨by rfl, rfl⟩) (by assumption) ?_
          (try simp only [Act.put, List.setIfInBounds_toArray, List.set_cons_zero, List.set_cons_succ])
          refine wpAnyH_take (i := 20) (oi := ⟨some 88, _, _, _, _, _⟩) (v := undef) rfl (by kernel_rfl) (by kernel_rfl) (by kernel_rfl) (fun _ _ _ h => h) (Or.inr ⟨by rfl, rfl⟩) (by assumption) ?_
          (try simp only [Act.put, List.setIfInBounds_toArray, List.set_cons_zero, List.set_cons_succ])
          refine wpAnyH_take (i := 21) (oi := ⟨some 89, _, _, _, _, _⟩) (v := undef) rfl (by kernel_rfl) (by kernel_rfl) (by kernel_rfl) (fun _ _ _ h => h) (Or.inr ⟨by rfl, rfl⟩) (by assumption) ?_
          (try simp only [Act.put, List.setIfInBounds_toArray, List.set_cons_zero, List.set_cons_succ])
          refine wpAnyH_take (i := 22) (oi := ⟨some 90, _, _, _, _, _⟩) (v := undef) rfl (by kernel_rfl) (by kernel_rfl) (by kernel_rfl) (fun _ _ _ h => h) (Or.inr ⟨by rfl, rfl⟩) (by assumption) ?_
          (try simp only [Act.put, List.setIfInBounds_toArray, List.set_cons_zero, List.set_cons_succ])
          refine wpAnyH_take (i := 23) (oi := ⟨some 91, _, _, _, _, _⟩) (v := undef) rfl (by kernel_rfl) (by kernel_rfl) (by kernel_rfl) (fun _ _ _ h => h) (Or.inr ⟨by rfl, rfl⟩) (by assumption) ?_
          (try simp only [Act.put, List.setIfInBounds_toArray, List.set_cons_zero, List.set_cons_succ])
          refine wpAnyH_take (i := 24) (oi := ⟨some 92, _, _, _, _, _⟩) (v := undef) rfl (by kernel_rfl) (by kernel_rfl) (by kernel_rfl) (fun _ _ _ h => h) (Or.inr ⟨by rfl, rfl⟩) (by assumption) ?_
          (try simp only [Act.put, List.setIfInBounds_toArray, List.set_cons_zero, List.set_cons_succ])
          refine wpAnyH_take (i := 25) (oi := ⟨some 93, _, _, _, _, _⟩) (v := undef) rfl (by kernel_rfl) (by kernel_rfl) (by kernel_rfl) (fun _ _ _ h => h) (Or.inr ⟨by rfl, rfl⟩) (by assumption) ?_
          (try simp only [Act.put, List.setIfInBounds_toArray, List.set_cons_zero, List.set_cons_succ])
          refine wpAnyH_take (i := 26) (oi := ⟨some 94, _, _, _, _, _⟩) (v := ?_) rfl (by kernel_rfl) (by kernel_rfl) (by kernel_rfl) (fun _ _ _ h => h) (Or.inl ⟨by rfl, ?_⟩) (by assumption) ?_
          rotate_left
          · intro W hSW; obtain ⟨hSW0, hSW1⟩ := hSW; go_simp; first | done | with_reducible rfl
          (try simp only [Act.put, List.setIfInBounds_toArray, List.set_cons_zero, List.set_cons_succ])
          refine wpAnyH_take (i := 27) (oi := ⟨some 95, _, _, _, _, _⟩) (v := ?_) rfl (by kernel_rfl) (by kernel_rfl) (by kernel_rfl) (fun _ _ _ h => h) (Or.inl ⟨by rfl, ?_⟩) (by assumption) ?_
          rotate_left
          · intro W hSW; obtain ⟨hSW0, hSW1⟩ := hSW; go_simp; first | done | with_reducible rfl
          (try simp only [Act.put, List.setIfInBounds_toArray, List.set_cons_zero, List.set_cons_succ])
          refine wpAnyH_done (by kernel_rfl) ?_ _
          refine NoPanic.normal ?_
          have bw1 := Below.then_ hbel bl_1
          have own1 := hown.below bl_1 (Nat.le_refl _)
          have hrd := HRD.out W1 bw1
          have hsz1 : w8.heap.size ≤ W1.heap.size := bw1.size
          go_wp2_with (at_builtin; refine wpList_app _ rfl _ _ 30 rfl w8.heap.size 5 i0 _ 1 Tryd.underlying30 hi0 hz0 hz1 hz2 rfl A9 m c9 (U8 cj) rfl own1 W1.heap.size (some ⟨g6, 7 * j + 3, none⟩) 4 4 (U8 fj) rfl hrd (by simp) (U8_one fj) (by omega) (by unfold maxLen; omega) hsz1 ?_; intro A10 c10 w10 hown10 hgrow10)
          go_roundw
          case rel =>
            refine ⟨j + 1, m + 4, by omega, by go_num, (by have := HM.out; unfold Hid; omega), A10, c10, rfl, ?_, bw1.grown hgrow10 hsz1 (fun q hq => (own1.block q hq).1)⟩
            rw [HCJ.out, U8_append]; exact hown10
          case measure => simp [intOf] <;> omega
        · obtain ⟨i, hi⟩ : ∃ i, j = i + 1 := ⟨j - 1, by omega⟩
          have dj : decide ((0 : Int) < (j : Int)) = true := by simp <;> omega
          have dj2 : decide (0 < j) = true := by simp <;> omega
          have e1 : (j : Int) - 1 = (i : Int) := by omega
          have e1w : IntKind.i64.wrap ((j : Int) - 1) = (i : Int) := by rw [IntWalk.i64_in _ (by omega)]; omega
          have e1x : IntKind.i64.wrap (i : Int) = (i : Int) := IntWalk.i64_in _ (by omega)
          have ic := fun W => run_idxR (P := Tryd.prog) (sz := 7) Tryd.underlying52 (by kernel_rfl) g6 0 q c6 i (by omega) .i64 W
          simp only [Nat.zero_add] at ic
          have HSV : Hid (Cv.sv ls j = Cv.nx (Cv.sv ls i) (ls.getD i 0)) := by unfold Hid; rw [hi]; rfl
          have HK : Hid (∀ W, Below w8.heap.size w8 W → (W.rangeAt g6 (7 * j) (E7 (Cv.sv ls j) (ls.getD j 0)).toList ∧ W.rangeAt g8 (7 * j) (E7 (Cv.sv ls j) (ls.getD j 0)).toList ∧ W.cell? ⟨g6, 7 * j, none⟩ = some (.int .i64 (Cv.sv ls j : Nat)) ∧ W.cell? ⟨g6, 7 * i + 1, none⟩ = some (.int .i64 (Cv.sv ls j : Nat)))) := fun W hB =>
            ⟨HP6.out W hB j (by have := HQ.out; omega), HP8.out W hB j (by have := HQ.out; omega), HP6.out W hB j (by have := HQ.out; omega) 0 _ rfl, by rw [HSV.out]; exact HP6.out W hB i (by have := HQ.out; omega) 1 _ rfl⟩
          clear hj0 hi HSV
          generalize E7 (Cv.sv ls j) (ls.getD j 0) = EJ at *
          generalize Cv.codeTo ls j = cj at *
          generalize Cv.four ls j = fj at *
          generalize Cv.sv ls j = s1 at *
          have hss : ((s1 : Int) != (s1 : Int)) = false := by simp
          go_wp2_with fail
          refine wp_region_noPanic ?_
          refine wp_region_held_drew (S := fun W => W.rangeAt g6 (7 * j) EJ.toList ∧ W.rangeAt g8 (7 * j) EJ.toList ∧ W.cell? ⟨g6, 7 * j, none⟩ = some (.int .i64 (s1 : Int)) ∧ W.cell? ⟨g6, 7 * i + 1, none⟩ = some (.int .i64 (s1 : Int))) (by kernel_rfl) (HK.out _ hbel.drew) (fun hHeld => ?_)
          refine wpAnyH_take (i := 0) (oi := ⟨some 68, _, _, _, _, _⟩) (v := ?_) rfl (by kernel_rfl) (by kernel_rfl) (by kernel_rfl) (fun _ _ _ h => h) (Or.inl ⟨by rfl, ?_⟩) (by assumption) ?_
          rotate_left
          · intro W hSW; obtain ⟨hSW0, hSW1, hSW2, hSW3⟩ := hSW; go_simp; first | done | with_reducible rfl
          (try simp only [Act.put, List.setIfInBounds_toArray, List.set_cons_zero, List.set_cons_succ])
          refine wpAnyH_take (i := 1) (oi := ⟨some 69, _, _, _, _, _⟩) (v := ?_) rfl (by kernel_rfl) (by kernel_rfl) (by kernel_rfl) (fun _ _ _ h => h) (Or.inl ⟨by rfl, ?_⟩) (by assumption) ?_
          rotate_left
          · intro W hSW; obtain ⟨hSW0, hSW1, hSW2, hSW3⟩ := hSW; go_simp; first | done | with_reducible rfl
          (try simp only [Act.put, List.setIfInBounds_toArray, List.set_cons_zero, List.set_cons_succ])
          refine wpAnyH_take (i := 2) (oi := ⟨some 70, _, _, _, _, _⟩) (v := ?_) rfl (by kernel_rfl) (by kernel_rfl) (by kernel_rfl) (fun _ _ _ h => h) (Or.inl ⟨by rfl, ?_⟩) (by assumption) ?_
          rotate_left
          · intro W hSW; obtain ⟨hSW0, hSW1, hSW2, hSW3⟩ := hSW; go_simp; first | done | with_reducible rfl
          (try simp only [Act.put, List.setIfInBounds_toArray, List.set_cons_zero, List.set_cons_succ])
          refine wpAnyH_take (i := 3) (oi := ⟨some 71, _, _, _, _, _⟩) (v := _) rfl (by kernel_rfl) (by kernel_rfl) (by kernel_rfl) (fun _ _ _ h => h) (yields_mid (by rfl) 44 _ (by rfl) g6 (7 * j) (by rfl) EJ _ (fun W h => h.1) Tryd.underlying44 rfl iK.out) (by assumption) ?_
          (try simp only [Act.put, List.setIfInBounds_toArray, List.set_cons_zero, List.set_cons_succ])
          refine wpAnyH_take (i := 4) (oi := ⟨some 72, _, _, _, _, _⟩) (v := ?_) rfl (by kernel_rfl) (by kernel_rfl) (by kernel_rfl) (fun _ _ _ h => h) (Or.inl ⟨by rfl, ?_⟩) (by assumption) ?_
          rotate_left
          · intro W hSW; obtain ⟨hSW0, hSW1, hSW2, hSW3⟩ := hSW; go_simp; first | done | with_reducible rfl
          (try simp only [Act.put, List.setIfInBounds_toArray, List.set_cons_zero, List.set_cons_succ])
          refine wpAnyH_take (i := 5) (oi := ⟨some 73, _, _, _, _, _⟩) (v := ?_) rfl (by kernel_rfl) (by kernel_rfl) (by kernel_rfl) (fun _ _ _ h => h) (Or.inl ⟨by rfl, ?_⟩) (by assumption) ?_
          rotate_left
          · intro W hSW; obtain ⟨hSW0, hSW1, hSW2, hSW3⟩ := hSW; go_simp; first | done | with_reducible rfl
          (try simp only [Act.put, List.setIfInBounds_toArray, List.set_cons_zero, List.set_cons_succ])
          refine wpAnyH_take (i := 6) (oi := ⟨some 74, _, _, _, _, _⟩) (v := ?_) rfl (by kernel_rfl) (by kernel_rfl) (by kernel_rfl) (fun _ _ _ h => h) (Or.inl ⟨by rfl, ?_⟩) (by assumption) ?_
          rotate_left
          · intro W hSW; obtain ⟨hSW0, hSW1, hSW2, hSW3⟩ := hSW; go_simp; first | done | with_reducible rfl
          (try simp only [Act.put, List.setIfInBounds_toArray, List.set_cons_zero, List.set_cons_succ])
          refine wpAnyH_take (i := 7) (oi := ⟨some 75, _, _, _, _, _⟩) (v := _) rfl (by kernel_rfl) (by kernel_rfl) (by kernel_rfl) (fun _ _ _ h => h) (yields_mid (by rfl) 49 _ (by rfl) g8 (7 * j) (by rfl) EJ _ (fun W h => h.2.1) Tryd.underlying49 rfl iR.out) (by assumption) ?_
          (try simp only [Act.put, List.setIfInBounds_toArray, List.set_cons_zero, List.set_cons_succ])
          refine wpAnyH_ready (rs := [8]) (by kernel_rfl) (by simp) ?_
          refine AllReadyH.cons (o := ⟨some 76, _, _, _, _, _⟩) rfl (fun K hK => ?_) (AllReadyH.nil)
          go_simp
          refine (CQ.out _).mono ?_
          rintro e W1 ⟨rfl, hb_1⟩
          have bl_1 := Below.then_ bl_0 hb_1
          clear hHeld
          refine hK.out _ _ ?_ (fun hHeld => ?_)
          · exact HK.out _ (Below.then_ hbel bl_1)
          clear hK K
          (try simp only [Act.put, List.setIfInBounds_toArray, List.set_cons_zero, List.set_cons_succ])
          refine wpAnyH_take (i := 9) (oi := ⟨some 77, _, _, _, _, _⟩) (v := ?_) rfl (by kernel_rfl) (by kernel_rfl) (by kernel_rfl) (fun _ _ _ h => h) (Or.inl ⟨by rfl, ?_⟩) (by assumption) ?_
          rotate_left
          · intro W hSW; obtain ⟨hSW0, hSW1, hSW2, hSW3⟩ := hSW; go_simp; first | done | with_reducible rfl
          (try simp only [Act.put, List.setIfInBounds_toArray, List.set_cons_zero, List.set_cons_succ])
          refine wpAnyH_take (i := 10) (oi := ⟨some 78, _, _, _, _, _⟩) (v := ?_) rfl (by kernel_rfl) (by kernel_rfl) (by kernel_rfl) (fun _ _ _ h => h) (Or.inl ⟨by rfl, ?_⟩) (by assumption) ?_
          rotate_left
          · intro W hSW; obtain ⟨hSW0, hSW1, hSW2, hSW3⟩ := hSW; go_simp; first | done | with_reducible rfl
          (try simp only [Act.put, List.setIfInBounds_toArray, List.set_cons_zero, List.set_cons_succ])
          refine wpAnyH_take (i := 11) (oi := ⟨some 79, _, _, _, _, _⟩) (v := ?_) rfl (by kernel_rfl) (by kernel_rfl) (by kernel_rfl) (fun _ _ _ h => h) (Or.inl ⟨by rfl, ?_⟩) (by assumption) ?_
          rotate_left
          · intro W hSW; obtain ⟨hSW0, hSW1, hSW2, hSW3⟩ := hSW; go_simp; first | done | with_reducible rfl
          (try simp only [Act.put, List.setIfInBounds_toArray, List.set_cons_zero, List.set_cons_succ])
          refine wpAnyH_take (i := 12) (oi := ⟨some 80, _, _, _, _, _⟩) (v := ?_) rfl (by kernel_rfl) (by kernel_rfl) (by kernel_rfl) (fun _ _ _ h => h) (Or.inl ⟨by rfl, ?_⟩) (by assumption) ?_
          rotate_left
          · intro W hSW; obtain ⟨hSW0, hSW1, hSW2, hSW3⟩ := hSW; go_simp; first | done | with_reducible rfl
          (try simp only [Act.put, List.setIfInBounds_toArray, List.set_cons_zero, List.set_cons_succ])
          refine wpAnyH_take (i := 13) (oi := ⟨some 81, _, _, _, _, _⟩) (v := ?_) rfl (by kernel_rfl) (by kernel_rfl) (by kernel_rfl) (fun _ _ _ h => h) (Or.inl ⟨by rfl, ?_⟩) (by assumption) ?_
          rotate_left
          · intro W hSW; obtain ⟨hSW0, hSW1, hSW2, hSW3⟩ := hSW; go_simp; first | done | with_reducible rfl
          (try simp only [Act.put, List.setIfInBounds_toArray, List.set_cons_zero, List.set_cons_succ])
          refine wpAnyH_take (i := 14) (oi := ⟨some 82, _, _, _, _, _⟩) (v := ?_) rfl (by kernel_rfl) (by kernel_rfl) (by kernel_rfl) (fun _ _ _ h => h) (Or.inl ⟨by rfl, ?_⟩) (by assumption) ?_
          rotate_left
          · intro W hSW; obtain ⟨hSW0, hSW1, hSW2, hSW3⟩ := hSW; go_simp; first | done | with_reducible rfl
          (try simp only [Act.put, List.setIfInBounds_toArray, List.set_cons_zero, List.set_cons_succ])
          refine wpAnyH_take (i := 15) (oi := ⟨some 83, _, _, _, _, _⟩) (v := ?_) rfl (by kernel_rfl) (by kernel_rfl) (by kernel_rfl) (fun _ _ _ h => h) (Or.inl ⟨by rfl, ?_⟩) (by assumption) ?_
          rotate_left
          · intro W hSW; obtain ⟨hSW0, hSW1, hSW2, hSW3⟩ := hSW; go_simp; first | done | with_reducible rfl
          (try simp only [Act.put, List.setIfInBounds_toArray, List.set_cons_zero, List.set_cons_succ])
          refine wpAnyH_take (i := 16) (oi := ⟨some 84, _, _, _, _, _⟩) (v := ?_) rfl (by kernel_rfl) (by kernel_rfl) (by kernel_rfl) (fun _ _ _ h => h) (Or.inl ⟨by rfl, ?_⟩) (by assumption) ?_
          rotate_left
          · intro W hSW; obtain ⟨hSW0, hSW1, hSW2, hSW3⟩ := hSW; go_simp; first | done | with_reducible rfl
          (try simp only [Act.put, List.setIfInBounds_toArray, List.set_cons_zero, List.set_cons_succ])
          refine wpAnyH_take (i := 17) (oi := ⟨some 85, _, _, _, _, _⟩) (v := ?_) rfl (by kernel_rfl) (by kernel_rfl) (by kernel_rfl) (fun _ _ _ h => h) (Or.inl ⟨by rfl, ?_⟩) (by assumption) ?_
          rotate_left
          · intro W hSW; obtain ⟨hSW0, hSW1, hSW2, hSW3⟩ := hSW; go_simp; first | done | with_reducible rfl
          (try simp only [Act.put, List.setIfInBounds_toArray, List.set_cons_zero, List.set_cons_succ])
          refine wpAnyH_take (i := 18) (oi := ⟨some 86, _, _, _, _, _⟩) (v := ?_) rfl (by kernel_rfl) (by kernel_rfl) (by kernel_rfl) (fun _ _ _ h => h) (Or.inl ⟨by rfl, ?_⟩) (by assumption) ?_
          rotate_left
          · intro W hSW; obtain ⟨hSW0, hSW1, hSW2, hSW3⟩ := hSW; go_simp; first | done | with_reducible rfl
          (try simp only [Act.put, List.setIfInBounds_toArray, List.set_cons_zero, List.set_cons_succ])
          refine wpAnyH_take (i := 19) (oi := ⟨some 87, _, _, _, _, _⟩) (v := ?_) rfl (by kernel_rfl) (by kernel_rfl) (by kernel_rfl) (fun _ _ _ h => h) (Or.inl ⟨by rfl, ?_⟩) (by assumption) ?_
          rotate_left
          · intro W hSW; obtain ⟨hSW0, hSW1, hSW2, hSW3⟩ := hSW; go_simp; first | done | with_reducible rfl
          (try simp only [Act.put, List.setIfInBounds_toArray, List.set_cons_zero, List.set_cons_succ])
          refine wpAnyH_take (i := 20) (oi := ⟨some 88, _, _, _, _, _⟩) (v := ?_) rfl (by kernel_rfl) (by kernel_rfl) (by kernel_rfl) (fun _ _ _ h => h) (Or.inl ⟨by rfl, ?_⟩) (by assumption) ?_
          rotate_left
          · intro W hSW; obtain ⟨hSW0, hSW1, hSW2, hSW3⟩ := hSW; go_simp; first | done | with_reducible rfl
          (try simp only [Act.put, List.setIfInBounds_toArray, List.set_cons_zero, List.set_cons_succ])
          refine wpAnyH_take (i := 21) (oi := ⟨some 89, _, _, _, _, _⟩) (v := ?_) rfl (by kernel_rfl) (by kernel_rfl) (by kernel_rfl) (fun _ _ _ h => h) (Or.inl ⟨by rfl, ?_⟩) (by assumption) ?_
          rotate_left
          · intro W hSW; obtain ⟨hSW0, hSW1, hSW2, hSW3⟩ := hSW; go_simp; first | done | with_reducible rfl
          (try simp only [Act.put, List.setIfInBounds_toArray, List.set_cons_zero, List.set_cons_succ])
          refine wpAnyH_take (i := 22) (oi := ⟨some 90, _, _, _, _, _⟩) (v := ?_) rfl (by kernel_rfl) (by kernel_rfl) (by kernel_rfl) (fun _ _ _ h => h) (Or.inl ⟨by rfl, ?_⟩) (by assumption) ?_
          rotate_left
          · intro W hSW; obtain ⟨hSW0, hSW1, hSW2, hSW3⟩ := hSW; go_simp; first | done | with_reducible rfl
          (try simp only [Act.put, List.setIfInBounds_toArray, List.set_cons_zero, List.set_cons_succ])
          refine wpAnyH_take (i := 23) (oi := ⟨some 91, _, _, _, _, _⟩) (v := ?_) rfl (by kernel_rfl) (by kernel_rfl) (by kernel_rfl) (fun _ _ _ h => h) (Or.inl ⟨by rfl, ?_⟩) (by assumption) ?_
          rotate_left
          · intro W hSW; obtain ⟨hSW0, hSW1, hSW2, hSW3⟩ := hSW; go_simp; first | done | with_reducible rfl
          (try simp only [Act.put, List.setIfInBounds_toArray, List.set_cons_zero, List.set_cons_succ])
          refine wpAnyH_take (i := 24) (oi := ⟨some 92, _, _, _, _, _⟩) (v := ?_) rfl (by kernel_rfl) (by kernel_rfl) (by kernel_rfl) (fun _ _ _ h => h) (Or.inl ⟨by rfl, ?_⟩) (by assumption) ?_
          rotate_left
          · intro W hSW; obtain ⟨hSW0, hSW1, hSW2, hSW3⟩ := hSW; go_simp; first | done | with_reducible rfl
          (try simp only [Act.put, List.setIfInBounds_toArray, List.set_cons_zero, List.set_cons_succ])
          refine wpAnyH_take (i := 25) (oi := ⟨some 93, _, _, _, _, _⟩) (v := ?_) rfl (by kernel_rfl) (by kernel_rfl) (by kernel_rfl) (fun _ _ _ h => h) (Or.inl ⟨by rfl, ?_⟩) (by assumption) ?_
          rotate_left
          · intro W hSW; obtain ⟨hSW0, hSW1, hSW2, hSW3⟩ := hSW; go_simp; first | done | with_reducible rfl
          (try simp only [Act.put, List.setIfInBounds_toArray, List.set_cons_zero, List.set_cons_succ])
          refine wpAnyH_take (i := 26) (oi := ⟨some 94, _, _, _, _, _⟩) (v := ?_) rfl (by kernel_rfl) (by kernel_rfl) (by kernel_rfl) (fun _ _ _ h => h) (Or.inl ⟨by rfl, ?_⟩) (by assumption) ?_
          rotate_left
          · intro W hSW; obtain ⟨hSW0, hSW1, hSW2, hSW3⟩ := hSW; go_simp; first | done | with_reducible rfl
          (try simp only [Act.put, List.setIfInBounds_toArray, List.set_cons_zero, List.set_cons_succ])
          refine wpAnyH_take (i := 27) (oi := ⟨some 95, _, _, _, _, _⟩) (v := ?_) rfl (by kernel_rfl) (by kernel_rfl) (by kernel_rfl) (fun _ _ _ h => h) (Or.inl ⟨by rfl, ?_⟩) (by assumption) ?_
          rotate_left
          · intro W hSW; obtain ⟨hSW0, hSW1, hSW2, hSW3⟩ := hSW; go_simp; first | done | with_reducible rfl
          (try simp only [Act.put, List.setIfInBounds_toArray, List.set_cons_zero, List.set_cons_succ])
          refine wpAnyH_done (by kernel_rfl) ?_ _
          refine NoPanic.normal ?_
          have bw1 := Below.then_ hbel bl_1
          have own1 := hown.below bl_1 (Nat.le_refl _)
          have hrd := HRD.out W1 bw1
          have hsz1 : w8.heap.size ≤ W1.heap.size := bw1.size
          go_wp2_with (at_builtin; refine wpList_app _ rfl _ _ 30 rfl w8.heap.size 5 i0 _ 1 Tryd.underlying30 hi0 hz0 hz1 hz2 rfl A9 m c9 (U8 cj) rfl own1 W1.heap.size (some ⟨g6, 7 * j + 3, none⟩) 4 4 (U8 fj) rfl hrd (by simp) (U8_one fj) (by omega) (by unfold maxLen; omega) hsz1 ?_; intro A10 c10 w10 hown10 hgrow10)
          go_roundw
          case rel =>
            refine ⟨j + 1, m + 4, by omega, by go_num, (by have := HM.out; unfold Hid; omega), A10, c10, rfl, ?_, bw1.grown hgrow10 hsz1 (fun q hq => (own1.block q hq).1)⟩
            rw [HCJ.out, U8_append]; exact hown10
          case measure => simp [intOf] <;> omega
      · obtain rfl : j = q := by omega
        have hcd : Cv.codeTo ls j = Cv.code ls := by unfold Cv.code; rw [← HN.out, HQ.out]
        rw [hcd] at hown
        have HC := Lib.hid hown.convO
        have C1 := Lib.hid (fun (W : World) (hB : Below wr.heap.size wr W) => C1'.out W (Below.then_ hbel hB))
        generalize hs1 : str (Cv.code ls) = s1 at *
        have HS1 := Lib.hid hs1
        have HK : Hid (∀ W, Below wr.heap.size wr W → (Below wr.heap.size wr W ∧ convO A9 m c9 W = .ok (.string s1) W)) := fun W hB => ⟨hB, HC.out W hB⟩
        clear hs1 HC C1' hcd
        have hany := convO_eq
        have hp1 : (s1.toList == s1.toList) = true := by simp
        go_wp2_with fail
        refine wp_region_noPanic ?_
        refine wp_region_held_drew (S := fun W => Below wr.heap.size wr W ∧ convO A9 m c9 W = .ok (.string s1) W) (by kernel_rfl) (HK.out _ (Below.refl _ _).drew) (fun hHeld => ?_)
        refine wpAnyH_take (i := 0) (oi := ⟨some 103, _, _, _, _, _⟩) (v := ?_) rfl (by kernel_rfl) (by kernel_rfl) (by kernel_rfl) (fun _ _ _ h => h) (Or.inl ⟨by rfl, ?_⟩) (by assumption) ?_
        rotate_left
        · intro W hSW; obtain ⟨hSW0, hSW1⟩ := hSW; go_simp; first | done | with_reducible rfl
        (try simp only [Act.put, List.setIfInBounds_toArray, List.set_cons_zero, List.set_cons_succ])
        refine wpAnyH_take (i := 1) (oi := ⟨some 104, _, _, _, _, _⟩) (v := ?_) rfl (by kernel_rfl) (by kernel_rfl) (by kernel_rfl) (fun _ _ _ h => h) (Or.inl ⟨by rfl, ?_⟩) (by assumption) ?_
        rotate_left
        · intro W hSW; obtain ⟨hSW0, hSW1⟩ := hSW; go_simp; first | done | with_reducible rfl
        (try simp only [Act.put, List.setIfInBounds_toArray, List.set_cons_zero, List.set_cons_succ])
        refine wpAnyH_take (i := 2) (oi := ⟨some 105, _, _, _, _, _⟩) (v := ?_) rfl (by kernel_rfl) (by kernel_rfl) (by kernel_rfl) (fun _ _ _ h => h) (Or.inl ⟨by rfl, ?_⟩) (by assumption) ?_
        rotate_left
        · intro W hSW; obtain ⟨hSW0, hSW1⟩ := hSW; go_simp; first | done | with_reducible rfl
        (try simp only [Act.put, List.setIfInBounds_toArray, List.set_cons_zero, List.set_cons_succ])
        refine wpAnyH_ready (rs := [3]) (by kernel_rfl) (by simp) ?_
        refine AllReadyH.cons (o := ⟨some 106, _, _, _, _, _⟩) rfl (fun K hK => ?_) (AllReadyH.nil)
        go_simp
        have bw := hHeld.1
        refine (C1.out _ bw).mono ?_
        rintro e wc ⟨Ac, nc, cc, rfl, owc, bec⟩
        have bc := Below.then_ bw bec
        have hq := owc.convO _ (Below.refl _ _)
        rw [HS1.out] at hq
        clear hHeld bw
        refine hK.out _ _ ?_ (fun hHeld => ?_)
        · exact HK.out _ bc
        clear hK K
        (try simp only [Act.put, List.setIfInBounds_toArray, List.set_cons_zero, List.set_cons_succ])
        refine wpAnyH_ready (rs := [4]) (by kernel_rfl) (by simp) ?_
        refine AllReadyH.cons (o := ⟨some 107, _, _, _, _, _⟩) rfl (fun K hK => ?_) (AllReadyH.nil)
        go_simp
        clear hHeld
        refine hK.out _ _ ?_ (fun hHeld => ?_)
        · exact HK.out _ bc
        clear hK K
        (try simp only [Act.put, List.setIfInBounds_toArray, List.set_cons_zero, List.set_cons_succ])
        refine wpAnyH_take (i := 5) (oi := ⟨some 108, _, _, _, _, _⟩) (v := ?_) rfl (by kernel_rfl) (by kernel_rfl) (by kernel_rfl) (fun _ _ _ h => h) (Or.inl ⟨by rfl, ?_⟩) (by assumption) ?_
        rotate_left
        · intro W hSW; obtain ⟨hSW0, hSW1⟩ := hSW; go_simp; first | done | with_reducible rfl
        (try simp only [Act.put, List.setIfInBounds_toArray, List.set_cons_zero, List.set_cons_succ])
        refine wpAnyH_take (i := 6) (oi := ⟨some 2, _, _, _, _, _⟩) (v := ?_) rfl (by kernel_rfl) (by kernel_rfl) (by kernel_rfl) (fun _ _ _ h => h) (Or.inl ⟨by rfl, ?_⟩) (by assumption) ?_
        rotate_left
        · intro W hSW; obtain ⟨hSW0, hSW1⟩ := hSW; go_simp; first | done | with_reducible rfl
        (try simp only [Act.put, List.setIfInBounds_toArray, List.set_cons_zero, List.set_cons_succ])
        refine wpAnyH_done (by kernel_rfl) ?_ _
        refine NoPanic.normal ?_
        go_wp2
        go_ret
        exact ⟨rfl, (Below.then_ HB8.out hbel).trans (bc.mono (Nat.le_trans HB8.out.size hsz))⟩
  · have hbf : Bm.isB ls = false := by simpa using hbit
    have C := Lib.hid (pathNo A5 k c5 ls w5 rl BK.out hbf (by omega))
    have CR := Lib.hid (fun (W : World) (hB : Below w5.heap.size w5 W) => refRight A5 k c5 ls W (own.rdOf hB) BK.out (by omega))
    rw [hbf] at CR
    clear hbit hbf
    go_wp2_with (first | (go_at_call 26; refine C.out.mono ?_; rintro e w' ⟨rfl, rfl⟩) | (go_at_call 23; refine (CD.out w5 hT5).mono ?_; rintro e w7 ⟨rfl, be7⟩; have hcv7 := own.conv w7 be7; rw [HS0.out] at hcv7) | (go_at_call 18; refine (CR.out w7 be7).mono ?_; rintro e w' ⟨rfl, rfl⟩))
    go_ret
    exact ⟨rfl, Below.then_ bel be7⟩
end Go.Proofs.YtlnjealhiikmeaaDoor
