/-
  The walk of VersionCodes.
-/
import Derived.Test.YtibddlldgmidlaaDoorNh
import Derived.Test.YtibddlldgmidlaaDoorKe
import Derived.Test.YtibddlldgmidlaaDoorPa
namespace Go.Proofs.YtibddlldgmidlaaDoor
open Go.RowKit
set_option linter.unusedVariables false
set_option linter.unusedSimpArgs false

theorem Rd.convSO {w : World} {B b off n c : Nat} {bs : List Nat} (h : Rd w B (some ⟨b, off, none⟩) n (U8 bs)) (W : World) (hb : Below B w W) : convO (some ⟨b, off, none⟩) n c W = .ok (.string (str bs)) W := h.convS W hb
set_option maxHeartbeats 2000000 in
set_option maxRecDepth 100000 in
/-- VersionCodes. -/
theorem walkVersionCodes (A : Option Addr) (n c : Nat) (xs : List Nat) (v : Int) (w : World) (h1 : Rd w w.heap.size A n (U8 xs)) (b1 : ∀ b ∈ xs, b < 256) (hnc : n ≤ c) (hc : c ≤ 9223372036854775807) (hnone : A = none → n = 0 ∧ c = 0) (hT : Taps w) :
    Calls Tryd.prog 3 #[.slice A n c, .int .i64 v] w fun e w' => e = .returned (.bool true) ∧ Below w.heap.size w w' := by
  obtain ⟨i0, hi0, hz0, hz1, hz2⟩ := info_parts info5
  obtain ⟨k, hk, hk2, hk3⟩ := min_if n 100
  obtain ⟨hm1, hm2⟩ := hk3 100 rfl
  clear hk3
  have r1 := h1.cut8 k hk2
  have bk := take256 b1 k
  generalize xs.take k = ls at *
  have r2 : Rd (w.alloc (.cells #[] 5)) w.heap.size A k (U8 ls) := r1.below ((Below.refl _ _).alloc (Nat.le_refl _) _)
  have hn2 : A = none → k = 0 ∧ c = 0 := fun h => ⟨by have := (hnone h).1; omega, (hnone h).2⟩
  have o1 : Own (w.alloc (.cells #[] 5)) w.heap.size 5 (some ⟨w.heap.size, 0, none⟩) 0 0 [] := ⟨World.ownsRow_made w #[] 0 (Nat.le_refl _) (by unfold maxLen; omega) (by simp)⟩
  have BK := Lib.hid bk
  clear h1 b1 hnone r1 bk
  go_enter Tryd.func3, Tryd.ntmps3
  go_upto_region 2 with (at_builtin; refine wpList_app _ rfl _ _ 22 rfl w.heap.size 5 i0 _ 1 Tryd.underlying22 hi0 hz0 hz1 hz2 rfl _ 0 0 [] rfl o1 w.heap.size A k c (U8 ls) rfl r2 hn2 (U8_one ls) (by omega) (by unfold maxLen; omega) (by simp) ?_; intro A5 c5 w5 hown5 hgrow5; have own := hown5.to (Nat.zero_add k) (List.nil_append (U8 ls)))
  have bel : Below w.heap.size w w5 := ((Below.refl _ _).alloc (Nat.le_refl _) _).grown hgrow5 (by simp) (fun j hj => by simp [Value.ownBlock] at hj; omega)
  clear hown5 hgrow5 r2 hn2 o1 hi0 hz0 hz1 hz2 hm1 hm2
  have rl := own.rdOf (Below.refl _ _)
  have hn5 := own.none_
  have HN := Lib.hid rl.len8
  have hT5 := hT.after bel
  have CD := Lib.hid splitsC
  have CR := Lib.hid (fun (W : World) (hB : Below w5.heap.size w5 W) => refRight A5 k c5 ls W (own.rdOf hB) BK.out (by omega))
  clear hT
  by_cases hbit : Bm.isB ls = true
  · have hl := Bm.isB_true hbit
    rw [hbit] at CR
    by_cases hno : v < 0 ∨ 3 < v
    · have C := Lib.hid (vCodeArg A5 k c5 v ls w5 rl hn5 hl (by omega) hno hT5)
      clear hbit hl
      by_cases h1 : v < 0
      · go_wp2_with (first | (go_at_call 10; refine C.out.mono ?_; rintro e w6 ⟨rfl, be6⟩) | (go_at_call 11; refine (CD.out w6).mono ?_; rintro e w7 ⟨rfl, be7⟩) | (go_at_call 12; refine (CR.out w7 (Below.then_ be6 be7)).mono ?_; rintro e w' ⟨rfl, rfl⟩))
        go_ret
        exact ⟨rfl, Below.then_ (Below.then_ bel be6) be7⟩
      · have h2 : 3 < v := by omega
        go_wp2_with (first | (go_at_call 10; refine C.out.mono ?_; rintro e w6 ⟨rfl, be6⟩) | (go_at_call 11; refine (CD.out w6).mono ?_; rintro e w7 ⟨rfl, be7⟩) | (go_at_call 12; refine (CR.out w7 (Below.then_ be6 be7)).mono ?_; rintro e w' ⟨rfl, rfl⟩))
        go_ret
        exact ⟨rfl, Below.then_ (Below.then_ bel be6) be7⟩
    · obtain ⟨a, ha⟩ : ∃ a : Nat, v = (a : Int) := ⟨v.toNat, by omega⟩
      subst ha
      have ha4 : a < 4 := by omega
      have C := Lib.hid (vCode A5 k c5 a ls w5 rl hn5 hl (by omega) ha4 hT5)
      have d1 : decide ((3 : Int) < (a : Int)) = false := by simp <;> omega
      have HL := Lib.hid hl
      have C6a := Lib.hid (fun (W : World) (hB : Below w5.heap.size w5 W) => refCode A5 k c5 ls W (own.rdOf hB) hl (by omega))
      obtain ⟨P, hP⟩ : ∃ P, P = Cv.pick (Cv.code ls) a := ⟨_, rfl⟩
      have HPL : Hid (P.length = k + 6) := by unfold Hid; rw [hP, Cv.pick_length, Cv.code_length, ← HN.out]; omega
      have HPB : Hid (∀ x ∈ P, x ≤ 1) := by unfold Hid; rw [hP]; exact Cv.pick_bit _ (Cv.code_bit ls hl) a
      have HAL : Hid (Cv.al P a (k + 6) = ls ++ Cv.z6) := by unfold Hid; rw [hP, HN.out]; exact Cv.al_code ls a
      have HCL : Hid ((Cv.code ls).length = 4 * (k + 6)) := by unfold Hid; rw [Cv.code_length, ← HN.out]
      have C8 := Lib.hid (fun (Ac : Option Addr) (nc cc : Nat) (W : World) (h : Rd W W.heap.size Ac nc (U8 (Cv.code ls))) => refPick Ac nc cc (k + 6) a (Cv.code ls) W h (by rw [h.len8, HCL.out]) (by omega) ha4)
      rw [← hP] at C C8
      obtain ⟨T, hTT⟩ : ∃ T, T = k + 6 := ⟨_, rfl⟩
      have HTT := Lib.hid hTT
      rw [← hTT] at C HPL HAL
      clear hbit hl hno hP hTT rl hn5
      go_upto_region 9 with (first | (go_at_call 10; refine C.out.mono ?_; rintro e w6 ⟨g, rfl, hg, q, be6⟩) | (go_at_call 11; refine (CD.out w6).mono ?_; rintro e w7 ⟨rfl, be7⟩) | (go_at_call 12; refine (CR.out w7 (Below.then_ be6 be7)).mono ?_; rintro e w' ⟨rfl, rfl⟩))
      replace q := q.after be7
      have be57 := Below.then_ be6 be7
      have CA := Lib.hid (vAlone (some ⟨g, 0, none⟩) T T a P w7 (q.rd8 HPL.out) HPB.out (by have := HTT.out; omega) (by have := HTT.out; omega) ha4 (hT5.after be57))
      rw [HAL.out, show T - 6 = k by have := HTT.out; omega] at CA
      clear CD CR C be6 be7
      go_wp2_with fail
      refine CA.out.mono ?_
      rintro e w9 ⟨hA, be9⟩
      rcases hA with ⟨_, g9, rfl, r9⟩ | ⟨⟨j, j1, j2, j3⟩, rfl⟩
      rotate_left
      · exact absurd (z6_getD ls j (by rw [← HN.out]; exact j1)) j3
      have htk : (ls ++ Cv.z6).take k = ls := by rw [HN.out]; simp
      rw [htk] at r9
      have be59 := Below.then_ be57 be9
      replace q := q.after be9
      obtain ⟨s1, hs1⟩ : ∃ s, str P = s := ⟨_, rfl⟩
      obtain ⟨s0, hs0⟩ : ∃ s, str ls = s := ⟨_, rfl⟩
      have HS1 := Lib.hid hs1
      have HK : Hid (∀ W, Below w9.heap.size w9 W → (Below w9.heap.size w9 W ∧ convO (some ⟨g, 0, none⟩) T T W = .ok (.string s1) W ∧ convO (some ⟨g9, 0, none⟩) k k W = .ok (.string s0) W ∧ convO A5 k c5 W = .ok (.string s0) W)) := fun W hB => by
        refine ⟨hB, ?_, ?_, ?_⟩
        · rw [← hs1]; exact (q.rd8 HPL.out).convSO W hB
        · rw [← hs0]; exact r9.convSO W hB
        · rw [← hs0]; exact own.convO W (Below.then_ be59 hB)
      have C6 := Lib.hid (fun (W : World) (hB : Below w9.heap.size w9 W) => C6a.out W (Below.then_ be59 hB))
      have C17 := Lib.hid (fun W => vBits k W (by omega))
      rw [← HTT.out] at C17
      have HB9 := Lib.hid (Below.then_ bel be59)
      have tT : ((T : Int) == (T : Int)) = true := by simp
      have t1 : (s1.toList == s1.toList) = true := by simp
      have t0 : (s0.toList == s0.toList) = true := by simp
      have hany := convO_eq
      clear hs0 hs1 q r9 own htk CA C6a be57 be9 be59 hg
      go_wp2_with fail
      refine wp_region_noPanic ?_
      refine wp_region_held_drew (S := fun W => Below w9.heap.size w9 W ∧ convO (some ⟨g, 0, none⟩) T T W = .ok (.string s1) W ∧ convO (some ⟨g9, 0, none⟩) k k W = .ok (.string s0) W ∧ convO A5 k c5 W = .ok (.string s0) W) (by kernel_rfl) (HK.out _ (Below.refl _ _).drew) (fun hHeld => ?_)
      refine wpAnyH_take (i := 0) (oi := ⟨some 53, _, _, _, _, _⟩) (v := ?_) rfl (by kernel_rfl) (by kernel_rfl) (by kernel_rfl) (fun _ _ _ h => h) (Or.inl ⟨by rfl, ?_⟩) hHeld ?_
      rotate_left
      · intro W hSW; obtain ⟨hSW0, hSW1, hSW2, hSW3⟩ := hSW; go_simp; first | done | with_reducible rfl
      (try simp only [Act.put, List.setIfInBounds_toArray, List.set_cons_zero, List.set_cons_succ])
      refine wpAnyH_take (i := 1) (oi := ⟨some 54, _, _, _, _, _⟩) (v := ?_) rfl (by kernel_rfl) (by kernel_rfl) (by kernel_rfl) (fun _ _ _ h => h) (Or.inl ⟨by rfl, ?_⟩) hHeld ?_
      rotate_left
      · intro W hSW; obtain ⟨hSW0, hSW1, hSW2, hSW3⟩ := hSW; go_simp; first | done | with_reducible rfl
      (try simp only [Act.put, List.setIfInBounds_toArray, List.set_cons_zero, List.set_cons_succ])
      refine wpAnyH_take (i := 2) (oi := ⟨some 55, _, _, _, _, _⟩) (v := ?_) rfl (by kernel_rfl) (by kernel_rfl) (by kernel_rfl) (fun _ _ _ h => h) (Or.inl ⟨by rfl, ?_⟩) hHeld ?_
      rotate_left
      · intro W hSW; obtain ⟨hSW0, hSW1, hSW2, hSW3⟩ := hSW; go_simp; first | done | with_reducible rfl
      (try simp only [Act.put, List.setIfInBounds_toArray, List.set_cons_zero, List.set_cons_succ])
      refine wpAnyH_take (i := 3) (oi := ⟨some 56, _, _, _, _, _⟩) (v := ?_) rfl (by kernel_rfl) (by kernel_rfl) (by kernel_rfl) (fun _ _ _ h => h) (Or.inl ⟨by rfl, ?_⟩) hHeld ?_
      rotate_left
      · intro W hSW; obtain ⟨hSW0, hSW1, hSW2, hSW3⟩ := hSW; go_simp; first | done | with_reducible rfl
      (try simp only [Act.put, List.setIfInBounds_toArray, List.set_cons_zero, List.set_cons_succ])
      refine wpAnyH_take (i := 4) (oi := ⟨some 57, _, _, _, _, _⟩) (v := ?_) rfl (by kernel_rfl) (by kernel_rfl) (by kernel_rfl) (fun _ _ _ h => h) (Or.inl ⟨by rfl, ?_⟩) hHeld ?_
      rotate_left
      · intro W hSW; obtain ⟨hSW0, hSW1, hSW2, hSW3⟩ := hSW; go_simp; first | done | with_reducible rfl
      (try simp only [Act.put, List.setIfInBounds_toArray, List.set_cons_zero, List.set_cons_succ])
      refine wpAnyH_take (i := 5) (oi := ⟨some 58, _, _, _, _, _⟩) (v := ?_) rfl (by kernel_rfl) (by kernel_rfl) (by kernel_rfl) (fun _ _ _ h => h) (Or.inl ⟨by rfl, ?_⟩) hHeld ?_
      rotate_left
      · intro W hSW; obtain ⟨hSW0, hSW1, hSW2, hSW3⟩ := hSW; go_simp; first | done | with_reducible rfl
      (try simp only [Act.put, List.setIfInBounds_toArray, List.set_cons_zero, List.set_cons_succ])
      refine wpAnyH_take (i := 7) (oi := ⟨some 60, _, _, _, _, _⟩) (v := ?_) rfl (by kernel_rfl) (by kernel_rfl) (by kernel_rfl) (fun _ _ _ h => h) (Or.inl ⟨by rfl, ?_⟩) hHeld ?_
      rotate_left
      · intro W hSW; obtain ⟨hSW0, hSW1, hSW2, hSW3⟩ := hSW; go_simp; first | done | with_reducible rfl
      (try simp only [Act.put, List.setIfInBounds_toArray, List.set_cons_zero, List.set_cons_succ])
      refine wpAnyH_ready (rs := [6]) (by kernel_rfl) (by simp) ?_
      refine AllReadyH.cons (o := ⟨some 59, _, _, _, _, _⟩) rfl (fun K hK => ?_) (AllReadyH.nil)
      go_simp
      have bw := hHeld.1
      refine (C6.out _ bw).mono ?_
      rintro e wc ⟨Ac, nc, cc, rfl, owc, bec⟩
      have bc := Below.then_ bw bec
      clear hHeld bw bec
      refine hK.out _ _ ?_ (fun hHeld => ?_)
      · exact HK.out _ bc
      clear hK K
      (try simp only [Act.put, List.setIfInBounds_toArray, List.set_cons_zero, List.set_cons_succ])
      refine wpAnyH_ready (rs := [8]) (by kernel_rfl) (by simp) ?_
      refine AllReadyH.cons (o := ⟨some 61, _, _, _, _, _⟩) rfl (fun K hK => ?_) (AllReadyH.nil)
      go_simp
      refine (C8.out _ _ _ _ owc.rd).mono ?_
      rintro e wd ⟨Ad, nd, cd, rfl, owd, bed⟩
      have bd := Below.then_ bc bed
      have hq := owd.convO _ (Below.refl _ _)
      rw [HS1.out] at hq
      clear hHeld bed
      refine hK.out _ _ ?_ (fun hHeld => ?_)
      · exact HK.out _ bd
      clear hK K
      (try simp only [Act.put, List.setIfInBounds_toArray, List.set_cons_zero, List.set_cons_succ])
      refine wpAnyH_ready (rs := [9]) (by kernel_rfl) (by simp) ?_
      refine AllReadyH.cons (o := ⟨some 62, _, _, _, _, _⟩) rfl (fun K hK => ?_) (AllReadyH.nil)
      go_simp
      clear hHeld
      refine hK.out _ _ ?_ (fun hHeld => ?_)
      · exact HK.out _ bd
      clear hK K
      (try simp only [Act.put, List.setIfInBounds_toArray, List.set_cons_zero, List.set_cons_succ])
      refine wpAnyH_take (i := 10) (oi := ⟨some 63, _, _, _, _, _⟩) (v := ?_) rfl (by kernel_rfl) (by kernel_rfl) (by kernel_rfl) (fun _ _ _ h => h) (Or.inl ⟨by rfl, ?_⟩) hHeld ?_
      rotate_left
      · intro W hSW; obtain ⟨hSW0, hSW1, hSW2, hSW3⟩ := hSW; go_simp; first | done | with_reducible rfl
      (try simp only [Act.put, List.setIfInBounds_toArray, List.set_cons_zero, List.set_cons_succ])
      refine wpAnyH_take (i := 11) (oi := ⟨some 64, _, _, _, _, _⟩) (v := ?_) rfl (by kernel_rfl) (by kernel_rfl) (by kernel_rfl) (fun _ _ _ h => h) (Or.inl ⟨by rfl, ?_⟩) hHeld ?_
      rotate_left
      · intro W hSW; obtain ⟨hSW0, hSW1, hSW2, hSW3⟩ := hSW; go_simp; first | done | with_reducible rfl
      (try simp only [Act.put, List.setIfInBounds_toArray, List.set_cons_zero, List.set_cons_succ])
      refine wpAnyH_take (i := 12) (oi := ⟨some 65, _, _, _, _, _⟩) (v := ?_) rfl (by kernel_rfl) (by kernel_rfl) (by kernel_rfl) (fun _ _ _ h => h) (Or.inl ⟨by rfl, ?_⟩) hHeld ?_
      rotate_left
      · intro W hSW; obtain ⟨hSW0, hSW1, hSW2, hSW3⟩ := hSW; go_simp; first | done | with_reducible rfl
      (try simp only [Act.put, List.setIfInBounds_toArray, List.set_cons_zero, List.set_cons_succ])
      refine wpAnyH_take (i := 13) (oi := ⟨some 66, _, _, _, _, _⟩) (v := ?_) rfl (by kernel_rfl) (by kernel_rfl) (by kernel_rfl) (fun _ _ _ h => h) (Or.inl ⟨by rfl, ?_⟩) hHeld ?_
      rotate_left
      · intro W hSW; obtain ⟨hSW0, hSW1, hSW2, hSW3⟩ := hSW; go_simp; first | done | with_reducible rfl
      (try simp only [Act.put, List.setIfInBounds_toArray, List.set_cons_zero, List.set_cons_succ])
      refine wpAnyH_take (i := 14) (oi := ⟨some 67, _, _, _, _, _⟩) (v := ?_) rfl (by kernel_rfl) (by kernel_rfl) (by kernel_rfl) (fun _ _ _ h => h) (Or.inl ⟨by rfl, ?_⟩) hHeld ?_
      rotate_left
      · intro W hSW; obtain ⟨hSW0, hSW1, hSW2, hSW3⟩ := hSW; go_simp; first | done | with_reducible rfl
      (try simp only [Act.put, List.setIfInBounds_toArray, List.set_cons_zero, List.set_cons_succ])
      refine wpAnyH_take (i := 15) (oi := ⟨some 68, _, _, _, _, _⟩) (v := ?_) rfl (by kernel_rfl) (by kernel_rfl) (by kernel_rfl) (fun _ _ _ h => h) (Or.inl ⟨by rfl, ?_⟩) hHeld ?_
      rotate_left
      · intro W hSW; obtain ⟨hSW0, hSW1, hSW2, hSW3⟩ := hSW; go_simp; first | done | with_reducible rfl
      (try simp only [Act.put, List.setIfInBounds_toArray, List.set_cons_zero, List.set_cons_succ])
      refine wpAnyH_take (i := 16) (oi := ⟨some 69, _, _, _, _, _⟩) (v := ?_) rfl (by kernel_rfl) (by kernel_rfl) (by kernel_rfl) (fun _ _ _ h => h) (Or.inl ⟨by rfl, ?_⟩) hHeld ?_
      rotate_left
      · intro W hSW; obtain ⟨hSW0, hSW1, hSW2, hSW3⟩ := hSW; go_simp; first | done | with_reducible rfl
      (try simp only [Act.put, List.setIfInBounds_toArray, List.set_cons_zero, List.set_cons_succ])
      refine wpAnyH_ready (rs := [17]) (by kernel_rfl) (by simp) ?_
      refine AllReadyH.cons (o := ⟨some 70, _, _, _, _, _⟩) rfl (fun K hK => ?_) (AllReadyH.nil)
      go_simp
      refine (C17.out _).mono ?_
      rintro e wf ⟨rfl, rfl⟩
      clear hHeld
      refine hK.out _ _ ?_ (fun hHeld => ?_)
      · exact HK.out _ bd
      clear hK K
      (try simp only [Act.put, List.setIfInBounds_toArray, List.set_cons_zero, List.set_cons_succ])
      refine wpAnyH_take (i := 18) (oi := ⟨some 71, _, _, _, _, _⟩) (v := ?_) rfl (by kernel_rfl) (by kernel_rfl) (by kernel_rfl) (fun _ _ _ h => h) (Or.inl ⟨by rfl, ?_⟩) hHeld ?_
      rotate_left
      · intro W hSW; obtain ⟨hSW0, hSW1, hSW2, hSW3⟩ := hSW; go_simp; first | done | with_reducible rfl
      (try simp only [Act.put, List.setIfInBounds_toArray, List.set_cons_zero, List.set_cons_succ])
      refine wpAnyH_take (i := 19) (oi := ⟨some 72, _, _, _, _, _⟩) (v := ?_) rfl (by kernel_rfl) (by kernel_rfl) (by kernel_rfl) (fun _ _ _ h => h) (Or.inl ⟨by rfl, ?_⟩) hHeld ?_
      rotate_left
      · intro W hSW; obtain ⟨hSW0, hSW1, hSW2, hSW3⟩ := hSW; go_simp; first | done | with_reducible rfl
      (try simp only [Act.put, List.setIfInBounds_toArray, List.set_cons_zero, List.set_cons_succ])
      refine wpAnyH_take (i := 20) (oi := ⟨some 73, _, _, _, _, _⟩) (v := ?_) rfl (by kernel_rfl) (by kernel_rfl) (by kernel_rfl) (fun _ _ _ h => h) (Or.inl ⟨by rfl, ?_⟩) hHeld ?_
      rotate_left
      · intro W hSW; obtain ⟨hSW0, hSW1, hSW2, hSW3⟩ := hSW; go_simp; first | done | with_reducible rfl
      (try simp only [Act.put, List.setIfInBounds_toArray, List.set_cons_zero, List.set_cons_succ])
      refine wpAnyH_take (i := 21) (oi := ⟨some 74, _, _, _, _, _⟩) (v := ?_) rfl (by kernel_rfl) (by kernel_rfl) (by kernel_rfl) (fun _ _ _ h => h) (Or.inl ⟨by rfl, ?_⟩) hHeld ?_
      rotate_left
      · intro W hSW; obtain ⟨hSW0, hSW1, hSW2, hSW3⟩ := hSW; go_simp; first | done | with_reducible rfl
      (try simp only [Act.put, List.setIfInBounds_toArray, List.set_cons_zero, List.set_cons_succ])
      refine wpAnyH_take (i := 22) (oi := ⟨some 75, _, _, _, _, _⟩) (v := ?_) rfl (by kernel_rfl) (by kernel_rfl) (by kernel_rfl) (fun _ _ _ h => h) (Or.inl ⟨by rfl, ?_⟩) hHeld ?_
      rotate_left
      · intro W hSW; obtain ⟨hSW0, hSW1, hSW2, hSW3⟩ := hSW; go_simp; first | done | with_reducible rfl
      (try simp only [Act.put, List.setIfInBounds_toArray, List.set_cons_zero, List.set_cons_succ])
      refine wpAnyH_take (i := 23) (oi := ⟨some 76, _, _, _, _, _⟩) (v := ?_) rfl (by kernel_rfl) (by kernel_rfl) (by kernel_rfl) (fun _ _ _ h => h) (Or.inl ⟨by rfl, ?_⟩) hHeld ?_
      rotate_left
      · intro W hSW; obtain ⟨hSW0, hSW1, hSW2, hSW3⟩ := hSW; go_simp; first | done | with_reducible rfl
      (try simp only [Act.put, List.setIfInBounds_toArray, List.set_cons_zero, List.set_cons_succ])
      refine wpAnyH_take (i := 24) (oi := ⟨some 77, _, _, _, _, _⟩) (v := ?_) rfl (by kernel_rfl) (by kernel_rfl) (by kernel_rfl) (fun _ _ _ h => h) (Or.inl ⟨by rfl, ?_⟩) hHeld ?_
      rotate_left
      · intro W hSW; obtain ⟨hSW0, hSW1, hSW2, hSW3⟩ := hSW; go_simp; first | done | with_reducible rfl
      (try simp only [Act.put, List.setIfInBounds_toArray, List.set_cons_zero, List.set_cons_succ])
      refine wpAnyH_take (i := 25) (oi := ⟨some 78, _, _, _, _, _⟩) (v := ?_) rfl (by kernel_rfl) (by kernel_rfl) (by kernel_rfl) (fun _ _ _ h => h) (Or.inl ⟨by rfl, ?_⟩) hHeld ?_
      rotate_left
      · intro W hSW; obtain ⟨hSW0, hSW1, hSW2, hSW3⟩ := hSW; go_simp; first | done | with_reducible rfl
      (try simp only [Act.put, List.setIfInBounds_toArray, List.set_cons_zero, List.set_cons_succ])
      refine wpAnyH_take (i := 26) (oi := ⟨some 79, _, _, _, _, _⟩) (v := ?_) rfl (by kernel_rfl) (by kernel_rfl) (by kernel_rfl) (fun _ _ _ h => h) (Or.inl ⟨by rfl, ?_⟩) hHeld ?_
      rotate_left
      · intro W hSW; obtain ⟨hSW0, hSW1, hSW2, hSW3⟩ := hSW; go_simp; first | done | with_reducible rfl
      (try simp only [Act.put, List.setIfInBounds_toArray, List.set_cons_zero, List.set_cons_succ])
      refine wpAnyH_take (i := 27) (oi := ⟨some 80, _, _, _, _, _⟩) (v := ?_) rfl (by kernel_rfl) (by kernel_rfl) (by kernel_rfl) (fun _ _ _ h => h) (Or.inl ⟨by rfl, ?_⟩) hHeld ?_
      rotate_left
      · intro W hSW; obtain ⟨hSW0, hSW1, hSW2, hSW3⟩ := hSW; go_simp; first | done | with_reducible rfl
      (try simp only [Act.put, List.setIfInBounds_toArray, List.set_cons_zero, List.set_cons_succ])
      refine wpAnyH_take (i := 28) (oi := ⟨some 81, _, _, _, _, _⟩) (v := ?_) rfl (by kernel_rfl) (by kernel_rfl) (by kernel_rfl) (fun _ _ _ h => h) (Or.inl ⟨by rfl, ?_⟩) hHeld ?_
      rotate_left
      · intro W hSW; obtain ⟨hSW0, hSW1, hSW2, hSW3⟩ := hSW; go_simp; first | done | with_reducible rfl
      (try simp only [Act.put, List.setIfInBounds_toArray, List.set_cons_zero, List.set_cons_succ])
      refine wpAnyH_take (i := 29) (oi := ⟨some 82, _, _, _, _, _⟩) (v := ?_) rfl (by kernel_rfl) (by kernel_rfl) (by kernel_rfl) (fun _ _ _ h => h) (Or.inl ⟨by rfl, ?_⟩) hHeld ?_
      rotate_left
      · intro W hSW; obtain ⟨hSW0, hSW1, hSW2, hSW3⟩ := hSW; go_simp; first | done | with_reducible rfl
      (try simp only [Act.put, List.setIfInBounds_toArray, List.set_cons_zero, List.set_cons_succ])
      refine wpAnyH_take (i := 30) (oi := ⟨some 83, _, _, _, _, _⟩) (v := ?_) rfl (by kernel_rfl) (by kernel_rfl) (by kernel_rfl) (fun _ _ _ h => h) (Or.inl ⟨by rfl, ?_⟩) hHeld ?_
      rotate_left
      · intro W hSW; obtain ⟨hSW0, hSW1, hSW2, hSW3⟩ := hSW; go_simp; first | done | with_reducible rfl
      (try simp only [Act.put, List.setIfInBounds_toArray, List.set_cons_zero, List.set_cons_succ])
      refine wpAnyH_take (i := 31) (oi := ⟨some 4, _, _, _, _, _⟩) (v := ?_) rfl (by kernel_rfl) (by kernel_rfl) (by kernel_rfl) (fun _ _ _ h => h) (Or.inl ⟨by rfl, ?_⟩) hHeld ?_
      rotate_left
      · intro W hSW; obtain ⟨hSW0, hSW1, hSW2, hSW3⟩ := hSW; go_simp; first | done | with_reducible rfl
      (try simp only [Act.put, List.setIfInBounds_toArray, List.set_cons_zero, List.set_cons_succ])
      refine wpAnyH_done (by kernel_rfl) ?_ _
      refine NoPanic.normal ?_
      clear hHeld
      go_wp2
      go_ret
      exact ⟨rfl, Below.then_ HB9.out bd⟩
  · have hf : Bm.isB ls = false := by simpa using hbit
    rw [hf] at CR
    have C := Lib.hid ((vCodeField A5 k c5 v ls w5 rl BK.out hf (by omega)).mono (fun e w' h => (⟨h.1, h.2 ▸ Below.refl _ _⟩ : e = .returned (.tuple #[.slice none 0 0, .int .i64 5]) ∧ Below w5.heap.size w5 w')))
    clear hbit hf
    go_wp2_with (first | (go_at_call 10; refine C.out.mono ?_; rintro e w6 ⟨rfl, be6⟩) | (go_at_call 11; refine (CD.out w6).mono ?_; rintro e w7 ⟨rfl, be7⟩) | (go_at_call 12; refine (CR.out w7 (Below.then_ be6 be7)).mono ?_; rintro e w' ⟨rfl, rfl⟩))
    go_ret
    exact ⟨rfl, Below.then_ (Below.then_ bel be6) be7⟩
end Go.Proofs.YtibddlldgmidlaaDoor
