/-
  The walks of VersionAlone and VersionTurned.
-/
import Derived.Test.YtibddlldgmidlaaDoorNg
import Derived.Test.YtibddlldgmidlaaDoorRc
import Derived.Test.YtibddlldgmidlaaDoorPe
namespace Go.Proofs.YtibddlldgmidlaaDoor
open Go.RowKit
set_option linter.unusedVariables false
set_option linter.unusedSimpArgs false

theorem ext_nat' {l m : List Nat} (hl : l.length = m.length) (h : ∀ i, i < l.length → l.getD i 0 = m.getD i 0) : l = m := by
  refine List.ext_getElem hl fun i h1 h2 => ?_
  have := h i h1
  rw [Bm.getD_lt _ _ _ h1, Bm.getD_lt _ _ _ h2] at this
  exact this
theorem z6_getD (l : List Nat) (j : Nat) (h : l.length ≤ j) : (l ++ Cv.z6).getD j 0 = 0 := by
  unfold List.getD
  rw [List.getElem?_append_right h]
  unfold Cv.z6
  rcases Nat.lt_or_ge (j - l.length) 6 with h6 | h6
  · have : j - l.length = 0 ∨ j - l.length = 1 ∨ j - l.length = 2 ∨ j - l.length = 3 ∨ j - l.length = 4 ∨ j - l.length = 5 := by omega
    rcases this with e | e | e | e | e | e <;> rw [e] <;> rfl
  · rw [List.getElem?_eq_none (by simpa using h6)]; rfl
theorem u64_of_nat (T : Nat) (h : T < 18446744073709551616) : IntKind.u64.wrap (T : Int) = (T : Int) := by
  rw [IntKind.wrap_u64]; omega
set_option maxHeartbeats 1000000 in
set_option maxRecDepth 100000 in
/-- VersionAlone. -/
theorem walkVersionAlone (A : Option Addr) (n c : Nat) (xs : List Nat) (v : Int) (w : World) (h1 : Rd w w.heap.size A n (U8 xs)) (b1 : ∀ b ∈ xs, b < 256) (hnc : n ≤ c) (hc : c ≤ 9223372036854775807) (hnone : A = none → n = 0 ∧ c = 0) (hT : Taps w) :
    Calls Tryd.prog 4 #[.slice A n c, .int .i64 v] w fun e w' => e = .returned (.bool true) ∧ Below w.heap.size w w' := by
  obtain ⟨i0, hi0, hz0, hz1, hz2⟩ := info_parts info5
  obtain ⟨k, hk, hk2, hk3⟩ := min_if n 60
  obtain ⟨hm1, hm2⟩ := hk3 60 rfl
  clear hk3
  have r1 := h1.cut8 k hk2
  have bk := take256 b1 k
  generalize xs.take k = ls at *
  have r2 : Rd (w.alloc (.cells #[] 5)) w.heap.size A k (U8 ls) := r1.below ((Below.refl _ _).alloc (Nat.le_refl _) _)
  have hn2 : A = none → k = 0 ∧ c = 0 := fun h => ⟨by have := (hnone h).1; omega, (hnone h).2⟩
  have o1 : Own (w.alloc (.cells #[] 5)) w.heap.size 5 (some ⟨w.heap.size, 0, none⟩) 0 0 [] := ⟨World.ownsRow_made w #[] 0 (Nat.le_refl _) (by unfold maxLen; omega) (by simp)⟩
  have BK := Lib.hid bk
  clear h1 b1 hnone r1 bk
  go_enter Tryd.func4, Tryd.ntmps4
  go_upto_region 2 with (at_builtin; refine wpList_app _ rfl _ _ 22 rfl w.heap.size 5 i0 _ 1 Tryd.underlying22 hi0 hz0 hz1 hz2 rfl _ 0 0 [] rfl o1 w.heap.size A k c (U8 ls) rfl r2 hn2 (U8_one ls) (by omega) (by unfold maxLen; omega) (by simp) ?_; intro A5 c5 w5 hown5 hgrow5; have own := hown5.to (Nat.zero_add k) (List.nil_append (U8 ls)))
  have bel : Below w.heap.size w w5 := ((Below.refl _ _).alloc (Nat.le_refl _) _).grown hgrow5 (by simp) (fun j hj => by simp [Value.ownBlock] at hj; omega)
  clear hown5 hgrow5 r2 hn2 o1 hi0 hz0 hz1 hz2 hm1 hm2
  have rl := own.rdOf (Below.refl _ _)
  have hn5 := own.none_
  have HN := Lib.hid rl.len8
  have hT5 := hT.after bel
  have CD := Lib.hid splitsC
  have CR := Lib.hid (fun (W : World) (hB : Below w5.heap.size w5 W) => refRight A5 k c5 ls W (own.rdOf hB) BK.out (by omega))
  clear hT
  by_cases hbit : Bm.isB ls = true
  · have hl := Bm.isB_true hbit
    rw [hbit] at CR
    by_cases hno : v < 0 ∨ 3 < v ∨ k < 6
    · have C := Lib.hid (vAloneArg A5 k c5 v ls w5 rl hl (by omega) hno)
      clear hbit hl
      by_cases h1 : v < 0
      · go_wp2_with (first | (go_at_call 13; refine C.out.mono ?_; rintro e w' ⟨rfl, rfl⟩) | (go_at_call 11; refine (CD.out w5).mono ?_; rintro e w7 ⟨rfl, be7⟩) | (go_at_call 12; refine (CR.out w7 be7).mono ?_; rintro e w' ⟨rfl, rfl⟩))
        go_ret
        exact ⟨rfl, Below.then_ bel be7⟩
      · by_cases h2 : 3 < v
        · go_wp2_with (first | (go_at_call 13; refine C.out.mono ?_; rintro e w' ⟨rfl, rfl⟩) | (go_at_call 11; refine (CD.out w5).mono ?_; rintro e w7 ⟨rfl, be7⟩) | (go_at_call 12; refine (CR.out w7 be7).mono ?_; rintro e w' ⟨rfl, rfl⟩))
          go_ret
          exact ⟨rfl, Below.then_ bel be7⟩
        · have d6 : decide ((k : Int) < 6) = true := by simp; omega
          have d7 : decide (k < 6) = true := by simp; omega
          go_wp2_with (first | (go_at_call 13; refine C.out.mono ?_; rintro e w' ⟨rfl, rfl⟩) | (go_at_call 11; refine (CD.out w5).mono ?_; rintro e w7 ⟨rfl, be7⟩) | (go_at_call 12; refine (CR.out w7 be7).mono ?_; rintro e w' ⟨rfl, rfl⟩))
          go_ret
          exact ⟨rfl, Below.then_ bel be7⟩
    · obtain ⟨a, ha⟩ : ∃ a : Nat, v = (a : Int) := ⟨v.toNat, by omega⟩
      subst ha
      have ha4 : a < 4 := by omega
      have hk6 : 6 ≤ k := by omega
      have C := Lib.hid (vAlone A5 k c5 a ls w5 rl hl hk6 (by omega) ha4 hT5)
      have CF := Lib.hid (fun (W : World) (hB : Below w5.heap.size w5 W) => refAlone A5 k c5 a ls W (own.rdOf hB) hl hk6 (by omega) ha4)
      have d1 : decide ((3 : Int) < (a : Int)) = false := by simp <;> omega
      have d6 : decide ((k : Int) < 6) = false := by simp; omega
      have d7 : decide (k < 6) = false := by simp; omega
      clear hbit hl hno
      go_wp2_with fail
      refine C.out.mono ?_
      rintro e w6 ⟨hA, be6⟩
      have CF6 := Lib.hid (fun (W : World) (hB : Below w6.heap.size w6 W) => CF.out W (Below.then_ be6 hB))
      have CR6 := Lib.hid (fun (W : World) (hB : Below w6.heap.size w6 W) => CR.out W (Below.then_ be6 hB))
      rcases hA with ⟨hz, g, rfl, rg⟩ | ⟨hz, rfl⟩
      · have HZ := Lib.hid hz
        have hcv := fun (W : World) (hB : Below w6.heap.size w6 W) => rg.convS (c := k - 6) W hB
        have HCV := Lib.hid hcv
        clear hz hcv rg
        go_upto_region 9 with (first | (go_at_call 11; refine (CD.out w6).mono ?_; rintro e w7 ⟨rfl, be7⟩) | (go_at_call 12; refine (CR6.out w7 be7).mono ?_; rintro e w' ⟨rfl, rfl⟩))
        go_wp2_with fail
        refine (CF6.out w7 be7).mono ?_
        rintro e w8 ⟨hR, be8⟩
        rcases hR with ⟨_, A8, c8, rfl, r8, hn8⟩ | ⟨⟨j, j1, j2, j3⟩, rfl⟩
        · have q1 := HCV.out w8 (Below.then_ be7 be8)
          have q2 := r8.conv (c := c8) (fun h => (hn8 h).1) w8 (Below.refl _ _)
          generalize str ((Cv.al ls a k).take (k - 6)) = s at *
          have ts : (s.toList == s.toList) = true := by simp
          clear r8 hn8
          go_wp2
          go_ret
          exact ⟨rfl, Below.then_ (Below.then_ (Below.then_ bel be6) be7) be8⟩
        · exact absurd (HZ.out j j1 j2) j3
      · have HZ := Lib.hid hz
        clear hz
        go_upto_region 9 with (first | (go_at_call 11; refine (CD.out w6).mono ?_; rintro e w7 ⟨rfl, be7⟩) | (go_at_call 12; refine (CR6.out w7 be7).mono ?_; rintro e w' ⟨rfl, rfl⟩))
        go_wp2_with fail
        refine (CF6.out w7 be7).mono ?_
        rintro e w8 ⟨hR, be8⟩
        rcases hR with ⟨hh, A8, c8, rfl, r8, hn8⟩ | ⟨_, rfl⟩
        · obtain ⟨j, j1, j2, j3⟩ := HZ.out
          exact absurd (hh j j1 j2) j3
        · have q1 := run_convert_bytes_nil (P := Tryd.prog) w8 22 5 Tryd.underlying22 Tryd.underlying5 0 0 9 Tryd.underlying9
          go_wp2
          go_ret
          exact ⟨rfl, Below.then_ (Below.then_ (Below.then_ bel be6) be7) be8⟩
  · have hf : Bm.isB ls = false := by simpa using hbit
    rw [hf] at CR
    have C := Lib.hid (vAloneField A5 k c5 v ls w5 rl BK.out hf (by omega))
    clear hbit hf
    go_wp2_with (first | (go_at_call 13; refine C.out.mono ?_; rintro e w' ⟨rfl, rfl⟩) | (go_at_call 11; refine (CD.out w5).mono ?_; rintro e w7 ⟨rfl, be7⟩) | (go_at_call 12; refine (CR.out w7 be7).mono ?_; rintro e w' ⟨rfl, rfl⟩))
    go_ret
    exact ⟨rfl, Below.then_ bel be7⟩
set_option maxHeartbeats 1000000 in
set_option maxRecDepth 100000 in
/-- VersionTurned. -/
theorem walkVersionTurned (A : Option Addr) (n c : Nat) (xs : List Nat) (z0 z1 : Int) (w : World) (h1 : Rd w w.heap.size A n (U8 xs)) (b1 : ∀ b ∈ xs, b < 256) (hn2 : n ≤ 9223372036854775807) (hT : Taps w) :
    Calls Tryd.prog 5 #[.slice A n c, .int .i64 z0, .int .i64 z1] w fun e w' => e = .returned (.bool true) ∧ Below w.heap.size w w' := by
  have CF : Hid (Calls Tryd.prog 18 #[.slice A n c, .int .i64 40] w (Made w (Bm.few xs 40))) := fewC A n c 40 xs w h1 b1 (by omega) hn2
  obtain ⟨u, hu, hu2⟩ := wrap_u64 z0
  obtain ⟨v, hv, hv2⟩ : ∃ v : Nat, v < 4 ∧ (u : Int) % 4 = (v : Int) := ⟨u % 4, by omega, by omega⟩
  obtain ⟨y, hy, hy2⟩ := wrap_u64 z1
  have CD := Lib.hid splitsC
  have hlen := Bm.few_length xs 40
  have hbits := Bm.few_bit xs 40
  generalize Bm.few xs 40 = ls at *
  have HL := Lib.hid hbits
  clear h1 b1 hbits
  go_enter Tryd.func5, Tryd.ntmps5
  go_upto_region 3 with (go_at_call 18; refine CF.out.mono ?_; rintro e w5 ⟨A5, k, c5, rfl, own, bel⟩)
  have rl := own.rd
  have HN := Lib.hid rl.len8
  have hk : k ≤ 40 := by rw [HN.out]; omega
  have C := Lib.hid (vCode A5 k c5 v ls w5 rl own.none_ HL.out (by omega) hv (hT.after bel))
  obtain ⟨T, hTT⟩ : ∃ T, T = k + 6 := ⟨_, rfl⟩
  have hT46 : 6 ≤ T := by omega
  have hT47 : T ≤ 46 := by omega
  rw [← hTT] at C
  have HTT := Lib.hid hTT
  clear CF hu hu2 hv2 hlen rl hTT
  obtain ⟨P, hP⟩ : ∃ P, P = Cv.pick (Cv.code ls) v := ⟨_, rfl⟩
  rw [← hP] at C
  have HP := Lib.hid hP
  have HPL : Hid (P.length = T) := by unfold Hid; rw [hP, Cv.pick_length, Cv.code_length, ← HN.out, HTT.out]; omega
  have HPB : Hid (∀ x ∈ P, x ≤ 1) := by unfold Hid; rw [hP]; exact Cv.pick_bit _ (Cv.code_bit ls HL.out) v
  clear hP
  have e64 := u64_of_nat T (by omega)
  obtain ⟨i, hi, hi2⟩ : ∃ i : Nat, i < T ∧ (y : Int) % (T : Int) = (i : Int) := ⟨y % T, Nat.mod_lt _ (by omega), by omega⟩
  have d6 : decide ((T : Int) < 6) = false := by simp; omega
  have d7 : decide (T < 6) = false := by simp; omega
  have hTne : ((T : Int) == 0) = false := by simp; omega
  have hTne2 : ¬ (T : Int) = 0 := by omega
  go_upto_region 6 with (first | (go_at_call 10; refine C.out.mono ?_; rintro e w6 ⟨g, rfl, hg, q, be6⟩) | (go_at_call 11; refine (CD.out w6).mono ?_; rintro e w7 ⟨rfl, be7⟩))
  replace q := q.after be7
  have sz : i < (B8 P).size := by rw [B8_size, HPL.out]; exact hi
  have kc := (q.cell i).trans (B8_get P i (by rw [HPL.out]; exact hi))
  have hx1 := Bm.bit_le P HPB.out i
  have HX : Hid (P.set i (P.getD i 0 ^^^ 1) ≠ P) := fun h => by
    have : (P.set i (P.getD i 0 ^^^ 1)).getD i 0 = P.getD i 0 := congrArg (fun l => l.getD i 0) h
    rw [Bm.getD_lt _ _ _ (by rw [List.length_set, HPL.out]; exact hi), List.getElem_set, if_pos rfl] at this
    have h01 : P.getD i 0 = 0 ∨ P.getD i 0 = 1 := by omega
    rcases h01 with h0 | h0 <;> rw [h0] at this <;> simp at this
  have HXB : Hid (∀ x ∈ P.set i (P.getD i 0 ^^^ 1), x ≤ 1) := fun x hx => by
    rcases List.mem_or_eq_of_mem_set hx with h | h
    · exact HPB.out x h
    · rw [h]; exact xor_le1 hx1 (Nat.le_refl _)
  generalize P.getD i 0 = x at *
  have hxy : bits BinOp.xor IntKind.u8 (x : Int) 1 = ((x ^^^ 1 : Nat) : Int) := u8_xor_nat x 1 (by omega) (by omega)
  generalize x ^^^ 1 = x2 at *
  have f2 : (i : Int) < (T : Int) := by omega
  go_upto_region 7 with (refine at_cell rfl 5 _ _ rfl g i (.int .u8 (x2 : Int)) rfl rfl 5 (B8 P) q sz info5one rfl ?_; intro w8 h8)
  have q8 := h8.row
  rw [B8_set] at q8
  have be57 := Below.then_ be6 be7
  have be8 : Below w5.heap.size w5 w8 := be57.trans (h8.below hg)
  obtain ⟨P2, hP2⟩ : ∃ P2, P2 = P.set i x2 := ⟨_, rfl⟩
  have hl2 : P2.length = T := by rw [hP2, List.length_set]; exact HPL.out
  rw [← hP2] at q8 HX HXB
  have CA := Lib.hid (vAlone (some ⟨g, 0, none⟩) T T v P2 w8 (q8.rd8 hl2) HXB.out hT46 (by omega) hv ((hT.after bel).after be8))
  have HAl := Lib.hid (Cv.al_length P2 v T)
  have HAP : Hid (Cv.al P2 v T = ls ++ Cv.z6 → P2 = Cv.pick (Cv.code ls) v) := fun h => Cv.al_pick P2 ls v (by rw [hl2, HTT.out, HN.out]) (by rw [← HN.out, ← HTT.out]; exact h)
  have HAB := Lib.hid (Cv.al_bit P2 HXB.out v T)
  obtain ⟨m, hm⟩ : ∃ m, T - 6 = m := ⟨_, rfl⟩
  rw [hm] at CA
  have HM : Hid (m = k) := by unfold Hid; have := HTT.out; omega
  clear hm hP2 hi2 e64 hxy kc q h8
  generalize Cv.al P2 v T = AL at *
  go_wp2_with fail
  refine CA.out.mono ?_
  rintro e w9 ⟨hA, be9⟩
  rcases hA with ⟨hz, g9, rfl, r9⟩ | ⟨hz, rfl⟩
  · have hne : AL.take m ≠ ls := fun h => by
      have : AL = ls ++ Cv.z6 := by
        refine ext_nat' (by rw [HAl.out, List.length_append, ← HN.out, HTT.out]; rfl) fun j hj => ?_
        by_cases hjm : j < m
        · rw [← h, Bm.getD_lt _ _ _ hj, Bm.getD_lt _ _ _ (by rw [List.length_append, List.length_take]; omega), List.getElem_append_left (by rw [List.length_take]; omega), List.getElem_take]
        · rw [hz j (by omega) hj, z6_getD ls j (by rw [← HN.out, ← HM.out]; omega)]
      exact HX.out ((HAP.out this).trans HP.out.symm)
    have ts0 := str_ne (a := AL.take m) (b := ls) (fun x hx => bit256 HAB.out x (List.mem_of_mem_take hx)) (bit256 HL.out) hne
    have q1 := r9.convS (c := m) w9 (Below.refl _ _)
    have q2 := own.conv w9 (Below.then_ be8 be9)
    generalize str (AL.take m) = s1 at *
    generalize str ls = s2 at *
    have ts : (s1.toList != s2.toList) = true := by unfold bne; rw [ts0]; rfl
    clear hz hne r9
    go_wp2
    go_ret
    exact ⟨rfl, Below.then_ (Below.then_ bel be8) be9⟩
  · go_wp2
    go_ret
    exact ⟨rfl, Below.then_ (Below.then_ bel be8) be9⟩
end Go.Proofs.YtibddlldgmidlaaDoor
