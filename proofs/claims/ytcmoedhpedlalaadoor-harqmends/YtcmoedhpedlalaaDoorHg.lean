/-
  The walk of HarqMends.
-/
import Derived.Test.YtcmoedhpedlalaaDoorHf
import Derived.Test.YtcmoedhpedlalaaDoorPc
namespace Go.Proofs.YtcmoedhpedlalaaDoor
open Go.RowKit
set_option maxRecDepth 100000
set_option linter.unusedVariables false
set_option linter.unusedSimpArgs false

theorem cl_getD7 (row : List (Nat × List Nat)) (v : Nat) (hv : v < 4) : (cl row).getD v 0 = Cv.cv row v := by
  have h : v = 0 ∨ v = 1 ∨ v = 2 ∨ v = 3 := by omega
  rcases h with rfl | rfl | rfl | rfl <;> rfl
theorem cl_set7 (row : List (Nat × List Nat)) (v : Nat) (p : List Nat) (hv : v < 4) : (cl row).set v (Cv.cv row v + 1) = cl (row ++ [(v, p)]) := by
  have h : v = 0 ∨ v = 1 ∨ v = 2 ∨ v = 3 := by omega
  unfold cl
  rcases h with rfl | rfl | rfl | rfl <;> simp [Cv.cv_snoc]
theorem cl_mem7 (row : List (Nat × List Nat)) (h : ∀ v, v < 4 → Cv.cv row v ≤ 7) : ∀ y ∈ cl row, y ≤ 7 := by
  intro y hy
  unfold cl at hy
  simp only [List.mem_cons, List.not_mem_nil, or_false] at hy
  rcases hy with rfl | rfl | rfl | rfl
  · exact h 0 (by omega)
  · exact h 1 (by omega)
  · exact h 2 (by omega)
  · exact h 3 (by omega)
theorem ap_le7 (a b : List Nat) : Bm.ap a b ≤ a.length := by
  unfold Bm.ap
  have : ∀ k, Bm.cnt (fun i => a.getD i 0 != b.getD i 0) k ≤ k := fun k => by
    induction k with
    | zero => exact Nat.le_refl _
    | succ k ih => show Bm.cnt _ k + _ ≤ _; split <;> omega
  exact this _
set_option maxHeartbeats 1000000 in
set_option maxRecDepth 100000 in
/-- HarqMends. -/
theorem walkMends7 (A A1 : Option Addr) (n0 c0 n1 c1 : Nat) (bs : List Nat) (es : Nat → CH7) (w : World) (hr : Rd w w.heap.size A n0 (U8 bs)) (hb : ∀ b ∈ bs, b < 256) (hnc : n0 ≤ c0) (hc0 : c0 ≤ 9223372036854775807) (hnone : A = none → n0 = 0 ∧ c0 = 0) (hR : CH7Row w w.heap.size A1 n1 es) (hn1 : n1 ≤ 9223372036854775807) (hT : Taps w) :
    Calls Tryd.prog 5 #[.slice A n0 c0, .slice A1 n1 c1] w fun e w' => e = .returned (.bool true) ∧ Below w.heap.size w w' := by
  obtain ⟨n, hk, hk2, hk3⟩ := min_if n0 8
  obtain ⟨hm1, hm2⟩ := hk3 8 rfl
  clear hk3
  have r0 := hr.cut8 n hk2
  have HB := Lib.hid (take256 hb n)
  have hnc2 : n ≤ c0 := by omega
  have HNO : Hid (A = none → n = 0 ∧ c0 = 0) := fun h => by have := hnone h; omega
  have HL : Hid (n = (bs.take n).length) := r0.len8
  generalize bs.take n = m at *
  have hs := hT.pos
  clear hr hb hnone
  have CN := Lib.hid (hNew n w (by omega))
  have CR := Lib.hid (fun (W : World) (h : Below w.heap.size w W) => readsC W (hT.after h))
  obtain ⟨N, hN⟩ : ∃ N, N = 8 * (n + 4) := ⟨_, rfl⟩
  obtain ⟨T, hTT⟩ : ∃ T, T = N + 6 := ⟨_, rfl⟩
  have HN := Lib.hid hN
  have HT := Lib.hid hTT
  have HNm : Hid (N = 8 * (m.length + 4)) := by unfold Hid; rw [← HL.out]; exact hN
  have hT1 : 0 < T := by omega
  have hT2 : T ≤ 200 := by omega
  have CO : Hid (∀ (w0 : World) (v : Nat) (row : List (Nat × List Nat)) (P : Nat → Prop) (b c : Nat) (p : List Nat), v < 4 → PrS w0 P w.heap.size n row false → Rd w0 w0.heap.size (some ⟨b, 0, none⟩) T (U8 p) → (∀ x ∈ p, x ≤ 1) → ¬ P b → b < w0.heap.size → ¬ P 0 → Taps w0 → Calls Tryd.prog 13 #[.pointer (some ⟨w.heap.size, 0, none⟩), .int .i64 (n : Int), .int .i64 (v : Int), .slice (some ⟨b, 0, none⟩) T c] w0 (OffO w0 P w.heap.size n (anew n row n ++ [(v, p)]) (rdx N (anew n row n ++ [(v, p)]) v p))) :=
    fun w0 v row P b c p h0 h1 h2 h3 h4 h5 h6 h7 => offerC w0 P w.heap.size n n N T v c b 0 row p h1 (by omega) hN hTT h0 h2 h3 h4 h5 h6 h7
  clear hN hTT
  go_enter Tryd.func5, Tryd.ntmps5
  go_upto_region 5 with (first | (go_at_call 18; refine CN.out.mono ?_; rintro e w1 ⟨rfl, p1, b1⟩) | (go_at_call 14; refine (CR.out w1 b1).mono ?_; rintro e w2 ⟨rfl, b2⟩))
  have p2 := p1.after b2
  have bw2 := Below.then_ b1 b2
  clear p1 b1 b2 CN CR hm1 hm2
  have HLT : Hid ((mls m).length + 6 = T) := by unfold Hid; rw [mls_length, HT.out, HNm.out]
  have HNA : Hid (A = none → n = 0) := fun h => (HNO.out h).1
  have hgPl := p2.lt _ rfl
  go_upto_region 6 with (refine at_alloc rfl 45 rfl (W4 (nw [0, 0, 0, 0])) Z4w_eq' ?_; intro w8 h8)
  have q7 := h8.row
  have p8 := p2.after h8.bel
  have bw8 := Below.then_ bw2 h8.bel
  obtain ⟨g7, hg7⟩ : ∃ g, g = w2.heap.size := ⟨_, rfl⟩
  rw [← hg7] at q7
  rw [← hg7]
  have hg7w : w.heap.size < g7 := by rw [hg7]; exact hgPl
  clear h8 hg7 p2 bw2 hgPl
  go_wp2
  go_loopw [8, 9] (fun t x wr => ∃ i : Nat, i ≤ n1 ∧ i ≤ 6 ∧ x = .int .i64 i ∧ ∃ (row : List (Nat × List Nat)) (P : Nat → Prop) (tu : Nat), t = .int .i64 tu ∧ PrS wr P w.heap.size n row false ∧ (∀ k, P k → w.heap.size ≤ k ∧ k ≠ g7) ∧ Blk wr g7 45 (W4 (nw (cl row))) ∧ Hid (Cv.Vers T row) ∧ row.length ≤ i ∧ Hid (tu = Cv.apr (Cv.code (mls m)) row) ∧ tu ≤ 200 * i ∧ Below w.heap.size w wr) (fun _ x _ => 6 - (intOf x).toNat)
  case atStart => exact ⟨0, by omega, by omega, rfl, [], _, 0, rfl, p8, (fun k hk => by rw [hk]; exact ⟨Nat.le_refl _, by omega⟩), q7, (fun r hr => by cases hr), Nat.le_refl _, rfl, by omega, bw8⟩
  case round =>
    clear p8 q7 bw8
    obtain ⟨i, hi1, hi2, rfl, row, P, tu, rfl, pr, hP, q7, HV, hrl, HTU, htu, bw⟩ := hrel
    have hTr := hT.after bw
    have rm : Rd wr wr.heap.size A n (U8 m) := (r0.below bw).up bw.size
    by_cases hlt : i < n1 ∧ i < 6
    · obtain ⟨hlt1, hlt2⟩ := hlt
      have hRr := hR.below bw
      obtain ⟨b, off, hA1, hb, hcell⟩ := hRr.at_ (by omega)
      subst hA1
      have hok := (hRr.ok i hlt1).up bw.size
      have ic := idxCame7 b off n1 c1 i hlt1
      have kv : wr.cell? ⟨b, off + 5 * i + 1, none⟩ = some (.int .i64 (es i).v) := hcell i hlt1 1 _ rfl
      have HRA : Hid (wr.rangeAt b (off + 5 * i) (es i).cells.toList) := fun j u hu => hcell i hlt1 j u (by rw [← Array.getElem?_toList]; exact hu)
      have iE : Hid ((Tryd.prog.info? 37).map (·.size) = some (es i).cells.size) := infoCame7
      obtain ⟨uu, hu, hu2⟩ := wrap_u64 (es i).v
      obtain ⟨v, hv, hv2⟩ : ∃ v : Nat, v < 4 ∧ (uu : Int) % 4 = (v : Int) := ⟨uu % 4, by omega, by omega⟩
      have CB := Lib.hid (bodyC (es i) A n c0 v m wr hok rm HB.out HNO.out (by omega) hv)
      have HPL : Hid ((bd m v (es i)).length = T) := by unfold Hid; rw [bd_length, ← HL.out, HT.out, HN.out]
      have HPB := Lib.hid (bd_bit m v (es i))
      have d1 : decide ((i : Int) < (n1 : Int)) = true := by simp; omega
      have d2 : decide ((i : Int) < 6) = true := by simp; omega
      have hcv : Cv.cv row v ≤ 6 := Nat.le_trans (cv_le row v) (by omega)
      have kw := (q7.cell v).trans (W4nw_get (cl row) v (by show v < 4; exact hv))
      rw [cl_getD7 row v hv] at kw
      have iw := fun W => run_idx (P := Tryd.prog) (sz := 1) Tryd.underlying45 (by kernel_rfl) g7 0 v hv .i64 W
      simp only [Nat.zero_add, Nat.one_mul] at iw
      have HCS := Lib.hid (cl_set7 row v (bd m v (es i)) hv)
      have HAS := Lib.hid (Cv.apr_snoc (Cv.code (mls m)) row (v, bd m v (es i)))
      have hap := ap_le7 (bd m v (es i)) (vm m v)
      rw [HPL.out] at hap
      clear hcell hok
      generalize (es i).cells = E at *
      generalize (es i).v = z at *
      generalize bd m v (es i) = p at *
      obtain ⟨cc, hcc⟩ : ∃ cc, cc = Cv.cv row v := ⟨_, rfl⟩
      rw [← hcc] at kw HCS hcv
      obtain ⟨c1', hc1⟩ : ∃ c1, c1 = cc + 1 := ⟨_, rfl⟩
      have ec : (cc : Int) + 1 = (c1' : Int) := by omega
      rw [← hc1] at HCS
      clear hcc hc1
      go_upto_region 11 with fail
      go_wp2_with (refine at_load_mid rfl 37 _ rfl b (off + 5 * i) rfl E _ HRA.out Tryd.underlying37 rfl iE.out ?_)
      refine CB.out.mono ?_
      rintro e w9 ⟨A9, n9, c9, rfl, own9, b9⟩
      obtain ⟨g9, rfl, hn9, hg9, hg9l⟩ := made_at own9 HPL.out hT1
      have hn9' := Lib.hid hn9
      have r9 : Rd w9 w9.heap.size (some ⟨g9, 0, none⟩) T (U8 p) := by rw [← hn9]; exact own9.rd
      have pr9 := pr.after b9
      have q79 := q7.after b9
      have lt7 := q7.lt
      have bw9 := Below.then_ bw b9
      have kw9 : w9.cell? ⟨g7, v, none⟩ = some (.int .i64 (cc : Int)) := by
        have h1 := (q7.cell v).symm.trans kw
        exact (q79.cell v).trans h1
      have sz7 : v < (W4 (nw (cl row))).size := by show v < 4; exact hv
      have HP0 : Hid (¬ P 0) := fun h => by have := (hP _ h).1; omega
      have HPg9 : Hid (¬ P g9) := fun h => by have := pr.lt _ h; omega
      have HPg7 : Hid (¬ P g7) := fun h => (hP _ h).2 rfl
      have hne97 : g9 ≠ g7 := by omega
      obtain rfl : n9 = T := hn9'.out
      clear own9 CB hn9 kv kw q7 pr
      go_upto_region 13 with (refine at_cell rfl 3 _ _ rfl g7 v (.int .i64 (c1' : Int)) rfl rfl 45 (W4 (nw (cl row))) q79 sz7 info3one rfl ?_; intro w10 h10)
      have q710 := h10.row
      rw [W4nw_set, HCS.out] at q710
      have pr10 := pr9.of_heap (fun k hk => h10.oth k (hP k hk).2) (by rw [h10.size]; exact Nat.le_refl _)
      have r10 : Rd w10 w10.heap.size (some ⟨g9, 0, none⟩) n9 (U8 p) := ⟨r9.len, fun hn => by
        obtain ⟨b', off', e, hlt, hc⟩ := r9.at_ hn
        injection e with e
        injection e with e1 e2
        subst e1 e2
        exact ⟨g9, 0, rfl, by rw [h10.size]; exact hlt, fun j u hu => (cell_of_heap (h10.oth g9 hne97) (0 + j)).trans (hc j u hu)⟩⟩
      have bw10 := bw9.trans (h10.below (by omega))
      have hs10 : w9.heap.size ≤ w10.heap.size := by rw [h10.size]; exact Nat.le_refl _
      have rm10 : Rd w10 w10.heap.size A n (U8 m) := (r0.below bw10).up bw10.size
      have CV := Lib.hid (refVer17 A n c0 v m w10 rm10 HB.out HNO.out (by omega) hv)
      have HQL : Hid ((vm m v).length = n9) := by unfold Hid; rw [vm_length, ← HL.out, HT.out, HN.out]
      have HQB := Lib.hid (vm_bit m v)
      have HAP : Hid (Cv.apr (Cv.code (mls m)) (row ++ [(v, p)]) = tu + Bm.ap p (vm m v)) := by unfold Hid; rw [HAS.out, HTU.out]; rfl
      clear h10 q79 kw9 iw b9 pr9 r9
      go_wp2_with fail
      refine CV.out.mono ?_
      rintro e w11 ⟨A11, n11, c11, rfl, own11, b11⟩
      have hn11 : n11 = n9 := by rw [own11.rd.len8, HQL.out]
      subst hn11
      have C3 := Lib.hid (refApart (some ⟨g9, 0, none⟩) A11 n11 c9 c11 p (vm m v) w11 ((r10.below b11).up b11.size) own11.rd (bit256 HPB.out) (bit256 HQB.out) (by omega))
      generalize Bm.ap p (vm m v) = ap at *
      clear own11 CV hu2 hv2
      go_wp2_with fail
      refine C3.out.mono ?_
      rintro e w14 ⟨rfl, m14, rfl⟩
      have b1114 : Below w10.heap.size w10 (w11.drewN m14) := b11.trans (below_drawn m14)
      have etu : (tu : Int) + (ap : Int) = ((tu + ap : Nat) : Int) := by omega
      obtain ⟨tu2, htu2⟩ : ∃ t, t = tu + ap := ⟨_, rfl⟩
      rw [← htu2] at etu HAP
      have htu3 : tu2 ≤ 200 * (i + 1) := by omega
      generalize hW14 : w11.drewN m14 = w14 at *
      have pr14 := pr10.after b1114
      have q714 := q710.after b1114
      have bw14 := Below.then_ bw10 b1114
      have r14 := (r10.below b1114).up b1114.size
      have hs14 := b1114.size
      have HAN : Hid (anew n row n ++ [(v, p)] = row ++ [(v, p)]) := by unfold Hid anew; rw [if_neg (by omega)]
      have K := CO.out w14 v row P g9 c9 p hv pr14 r14 HPB.out HPg9.out (by omega) HP0.out (hT.after bw14)
      rw [HAN.out] at K
      replace K := Lib.hid K
      have HV2 := Lib.hid (HV.out.snoc (v, p) hv (by show p.length = n11; exact HPL.out) HPB.out)
      have HRL2 : Hid ((row ++ [(v, p)]).length ≤ i + 1) := by unfold Hid; rw [List.length_append]; simp; omega
      have HBEST : Hid (∀ mL, Cv.Lst (Cv.cv (row ++ [(v, p)])) mL → 2 * tu2 < mL → rdx N (row ++ [(v, p)]) v p = some m) := fun mL hL h2 => by
        have hv2 := HV2.out
        rw [← HLT.out] at hv2
        exact rdx_best m HB.out v N _ p HNm.out (Cv.row_mends (mls m) (mls_bit m) _ hv2 mL hL (by rw [HAP.out]; exact h2))
      clear hW14 htu2 HAS C3 HCS b11 pr10 q710 r10 HAN
      generalize rdx N (row ++ [(v, p)]) v p = rr at *
      generalize row ++ [(v, p)] = row' at *
      go_wp2_with fail
      refine K.out.mono ?_
      rintro e w15 ⟨⟨P15, hP15, p15⟩, kr15, ho⟩
      have bw15 := bw14.trans (kr15.below (fun k hk => (hP k hk).1) bw14.size)
      have q715 : Blk w15 g7 45 (W4 (nw (cl row'))) := (kr15.block g7 q714.lt HPg7.out).trans q714
      have HP15 : Hid (∀ k, P15 k → w.heap.size ≤ k ∧ k ≠ g7) := fun k hk => by
        rcases hP15 k hk with h | h
        · exact hP k h
        · have := bw14.size; exact ⟨by omega, by omega⟩
      have HW7 := Lib.hid (cl_mem7 row' (fun v _ => Nat.le_trans (cv_le row' v) (by have := HRL2.out; omega)))
      have CL := Lib.hid (refLeast (cl row') w15 rfl HW7.out)
      have iZ : Hid ((Tryd.prog.info? 45).map (·.size) = some (W4 (nw (cl row'))).size) := info4w
      have HLB : Hid (∀ mL, Cv.Lst (fun v => (cl row').getD v 0) mL → Cv.Lst (Cv.cv row') mL ∧ mL ≤ 196) := fun mL h => ⟨h.congr fun v hv => cl_getD7 row' v hv, h.bound fun v hv => by rw [cl_getD7 row' v hv]; exact Nat.le_trans (cv_le row' v) (by have := HRL2.out; omega)⟩
      have e2u : 2 * (tu2 : Int) = ((2 * tu2 : Nat) : Int) := by omega
      obtain ⟨t2, ht2⟩ : ∃ t2, t2 = 2 * tu2 := ⟨_, rfl⟩
      rw [← ht2] at e2u
      have ht3 : t2 ≤ 4000 := by omega
      have HT2 := Lib.hid ht2
      clear ht2 q714 kr15 K r14 pr14
      rcases ho with ⟨mm, hmm, A5, k5, c5, rfl, own5⟩ | ⟨hmm, rfl⟩
      · have HMM := Lib.hid hmm
        clear hmm p15
        have q716 := q715
        generalize hZg : W4 (nw (cl row')) = Z at *
        go_wp2_with (refine at_load rfl 45 _ rfl g7 rfl 45 Z _ q716 Tryd.underlying45 rfl iZ.out ?_)
        refine CL.out.mono ?_
        rintro e w16 ⟨mL, rfl, hmL, b16⟩
        obtain ⟨hm1, hm2⟩ := HLB.out mL hmL
        have HM1 := Lib.hid hm1
        have bw16 := Below.then_ bw15 b16
        clear hmL hm1 hZg q716
        by_cases hge : mL ≤ t2
        · go_wp2
          go_ret
          exact ⟨rfl, bw16⟩
        · have HE := HBEST.out mL HM1.out (by have := HT2.out; omega)
          rw [HMM.out] at HE
          injection HE with HE
          subst HE
          have hq1 := own5.conv w16 b16
          have hq2 := (((r0.below bw16).up bw16.size).conv (c := c0) HNA.out w16 (Below.refl _ _))
          generalize str mm = s0 at *
          have ts : (s0.toList == s0.toList) = true := by simp
          clear own5 HMM
          go_wp2
          go_ret
          exact ⟨rfl, bw16⟩
      · have HMM := Lib.hid hmm
        rw [hmm] at p15
        clear hmm
        have q716 := q715
        generalize hZg : W4 (nw (cl row')) = Z at *
        go_wp2_with (refine at_load rfl 45 _ rfl g7 rfl 45 Z _ q716 Tryd.underlying45 rfl iZ.out ?_)
        refine CL.out.mono ?_
        rintro e w16 ⟨mL, rfl, hmL, b16⟩
        obtain ⟨hm1, hm2⟩ := HLB.out mL hmL
        have HM1 := Lib.hid hm1
        have bw16 := Below.then_ bw15 b16
        have q717 := q715.after b16
        have p16 := p15.after b16
        clear hmL hm1
        by_cases hge : mL ≤ t2
        · have HZ := Lib.hid hZg
          clear hZg q716 q715
          go_wp2
          go_roundw
          case rel => exact ⟨i + 1, by omega, by omega, by go_num, row', P15, tu2, rfl, p16, HP15.out, by rw [HZ.out]; exact q717, HV2.out, HRL2.out, HAP.out.symm, htu3, bw16⟩
          case measure => simp [intOf] <;> omega
        · have HE := HBEST.out mL HM1.out (by have := HT2.out; omega)
          rw [HMM.out] at HE
          cases HE
    · by_cases ha : i < n1
      · have d1 : decide ((i : Int) < (n1 : Int)) = true := by simp; omega
        have d2 : decide ((i : Int) < 6) = false := by simp; omega
        clear hlt
        go_wp2
        go_ret
        exact ⟨rfl, bw⟩
      · have d1 : decide ((i : Int) < (n1 : Int)) = false := by simp; omega
        clear hlt
        go_wp2
        go_ret
        exact ⟨rfl, bw⟩
end Go.Proofs.YtcmoedhpedlalaaDoor
