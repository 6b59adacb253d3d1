/-
  The walk of CombineMends.
-/
import Derived.Test.YtibddlldgmidlabDoorUz
import Derived.Test.YtibddlldgmidlabDoorPc
namespace Go.Proofs.YtibddlldgmidlabDoor
open Go.RowKit
set_option maxRecDepth 100000
set_option linter.unusedVariables false
set_option linter.unusedSimpArgs false

theorem cl_getD (row : List (Nat × List Nat)) (v : Nat) (hv : v < 4) : (cl row).getD v 0 = Cv.cv row v := by
  have h : v = 0 ∨ v = 1 ∨ v = 2 ∨ v = 3 := by omega
  rcases h with rfl | rfl | rfl | rfl <;> rfl
theorem cl_set (row : List (Nat × List Nat)) (v : Nat) (p : List Nat) (hv : v < 4) : (cl row).set v (Cv.cv row v + 1) = cl (row ++ [(v, p)]) := by
  have h : v = 0 ∨ v = 1 ∨ v = 2 ∨ v = 3 := by omega
  unfold cl
  rcases h with rfl | rfl | rfl | rfl <;> simp [Cv.cv_snoc]
theorem cl_mem (row : List (Nat × List Nat)) (h : ∀ v, v < 4 → Cv.cv row v ≤ 7) : ∀ y ∈ cl row, y ≤ 7 := by
  intro y hy
  unfold cl at hy
  simp only [List.mem_cons, List.not_mem_nil, or_false] at hy
  rcases hy with rfl | rfl | rfl | rfl
  · exact h 0 (by omega)
  · exact h 1 (by omega)
  · exact h 2 (by omega)
  · exact h 3 (by omega)
theorem ap_le (a b : List Nat) : Bm.ap a b ≤ a.length := by
  unfold Bm.ap
  have : ∀ k, Bm.cnt (fun i => a.getD i 0 != b.getD i 0) k ≤ k := fun k => by
    induction k with
    | zero => exact Nat.le_refl _
    | succ k ih => show Bm.cnt _ k + _ ≤ _; split <;> omega
  exact this _
/-- An index into a row of what came. -/
theorem idxCame (b off n c i : Nat) (hi : i < n) (W : World) : (Instr.indexAt 23 (.slice (some ⟨b, off, none⟩) n c) (.int .i64 (i : Int))).run Tryd.prog W = .ok (.pointer (some ⟨b, off + 4 * i, none⟩)) W :=
  run_idxR (P := Tryd.prog) (sz := 4) Tryd.underlying23 (by kernel_rfl) b off n c i hi .i64 W
set_option maxHeartbeats 2000000 in
set_option maxRecDepth 100000 in
/-- CombineMends. -/
theorem walkCombineMends (A : Option Addr) (n c : Nat) (xs : List Nat) (A1 : Option Addr) (n1 c1 : Nat) (es : Nat → CE) (w : World) (h1 : Rd w w.heap.size A n (U8 xs)) (b1 : ∀ b ∈ xs, b < 256) (hn2 : n ≤ 9223372036854775807) (hR : CRow w w.heap.size A1 n1 es) (hn1 : n1 ≤ 9223372036854775807) (hT : Taps w) :
    Calls Tryd.prog 5 #[.slice A n c, .slice A1 n1 c1] w fun e w' => e = .returned (.bool true) ∧ Below w.heap.size w w' := by
  have CF : Hid (Calls Tryd.prog 17 #[.slice A n c, .int .i64 40] w (Made w (Bm.few xs 40))) := fewC A n c 40 xs w h1 b1 (by omega) hn2
  have hlen := Bm.few_length xs 40
  have hbits := Bm.few_bit xs 40
  generalize Bm.few xs 40 = ls at *
  have HL := Lib.hid hbits
  have CCo := Lib.hid combinesC
  have hpos := hT.pos
  clear h1 b1 hbits
  go_enter Tryd.func5, Tryd.ntmps5
  go_upto_region 2 with (go_at_call 17; refine CF.out.mono ?_; rintro e w5 ⟨A5, k, c5, rfl, own, bel⟩)
  have rl := own.rd
  have HN := Lib.hid rl.len8
  have hk : k ≤ 40 := by rw [HN.out]; omega
  have CN := Lib.hid (newC k w5 (by omega))
  have hT5 := hT.after bel
  clear CF hlen
  go_upto_region 5 with (first | (go_at_call 16; refine CN.out.mono ?_; rintro e w6 ⟨rfl, hB, b6, s6⟩) | (go_at_call 11; refine (CCo.out w6 (hT5.after b6)).mono ?_; rintro e w7 ⟨rfl, b7⟩))
  replace hB := hB.after b7
  have bel7 : Below w5.heap.size w5 w7 := Below.then_ b6 b7
  have hs7 : w5.heap.size < w7.heap.size := by have := b7.size; omega
  obtain ⟨gB, hgB⟩ : ∃ g, g = w5.heap.size := ⟨_, rfl⟩
  rw [← hgB] at hB bel7 hs7
  rw [← hgB]
  have HGB := Lib.hid hgB
  have hwB : w.heap.size ≤ gB := by rw [hgB]; exact bel.size
  clear b6 b7 s6 CN hgB CCo
  go_upto_region 8 with (refine at_alloc rfl 33 rfl (W4 (nw [0, 0, 0, 0])) Z4w_eq' ?_; intro w8 h8)
  have q7 := h8.row
  have hs8 := h8.size
  replace hB := hB.after h8.bel
  replace bel7 : Below gB w5 w8 := bel7.trans (h8.bel.mono (Nat.le_of_lt hs7))
  obtain ⟨g7, hg7⟩ : ∃ g, g = w7.heap.size := ⟨_, rfl⟩
  rw [← hg7] at q7 hs7 hs8
  rw [← hg7]
  clear h8 hg7
  obtain ⟨G, hG⟩ : ∃ G, G = w8.heap.size := ⟨_, rfl⟩
  have hG7 : g7 < G := by omega
  rw [← hG] at hs8
  have hG8 : G ≤ w8.heap.size := by omega
  clear hG hs8
  go_loopw [8, 9] (fun t x wr => ∃ i : Nat, i ≤ n1 ∧ i ≤ 12 ∧ x = .int .i64 i ∧ ∃ (row : List (Nat × List Nat)) (S : Value) (tu : Nat), t = .int .i64 tu ∧ BufS wr gB k row S ∧ Hid (Cv.Vers (k + 6) row) ∧ row.length ≤ i ∧ Blk wr g7 33 (W4 (nw (cl row))) ∧ Hid (∀ v, v < 4 → Cv.cv row v ≤ 7) ∧ Hid (tu = Cv.apr (Cv.code ls) row) ∧ tu ≤ 50 * i ∧ (∀ j, S.ownBlock = some j → G ≤ j) ∧ Below gB w5 wr ∧ G ≤ wr.heap.size) (fun _ x _ => 12 - (intOf x).toNat)
  case atStart => exact ⟨0, by omega, by omega, rfl, [], _, 0, rfl, hB, (fun r hr => by cases hr), Nat.le_refl _, q7, (fun v _ => by show (0 : Nat) ≤ 7; omega), rfl, by omega, (fun j hj => by cases hj), bel7, hG8⟩
  case round =>
    clear hB q7 bel7 hG8
    obtain ⟨i, hi1, hi2, rfl, row, S, tu, rfl, hB, HV, hrl, q7, HC7, HTU, htu, hS, bl, hGr⟩ := hrel
    have hTr : Taps wr := hT5.low bl (by omega)
    have rlr : Rd wr wr.heap.size A5 k (U8 ls) := by
      have h0 := rl
      rw [← HGB.out] at h0
      exact (h0.below bl).up (by omega)
    by_cases hlt : i < n1 ∧ i < 12
    · obtain ⟨hlt1, hlt2⟩ := hlt
      have hRr := (hR.below bel).below (bl.mono hwB)
      obtain ⟨b, off, hA1, hb, hcell⟩ := hRr.at_ (by omega)
      subst hA1
      have hok := hRr.ok i hlt1
      have ic := idxCame b off n1 c1 i hlt1
      have kv : wr.cell? ⟨b, off + 4 * i + 1, none⟩ = some (.int .i64 (es i).v) := hcell i hlt1 1 _ rfl
      have HRA : Hid (wr.rangeAt b (off + 4 * i) (es i).cells.toList) := fun j u hu => hcell i hlt1 j u (by rw [← Array.getElem?_toList]; exact hu)
      have iE : Hid ((Tryd.prog.info? 42).map (·.size) = some (es i).cells.size) := infoCame
      obtain ⟨uu, hu, hu2⟩ := wrap_u64 (es i).v
      obtain ⟨v, hv, hv2⟩ : ∃ v : Nat, v < 4 ∧ (uu : Int) % 4 = (v : Int) := ⟨uu % 4, by omega, by omega⟩
      have hcv : Cv.cv row v ≤ 7 := HC7.out v hv
      have kw := (q7.cell v).trans (W4nw_get (cl row) v (by show v < 4; exact hv))
      rw [cl_getD row v hv] at kw
      have iw := fun W => run_idx (P := Tryd.prog) (sz := 1) Tryd.underlying33 (by kernel_rfl) g7 0 v hv .i64 W
      simp only [Nat.zero_add, Nat.one_mul] at iw
      have CP := Lib.hid (partC (es i) A5 k c5 v ls wr ⟨hok.at_.up (by omega), hok.ab, hok.raw.up (by omega), hok.r256, hok.rc, hok.rc2, hok.rnone⟩ rlr HL.out (by omega) hv)
      have HPL : Hid ((pt ls v (es i)).length = k + 6) := by unfold Hid; rw [pt_length, ← HN.out]
      have HPB := Lib.hid (pt_bit ls HL.out v (es i))
      have d1 : decide ((i : Int) < (n1 : Int)) = true := by simp; omega
      have d2 : decide ((i : Int) < 12) = true := by simp; omega
      have HCS := Lib.hid (cl_set row v (pt ls v (es i)) hv)
      have HCV := Lib.hid (fun u => Cv.cv_snoc row (v, pt ls v (es i)) u)
      have HAS := Lib.hid (Cv.apr_snoc (Cv.code ls) row (v, pt ls v (es i)))
      have hap := ap_le (pt ls v (es i)) (Cv.pick (Cv.code ls) v)
      rw [HPL.out] at hap
      clear hcell hok
      generalize (es i).cells = E at *
      generalize (es i).v = z at *
      generalize pt ls v (es i) = p at *
      by_cases h7 : Cv.cv row v = 7
      · have t7 : (((Cv.cv row v : Nat) : Int) == 7) = true := by rw [h7]; rfl
        have HC0 := Lib.hid (show Cv.cv row v = Cv.cv row v from rfl)
        generalize Cv.cv row v = cc at *
        clear h7 HC0
        go_wp2
        go_roundw
        case rel => exact ⟨i + 1, by omega, by omega, by go_num, row, S, tu, rfl, hB, HV.out, by omega, q7, HC7.out, HTU.out, by omega, hS, bl, hGr⟩
        case measure => simp [intOf] <;> omega
      · have t7 : (((Cv.cv row v : Nat) : Int) == 7) = false := by simp; omega
        have HC77 : Hid (∀ u, u < 4 → Cv.cv (row ++ [(v, p)]) u ≤ 7) := fun u hu => by
          rw [HCV.out u]
          have := HC7.out u hu
          by_cases e : v = u
          · subst e; rw [if_pos rfl]; omega
          · rw [if_neg e]; omega
        obtain ⟨cc, hcc⟩ : ∃ cc, cc = Cv.cv row v := ⟨_, rfl⟩
        rw [← hcc] at kw t7 HCS hcv h7
        obtain ⟨c1', hc1⟩ : ∃ c1, c1 = cc + 1 := ⟨_, rfl⟩
        have ec : (cc : Int) + 1 = (c1' : Int) := by omega
        rw [← hc1] at HCS
        clear hcc hc1 h7 HC7 HCV
        obtain ⟨T, hTT⟩ : ∃ T, T = k + 6 := ⟨_, rfl⟩
        have HTT := Lib.hid hTT
        have HPT : Hid (p.length = T) := by unfold Hid; rw [HPL.out, HTT.out]
        have hT6 : 6 ≤ T := by omega
        have hT7 : T ≤ 46 := by omega
        rw [← hTT] at hap
        clear hTT HPL
        go_upto_region 12 with fail
        go_wp2_with (refine at_load_mid rfl 42 _ rfl b (off + 4 * i) rfl E _ HRA.out Tryd.underlying42 rfl iE.out ?_)
        refine CP.out.mono ?_
        rintro e w9 ⟨A9, n9, c9, rfl, own9, b9⟩
        have hn9 : n9 = T := by rw [own9.rd.len8, HPT.out]
        subst hn9
        obtain ⟨g9, rfl, hg9, hg9l⟩ := own9.at0 (by omega)
        have hB9 := hB.after b9
        have hltB := hB.blk.lt
        have r9 := own9.rd
        have hSg : S.ownBlock ≠ some g9 := fun e => by have := hB.lt g9 e; omega
        have CA := Lib.hid (addC gB k v n9 c9 g9 0 row p S w9 hB9 (by omega) (by omega) hv HTT.out r9 HPB.out (by omega) hg9l hSg)
        have q79 := q7.after b9
        have hs9 := b9.size
        clear CP own9
        go_wp2_with fail
        refine CA.out.mono ?_
        rintro e w10 ⟨rfl, S', hB10, hK, hO⟩
        have q710 := hK.blk q79 (by omega) (fun e => by have := hS g7 e; omega)
        have r10 := r9.kp hK (by omega) hSg hg9l
        have bl10 := (bl.trans (b9.mono (by omega))).trans (hK.below (Nat.le_refl _) (fun j hj => by have := hS j hj; omega) (by omega))
        have hs10 := hK.size
        have hS10 : ∀ j, S'.ownBlock = some j → G ≤ j := fun j hj => by
          rcases hO with e | ⟨j2, e, hj2⟩
          · exact hS j (by rw [← e]; exact hj)
          · rw [e] at hj; injection hj with hj; omega
        have kw10 : w10.cell? ⟨g7, v, none⟩ = some (.int .i64 (cc : Int)) := by
          have h1 := (q7.cell v).symm.trans kw
          exact (q710.cell v).trans h1
        have sz7 : v < (W4 (nw (cl row))).size := by show v < 4; exact hv
        clear hO hB9 hB q79 q7 CA kw r9
        go_upto_region 16 with (refine at_cell rfl 3 _ _ rfl g7 v (.int .i64 (c1' : Int)) rfl rfl 33 (W4 (nw (cl row))) q710 sz7 info3one rfl ?_; intro w11 h11)
        have q711 := h11.row
        rw [W4nw_set, HCS.out] at q711
        have hB11 : BufS w11 gB k (row ++ [(v, p)]) S' := ⟨h11.blk hB10.blk (by omega), by
          rcases hB10.sums with h | ⟨gs, h, h2, h3⟩
          · exact .inl h
          · refine .inr ⟨gs, h, h2, h11.blk h3 (fun e => ?_)⟩
            have := hS10 gs (by rw [h]; rfl)
            omega⟩
        have hne97 : g9 ≠ g7 := by omega
        have r11 : Rd w11 w11.heap.size (some ⟨g9, 0, none⟩) n9 (U8 p) := ⟨r10.len, fun hn => by
          obtain ⟨b', off', e, hlt, hc⟩ := r10.at_ hn
          injection e with e
          injection e with e1 e2
          subst e1 e2
          exact ⟨g9, 0, rfl, by rw [h11.size]; exact hlt, fun j u hu => (cell_of_heap (h11.oth g9 hne97) (0 + j)).trans (hc j u hu)⟩⟩
        have bl11 := bl10.trans (h11.below (by omega))
        have hs11 : w11.heap.size = w10.heap.size := h11.size
        have rl11 : Rd w11 w11.heap.size A5 k (U8 ls) := by
          have h0 := rl
          rw [← HGB.out] at h0
          exact (h0.below bl11).up (by omega)
        have C1 := Lib.hid (refCode A5 k c5 ls w11 rl11 HL.out (by omega))
        have HCL : Hid ((Cv.code ls).length = 4 * n9) := by unfold Hid; rw [Cv.code_length, ← HN.out, HTT.out]
        have C2 := Lib.hid (fun (Ac : Option Addr) (nc cc : Nat) (W : World) (h : Rd W W.heap.size Ac nc (U8 (Cv.code ls))) => refPick Ac nc cc n9 v (Cv.code ls) W h (by rw [h.len8, HCL.out]) (by omega) hv)
        have HQL : Hid ((Cv.pick (Cv.code ls) v).length = n9) := by unfold Hid; rw [Cv.pick_length, HCL.out]; omega
        have HQB := Lib.hid (Cv.pick_bit _ (Cv.code_bit ls HL.out) v)
        clear q710 kw10 iw h11 r10 hB10
        go_wp2_with fail
        refine C1.out.mono ?_
        rintro e w12 ⟨A12, n12, c12, rfl, own12, b12⟩
        go_wp2_with fail
        refine (C2.out A12 n12 c12 w12 own12.rd).mono ?_
        rintro e w13 ⟨A13, n13, c13, rfl, own13, b13⟩
        have hn13 : n13 = n9 := by rw [own13.rd.len8, HQL.out]
        subst hn13
        have b1113 := Below.then_ b12 b13
        have C3 := Lib.hid (refApart (some ⟨g9, 0, none⟩) A13 n13 c9 c13 p (Cv.pick (Cv.code ls) v) w13 ((r11.below b1113).up b1113.size) own13.rd (bit256 HPB.out) (bit256 HQB.out) (by omega))
        have HAP : Hid (Cv.apr (Cv.code ls) (row ++ [(v, p)]) = tu + Bm.ap p (Cv.pick (Cv.code ls) v)) := by unfold Hid; rw [HAS.out, HTU.out]
        generalize Bm.ap p (Cv.pick (Cv.code ls) v) = ap at *
        clear own12 own13 C1 C2 hu2 hv2
        go_wp2_with fail
        refine C3.out.mono ?_
        rintro e w14 ⟨rfl, m14, rfl⟩
        have b1114 : Below w11.heap.size w11 (w13.drewN m14) := b1113.trans (below_drawn m14)
        have hB14 := hB11.after b1114
        have q714 := q711.after b1114
        have bl14 := bl11.trans (b1114.mono (by omega))
        have hs14 := b1114.size
        have HV2 := Lib.hid (HV.out.snoc (v, p) hv (by show p.length = k + 6; rw [HPT.out, HTT.out]) HPB.out)
        have etu : (tu : Int) + (ap : Int) = ((tu + ap : Nat) : Int) := by omega
        obtain ⟨tu2, htu2⟩ : ∃ t, t = tu + ap := ⟨_, rfl⟩
        rw [← htu2] at etu HAP
        have htu3 : tu2 ≤ 50 * (i + 1) := by omega
        generalize hW14 : w13.drewN m14 = w14 at *
        clear hW14 htu2 HAS C3 HCS
        go_wp2
        go_roundw
        case rel => exact ⟨i + 1, by omega, by omega, by go_num, row ++ [(v, p)], S', tu2, rfl, hB14, HV2.out, by rw [List.length_append]; simp; omega, q714, HC77.out, HAP.out.symm, htu3, hS10, bl14, by omega⟩
        case measure => simp [intOf] <;> omega
    · have HW7 := Lib.hid (cl_mem row HC7.out)
      have CL := Lib.hid (refLeast (cl row) wr rfl HW7.out)
      have iZ : Hid ((Tryd.prog.info? 33).map (·.size) = some (W4 (nw (cl row))).size) := info4w
      have CDe := Lib.hid (fun (W : World) (h : Below wr.heap.size wr W) => bdecode gB k row S W (hB.after h) (by omega) (by omega) (hTr.after h))
      have HLB : Hid (∀ m, Cv.Lst (fun v => (cl row).getD v 0) m → Cv.Lst (Cv.cv row) m ∧ m ≤ 196) := fun m h => ⟨h.congr fun v hv => cl_getD row v hv, h.bound fun v hv => by rw [cl_getD row v hv]; exact HC7.out v hv⟩
      have HMd : Hid (∀ m, Cv.Lst (Cv.cv row) m → 2 * tu < m → Cv.rb (Cv.softs (k + 6) row) k 0 0 = ls) := fun m hm h => by
        have hv := HV.out
        rw [HN.out] at hv ⊢
        refine (Cv.rb_best _ _).uniq (Cv.row_mends ls HL.out row hv m hm ?_)
        rw [← HTU.out]; exact h
      have HCV := Lib.hid (fun (W : World) (h : Below w5.heap.size w5 W) => own.conv W h)
      generalize hZg : W4 (nw (cl row)) = Z at *
      have hbl5 : Below w5.heap.size w5 wr := by rw [← HGB.out]; exact bl
      clear hZg HV HTU HC7
      have hfin : ¬ (i < n1 ∧ i < 12) := hlt
      by_cases hi12 : i < n1
      · have d1 : decide ((i : Int) < (n1 : Int)) = true := by simp; omega
        have d2 : decide ((i : Int) < 12) = false := by simp; omega
        clear hlt hfin
        go_wp2_with (refine at_load rfl 33 _ rfl g7 rfl 33 Z _ q7 Tryd.underlying33 rfl iZ.out ?_)
        refine CL.out.mono ?_
        rintro e w9 ⟨m, rfl, hm, b9⟩
        obtain ⟨hm1, hm2⟩ := HLB.out m hm
        have HM1 := Lib.hid hm1
        have etu : 2 * (tu : Int) = ((2 * tu : Nat) : Int) := by omega
        obtain ⟨t2, ht2⟩ : ∃ t2, t2 = 2 * tu := ⟨_, rfl⟩
        rw [← ht2] at etu
        have ht3 : t2 ≤ 2000 := by omega
        have HT2 := Lib.hid ht2
        clear hm hm1 ht2
        by_cases hge : m ≤ t2
        · go_wp2
          go_ret
          exact ⟨rfl, (bel.trans (hbl5.mono bel.size)).trans (b9.mono (Nat.le_trans bel.size hbl5.size))⟩
        · have HRB := Lib.hid (HMd.out m HM1.out (by have := HT2.out; omega))
          have CD2 := Lib.hid (CDe.out w9 b9)
          rw [HRB.out] at CD2
          clear CDe
          go_wp2_with fail
          refine CD2.out.mono ?_
          rintro e w10 ⟨A10, n10, c10, rfl, own10, b10⟩
          have hq1 := own10.conv w10 (Below.refl _ _)
          have hq2 := HCV.out w10 (Below.then_ (Below.then_ hbl5 b9) b10)
          generalize str ls = s0 at *
          have ts : (s0.toList == s0.toList) = true := by simp
          clear own10
          go_wp2
          go_ret
          exact ⟨rfl, ((bel.trans (hbl5.mono bel.size)).trans (b9.mono (Nat.le_trans bel.size hbl5.size))).trans (b10.mono (Nat.le_trans (Nat.le_trans bel.size hbl5.size) b9.size))⟩
      · have d1 : decide ((i : Int) < (n1 : Int)) = false := by simp; omega
        clear hlt hfin
        go_wp2_with (refine at_load rfl 33 _ rfl g7 rfl 33 Z _ q7 Tryd.underlying33 rfl iZ.out ?_)
        refine CL.out.mono ?_
        rintro e w9 ⟨m, rfl, hm, b9⟩
        obtain ⟨hm1, hm2⟩ := HLB.out m hm
        have HM1 := Lib.hid hm1
        have etu : 2 * (tu : Int) = ((2 * tu : Nat) : Int) := by omega
        obtain ⟨t2, ht2⟩ : ∃ t2, t2 = 2 * tu := ⟨_, rfl⟩
        rw [← ht2] at etu
        have ht3 : t2 ≤ 2000 := by omega
        have HT2 := Lib.hid ht2
        clear hm hm1 ht2
        by_cases hge : m ≤ t2
        · go_wp2
          go_ret
          exact ⟨rfl, (bel.trans (hbl5.mono bel.size)).trans (b9.mono (Nat.le_trans bel.size hbl5.size))⟩
        · have HRB := Lib.hid (HMd.out m HM1.out (by have := HT2.out; omega))
          have CD2 := Lib.hid (CDe.out w9 b9)
          rw [HRB.out] at CD2
          clear CDe
          go_wp2_with fail
          refine CD2.out.mono ?_
          rintro e w10 ⟨A10, n10, c10, rfl, own10, b10⟩
          have hq1 := own10.conv w10 (Below.refl _ _)
          have hq2 := HCV.out w10 (Below.then_ (Below.then_ hbl5 b9) b10)
          generalize str ls = s0 at *
          have ts : (s0.toList == s0.toList) = true := by simp
          clear own10
          go_wp2
          go_ret
          exact ⟨rfl, ((bel.trans (hbl5.mono bel.size)).trans (b9.mono (Nat.le_trans bel.size hbl5.size))).trans (b10.mono (Nat.le_trans (Nat.le_trans bel.size hbl5.size) b9.size))⟩
end Go.Proofs.YtibddlldgmidlabDoor
