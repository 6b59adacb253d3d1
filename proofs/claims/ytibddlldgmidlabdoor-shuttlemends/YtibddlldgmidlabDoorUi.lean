/-
  The walk of ShuttleMends.
-/
import Derived.Test.YtibddlldgmidlabDoorUh
namespace Go.Proofs.YtibddlldgmidlabDoor
open Go.RowKit
set_option maxRecDepth 100000
set_option linter.unusedVariables false
set_option linter.unusedSimpArgs false

theorem Rd.from64x {w : World} {B : Nat} {b off n : Nat} {zs : List Int} (h : Rd w B (some ⟨b, off, none⟩) n (I64 zs)) (m : Nat) (hm : m ≤ n) (hn : 0 < n) : Rd w B (some ⟨b, off + m, none⟩) (n - m) (I64 (zs.drop m)) := by
  obtain ⟨b', off', e, hlt, hc⟩ := h.at_ hn
  injection e with e
  injection e with e1 e2
  subst e1 e2
  refine ⟨by rw [I64_length, List.length_drop, ← h.len64], fun _ => ⟨b, off + m, rfl, hlt, fun i u hu => ?_⟩⟩
  rw [Nat.add_assoc]
  refine hc (m + i) u ?_
  rw [← hu]
  simp [I64]
/-- What holds in the loops over the versions. -/
structure MInv (ls : List Nat) (ws : List Nat) (k q : Nat) (row : List (Nat × List Nat)) (v i lf : Nat) : Prop where
  vers : Cv.Vers (k + 6) row
  len : row.length ≤ 7 * v + i
  cnt : ∀ u, u < 4 → Cv.cv row u = if u < v then ws.getD u 0 else if u = v then i else 0
  apr : Cv.apr (Cv.code ls) row + lf ≤ q
theorem MInv.start (ls ws : List Nat) (k q : Nat) : MInv ls ws k q [] 0 0 q := ⟨(fun r hr => by cases hr), (by simp), (fun u hu => by show 0 = _; rw [if_neg (Nat.not_lt_zero u)]; split <;> rfl), (by show 0 + q ≤ q; omega)⟩
theorem MInv.add {ls ws : List Nat} {k q : Nat} {row : List (Nat × List Nat)} {v i lf lf2 : Nat} (h : MInv ls ws k q row v i lf) (p : List Nat) (hv : v < 4) (hl : p.length = k + 6) (hb : ∀ x ∈ p, x ≤ 1) (ha : Bm.ap p (Cv.pick (Cv.code ls) v) + lf2 ≤ lf) : MInv ls ws k q (row ++ [(v, p)]) v (i + 1) lf2 :=
  ⟨h.vers.snoc (v, p) hv hl hb, by rw [List.length_append]; have := h.len; simp; omega, fun u hu => by
    rw [Cv.cv_snoc, h.cnt u hu]
    by_cases e : v = u
    · subst e; simp
    · show _ + (if v = u then 1 else 0) = _
      rw [if_neg e, Nat.add_zero]
      by_cases h1 : u < v
      · rw [if_pos h1, if_pos h1]
      · rw [if_neg h1, if_neg h1, if_neg (fun e2 => e e2.symm), if_neg (fun e2 => e e2.symm)], by
    rw [Cv.apr_snoc]
    have := h.apr
    show Cv.apr (Cv.code ls) row + Bm.ap p (Cv.pick (Cv.code ls) v) + lf2 ≤ q
    omega⟩
theorem MInv.next {ls ws : List Nat} {k q : Nat} {row : List (Nat × List Nat)} {v i lf : Nat} (h : MInv ls ws k q row v i lf) (hi : i = ws.getD v 0) (h7 : i ≤ 7) : MInv ls ws k q row (v + 1) 0 lf :=
  ⟨h.vers, by have := h.len; omega, fun u hu => by
    rw [h.cnt u hu]
    by_cases h1 : u < v
    · rw [if_pos h1, if_pos (by omega)]
    · rw [if_neg h1]
      by_cases h2 : u = v
      · rw [if_pos h2, if_pos (by omega), hi, h2]
      · rw [if_neg h2, if_neg (by omega)]
        split <;> rfl, h.apr⟩
set_option maxHeartbeats 4000000 in
set_option maxRecDepth 100000 in
/-- ShuttleMends. -/
theorem walkShuttleMends (A : Option Addr) (n c : Nat) (xs : List Nat) (A2 : Option Addr) (n2 c2 : Nat) (cs : List Nat) (A3 : Option Addr) (n3 c3 : Nat) (zs : List Int) (w : World) (h1 : Rd w w.heap.size A n (U8 xs)) (b1 : ∀ b ∈ xs, b < 256) (hnc : n ≤ c) (hc : c ≤ 9223372036854775807) (hnone : A = none → n = 0 ∧ c = 0) (hC : Rd w w.heap.size A2 n2 (U8 cs)) (hcb : ∀ b ∈ cs, b < 256) (hn22 : n2 ≤ 9223372036854775807) (hZ : Rd w w.heap.size A3 n3 (I64 zs)) (hn33 : n3 ≤ c3) (hc33 : c3 ≤ 9223372036854775807) (hT : Taps w) :
    Calls Tryd.prog 7 #[.slice A n c, .slice A2 n2 c2, .slice A3 n3 c3] w fun e w' => e = .returned (.bool true) ∧ Below w.heap.size w w' := by
  have C1 := Lib.hid (cut5C A n c xs w h1 hnc hc hnone)
  have HX5 : Hid (∀ b ∈ xs.take 5, b < 256) := fun b hb => b1 b (List.mem_of_mem_take hb)
  have HX6 : Hid ((xs.take 5).length ≤ 5) := by unfold Hid; rw [List.length_take]; omega
  have CO := Lib.hid (fun (A1 : Option Addr) (m c1 : Nat) (W : World) (h : Rd W W.heap.size A1 m (U8 (xs.take 5))) => bitsOf A1 m c1 (xs.take 5) W h HX5.out (by rw [h.len8]; have := HX6.out; omega))
  have HLL : Hid ((Bm.ofBytes (xs.take 5)).length ≤ 40) := by unfold Hid; rw [Bm.ofBytes_length]; have := HX6.out; omega
  have HL := Lib.hid (Bm.ofBytes_bit (xs.take 5))
  generalize Bm.ofBytes (xs.take 5) = ls at *
  have hpos := hT.pos
  have CSt := Lib.hid stands
  clear h1 b1 hnone
  go_enter Tryd.func7, Tryd.ntmps7
  go_upto_region 2 with (first | (go_at_call 29; refine C1.out.mono ?_; rintro e w1 ⟨A1, m1, c1, rfl, own1, be1⟩) | (go_at_call 28; refine (CO.out A1 m1 c1 w1 own1.rd).mono ?_; rintro e w2 ⟨AL, k, cL, rfl, ownL, be2⟩))
  have belL := Below.then_ be1 be2
  have rl := ownL.rd
  have HN := Lib.hid rl.len8
  have hk : k ≤ 40 := by rw [HN.out]; exact HLL.out
  have CC := Lib.hid (codeC AL k cL ls w2 rl ownL.none_ HL.out (by omega) (hT.after belL))
  have HCL : Hid ((Cv.code ls).length = 4 * (k + 6)) := by unfold Hid; rw [Cv.code_length, ← HN.out]
  have HCB := Lib.hid (Cv.code_bit ls HL.out)
  have CSp := Lib.hid (fun (Ac : Option Addr) (nc cc : Nat) (W : World) (h : Rd W W.heap.size Ac nc (U8 (Cv.code ls))) => vSplit Ac nc cc (k + 6) (Cv.code ls) W h HCB.out (by rw [h.len8, HCL.out]) (by omega))
  obtain ⟨T, hTT⟩ : ∃ T, T = k + 6 := ⟨_, rfl⟩
  have HTT := Lib.hid hTT
  have hT6 : 6 ≤ T := by omega
  have hT7 : T ≤ 46 := by omega
  rw [← hTT] at CSp
  clear own1 be1 be2 C1 CO hTT
  go_upto_region 3 with (go_at_call 30; refine CC.out.mono ?_; rintro e w3 ⟨Ac, nc, cc, rfl, own3, be3⟩)
  have CS3 := Lib.hid (CSp.out Ac nc cc w3 own3.rd)
  go_upto_region 4 with (first | (go_at_call 31; refine CS3.out.mono ?_; rintro e w4 ⟨g0, g1, g2, g3, rfl, p0, p1, p2, p3, be4, l0, l1, l2, l3⟩) | (refine at_alloc rfl 59 rfl _ ZS_eq ?_; intro w5 h5) | (refine at_store rfl 59 _ _ rfl w4.heap.size (S4 (sl g0 T) (sl g1 T) (sl g2 T) (sl g3 T)) rfl rfl 59 _ h5.row infoS4 rfl (S4_one _ _ _ _ _) ?_; intro w6 h6))
  have m0 := p0.lt
  have m1' := p1.lt
  have m2 := p2.lt
  have m3 := p3.lt
  have hw46 : w6.heap.size = w4.heap.size + 1 := by rw [h6.size, h5.size]
  have HP6 : Hid (∀ v, v < 4 → ∃ g, (S4 (sl g0 T) (sl g1 T) (sl g2 T) (sl g3 T))[v]? = some (sl g T) ∧ Blk w6 g 5 (B8 (Cv.pick (Cv.code ls) v)) ∧ g < w6.heap.size) := fun v hv => by
    have h : v = 0 ∨ v = 1 ∨ v = 2 ∨ v = 3 := by omega
    rcases h with rfl | rfl | rfl | rfl
    · exact ⟨g0, rfl, h6.blk (p0.after h5.bel) (by omega), by omega⟩
    · exact ⟨g1, rfl, h6.blk (p1.after h5.bel) (by omega), by omega⟩
    · exact ⟨g2, rfl, h6.blk (p2.after h5.bel) (by omega), by omega⟩
    · exact ⟨g3, rfl, h6.blk (p3.after h5.bel) (by omega), by omega⟩
  have q10 := h6.row
  have be26 : Below w2.heap.size w2 w6 := (Below.then_ (Below.then_ be3 be4) h5.bel).trans (h6.below (Nat.le_trans be3.size be4.size))
  obtain ⟨g10, hg10⟩ : ∃ g, g = w4.heap.size := ⟨_, rfl⟩
  rw [← hg10] at q10
  rw [← hg10]
  have hg10l : g10 < w6.heap.size := by omega
  obtain ⟨V10, hV10⟩ : ∃ V, V = S4 (sl g0 T) (sl g1 T) (sl g2 T) (sl g3 T) := ⟨_, rfl⟩
  rw [← hV10] at HP6 q10
  have hV := hV10.symm
  clear h5 h6 be3 be4 own3 p0 p1 p2 p3 l0 l1 l2 l3 m0 m1' m2 m3 hg10 hw46 CC CSp CS3 HCB
  rw [hV]
  have CN := Lib.hid (newC k w6 (by omega))
  have hT6t := (hT.after belL).after be26
  clear hV hV10
  go_upto_region 7 with (first | (go_at_call 16; refine CN.out.mono ?_; rintro e w7 ⟨rfl, hB, b7, s7⟩) | (go_at_call 32; refine (CSt.out w7).mono ?_; rintro e w8 ⟨rfl, b8⟩))
  replace hB := hB.after b8
  have bel8 : Below w6.heap.size w6 w8 := Below.then_ b7 b8
  have hs8 : w6.heap.size < w8.heap.size := by have := b8.size; omega
  obtain ⟨gB, hgB⟩ : ∃ g, g = w6.heap.size := ⟨_, rfl⟩
  rw [← hgB] at hB bel8 hs8 hg10l HP6
  rw [← hgB]
  have HGB := Lib.hid hgB
  have hwB : w.heap.size ≤ gB := by rw [hgB]; exact Nat.le_trans belL.size be26.size
  have hw2B : w2.heap.size ≤ gB := by rw [hgB]; exact be26.size
  clear b7 b8 s7 CN hgB CSt
  go_upto_region 9 with (refine at_alloc rfl 33 rfl (W4 (nw [0, 0, 0, 0])) Z4w_eq' ?_; intro w9 h9)
  have q14 := h9.row
  have hs9 := h9.size
  replace hB := hB.after h9.bel
  replace bel8 : Below gB w6 w9 := bel8.trans (h9.bel.mono (Nat.le_of_lt hs8))
  obtain ⟨g14, hg14⟩ : ∃ g, g = w8.heap.size := ⟨_, rfl⟩
  rw [← hg14] at q14 hs8 hs9
  rw [← hg14]
  clear h9 hg14
  obtain ⟨G, hG⟩ : ∃ G, G = w9.heap.size := ⟨_, rfl⟩
  have hG14 : g14 < G := by omega
  have hG9 : G ≤ w9.heap.size := by omega
  clear hG hs9
  go_loopw [15] (fun x wr => ∃ i : Nat, i ≤ n2 ∧ i ≤ 8 ∧ x = .int .i64 i ∧ ∃ ws : List Nat, Blk wr g14 33 (W4 (nw ws)) ∧ Hid (ws.length = 4 ∧ ∀ v, ws.getD v 0 ≤ i) ∧ BufS wr gB k [] (.slice none 0 0) ∧ Below gB w6 wr ∧ G ≤ wr.heap.size) (fun x _ => 8 - (intOf x).toNat)
  case atStart => exact ⟨0, by omega, by omega, rfl, [0, 0, 0, 0], q14, ⟨rfl, fun v => by
    have h : v = 0 ∨ v = 1 ∨ v = 2 ∨ v = 3 ∨ 4 ≤ v := by omega
    rcases h with rfl | rfl | rfl | rfl | h
    · exact Nat.le_refl _
    · exact Nat.le_refl _
    · exact Nat.le_refl _
    · exact Nat.le_refl _
    · rw [Bm.getD_ge _ _ _ (by simpa using h)]; exact Nat.le_refl _⟩, hB, bel8, hG9⟩
  case round =>
    clear hB q14 bel8 hG9
    obtain ⟨i, hi1, hi2, rfl, ws, q14, HW, hB, bl, hGr⟩ := hrel
    by_cases hlt : i < n2 ∧ i < 8
    · obtain ⟨hlt1, hlt2⟩ := hlt
      obtain ⟨b, off, hA2, hb, kx⟩ := ((((hC.below belL).below (be26.mono belL.size)).below (bl.mono hwB))).cell8 i hlt1
      subst hA2
      have hx := Bm.byte_lt cs hcb i
      generalize cs.getD i 0 = x at *
      obtain ⟨v, hv, hv2⟩ : ∃ v : Nat, v < 4 ∧ (x : Int) % 4 = (v : Int) := ⟨x % 4, by omega, by omega⟩
      have ky := (q14.cell v).trans (W4nw_get ws v (by rw [HW.out.1]; exact hv))
      have sz : v < (W4 (nw ws)).size := by rw [W4nw_size, HW.out.1]; exact hv
      have hy := HW.out.2 v
      have HW2 : Hid ((ws.set v (ws.getD v 0 + 1)).length = 4 ∧ ∀ u, (ws.set v (ws.getD v 0 + 1)).getD u 0 ≤ i + 1) := by
        refine ⟨by rw [List.length_set]; exact HW.out.1, fun u => ?_⟩
        rw [Bm.set_getD ws v _ u (by rw [HW.out.1]; exact hv)]
        split
        · omega
        · have := HW.out.2 u; omega
      generalize ws.getD v 0 = y at *
      obtain ⟨y1, hy1⟩ : ∃ y1, y1 = y + 1 := ⟨_, rfl⟩
      have ey : (y : Int) + 1 = (y1 : Int) := by omega
      rw [← hy1] at HW2
      have iw := fun W => run_idx (P := Tryd.prog) (sz := 1) Tryd.underlying33 (by kernel_rfl) g14 0 v hv .u8 W
      simp only [Nat.zero_add, Nat.one_mul] at iw
      have d1 : decide ((i : Int) < (n2 : Int)) = true := by simp; omega
      have d2 : decide ((i : Int) < 8) = true := by simp; omega
      clear hy1
      go_wp2_with (refine at_cell rfl 3 _ _ rfl g14 v (.int .i64 (y1 : Int)) rfl rfl 33 (W4 (nw ws)) q14 sz info3one rfl ?_; intro w11 h11)
      go_roundw
      case rel => exact ⟨i + 1, by omega, by omega, by go_num, ws.set v y1, by rw [← W4nw_set]; exact h11.row, HW2.out, hB.upd h11 (by omega) (by intro e; cases e), bl.trans (h11.below (by omega)), by rw [h11.size]; exact hGr⟩
      case measure => simp [intOf] <;> omega
    · have hfin := hlt
      clear hlt
      by_cases hi12 : i < n2
      · have d1 : decide ((i : Int) < (n2 : Int)) = true := by simp; omega
        have d2 : decide ((i : Int) < 8) = false := by simp; omega
        clear hfin
        go_wp2
        go_loopw [16] (fun x wx => ∃ j : Nat, j ≤ 4 ∧ x = .int .i64 j ∧ ∃ vs : List Nat, Blk wx g14 33 (W4 (nw vs)) ∧ Hid (vs.length = 4 ∧ (∀ v, vs.getD v 0 ≤ 8) ∧ ∀ v, v < j → vs.getD v 0 ≤ 7) ∧ BufS wx gB k [] (.slice none 0 0) ∧ Below gB w6 wx ∧ G ≤ wx.heap.size) (fun x _ => 4 - (intOf x).toNat)
        case atStart => exact ⟨0, by omega, rfl, ws, q14, ⟨HW.out.1, fun v => by have := HW.out.2 v; omega, fun v hv => by omega⟩, hB, bl, hGr⟩
        case round =>
          clear q14 HW hB bl hGr
          obtain ⟨j, hj, rfl, ws, q14, HW, hB, bl, hGr⟩ := hrel
          by_cases hlt : j < 4
          · have ky := (q14.cell j).trans (W4nw_get ws j (by rw [HW.out.1]; exact hlt))
            have sz : j < (W4 (nw ws)).size := by rw [W4nw_size, HW.out.1]; exact hlt
            have hy := HW.out.2.1 j
            obtain ⟨m, hm⟩ : ∃ m, m = min (ws.getD j 0) 7 := ⟨_, rfl⟩
            have HW2 : Hid ((ws.set j m).length = 4 ∧ (∀ v, (ws.set j m).getD v 0 ≤ 8) ∧ ∀ v, v < j + 1 → (ws.set j m).getD v 0 ≤ 7) := by
              refine ⟨by rw [List.length_set]; exact HW.out.1, fun v => ?_, fun v hv => ?_⟩
              · rw [Bm.set_getD ws j _ v (by rw [HW.out.1]; exact hlt)]
                split
                · omega
                · exact HW.out.2.1 v
              · rw [Bm.set_getD ws j _ v (by rw [HW.out.1]; exact hlt)]
                split
                · omega
                · rename_i hne
                  exact HW.out.2.2 v (by omega)
            generalize ws.getD j 0 = y at *
            have e1 : (if (7 : Int) < (y : Int) then (7 : Int) else (y : Int)) = (m : Int) := by split <;> omega
            have e2 : min (y : Int) 7 = (m : Int) := by omega
            have e3 : (if 7 < y then (7 : Int) else (y : Int)) = (m : Int) := by split <;> omega
            have iw := fun W => run_idx (P := Tryd.prog) (sz := 1) Tryd.underlying33 (by kernel_rfl) g14 0 j hlt .i64 W
            simp only [Nat.zero_add, Nat.one_mul] at iw
            have dj : decide ((j : Int) < 4) = true := by simp <;> omega
            clear hm
            go_wp2_with (refine at_cell rfl 3 _ _ rfl g14 j (.int .i64 (m : Int)) rfl (by first | rfl | (rw [e3]) | (rw [e1])) 33 (W4 (nw ws)) q14 sz info3one rfl ?_; intro w11 h11)
            go_roundw
            case rel => exact ⟨j + 1, by omega, by go_num, ws.set j m, by rw [← W4nw_set]; exact h11.row, HW2.out, hB.upd h11 (by omega) (by intro e; cases e), bl.trans (h11.below (by omega)), by rw [h11.size]; exact hGr⟩
            case measure => simp [intOf] <;> omega
          · have dj : decide ((j : Int) < 4) = false := by simp <;> omega
            have HJ4 : Hid (j = 4) := by unfold Hid; omega
            have HL4 := Lib.hid HW.out.1
            have HW7 : Hid (∀ v, v < 4 → ws.getD v 0 ≤ 7) := fun v hv => HW.out.2.2 v (by have := HJ4.out; omega)
            have HM7 : Hid (∀ y ∈ ws, y ≤ 7) := fun y hy => by
              obtain ⟨t, ht, rfl⟩ := List.mem_iff_getElem.1 hy
              have := HW7.out t (by rw [← HL4.out]; exact ht)
              rw [Bm.getD_lt _ _ _ ht] at this
              exact this
            have hTr : Taps wr := hT6t.low bl (by omega)
            have CM := Lib.hid (mendsYes ws wr HL4.out HM7.out hTr)
            have iZ : Hid ((Tryd.prog.info? 33).map (·.size) = some (W4 (nw ws)).size) := by unfold Hid; rw [W4_size, nw_length, HL4.out]; exact info4w
            obtain ⟨Z, hZe⟩ : ∃ Z, Z = W4 (nw ws) := ⟨_, rfl⟩
            have HZE := Lib.hid hZe
            rw [← hZe] at CM iZ q14
            clear HW hZe
            go_wp2_with (refine at_load rfl 33 _ rfl g14 rfl 33 Z _ q14 Tryd.underlying33 rfl iZ.out ?_)
            refine CM.out.mono ?_
            rintro e w10 ⟨nn, q, rfl, hq, hnn, b10⟩
            have HQ := Lib.hid hq
            have HNN := Lib.hid hnn
            have hqb : q ≤ 100 := by have := @Lst_bound7 ws HM7.out nn hnn; omega
            replace hB := hB.after b10
            replace q14 := q14.after b10
            have hs10 := b10.size
            replace bl := bl.trans (b10.mono (by omega))
            replace hGr : G ≤ w10.heap.size := by omega
            clear hq hnn CM b10 hs10 hTr
            go_upto_region 21 with fail
            go_loopw [17, 19, 20] (fun sl_ sk x wx => ∃ v : Nat, v ≤ 4 ∧ x = .int .i64 v ∧ ∃ (row : List (Nat × List Nat)) (S : Value) (kk lf : Nat), sl_ = .int .i64 lf ∧ sk = .int .i64 kk ∧ kk ≤ n3 ∧ Hid (MInv ls ws k q row v 0 lf) ∧ BufS wx gB k row S ∧ (∀ j, S.ownBlock = some j → G ≤ j) ∧ Blk wx g14 33 Z ∧ Below gB w6 wx ∧ G ≤ wx.heap.size) (fun _ _ x _ => 4 - (intOf x).toNat)
            case atStart => exact ⟨0, by omega, rfl, [], _, 0, q, rfl, rfl, by omega, MInv.start ls ws k q, hB, (fun j hj => by cases hj), q14, bl, hGr⟩
            case round =>
              clear hB q14 bl hGr
              obtain ⟨v, hv, rfl, row, S, kk, lf, rfl, rfl, hkk, HI, hB, hS, q14, bl, hGr⟩ := hrel
              by_cases hlt : v < 4
              · have dv : decide ((v : Int) < 4) = true := by simp <;> omega
                go_wp2
                obtain ⟨wo, hwo⟩ : ∃ wo : World, wo = wr := ⟨_, rfl⟩
                clear hwo
                go_loopw [17, 19, 21] (fun sl_ sk x wx => ∃ i : Nat, x = .int .i64 i ∧ i ≤ ws.getD v 0 ∧ ∃ (row : List (Nat × List Nat)) (S : Value) (kk lf : Nat), sl_ = .int .i64 lf ∧ sk = .int .i64 kk ∧ kk ≤ n3 ∧ Hid (MInv ls ws k q row v i lf) ∧ BufS wx gB k row S ∧ (∀ j, S.ownBlock = some j → G ≤ j) ∧ Blk wx g14 33 Z ∧ Below gB w6 wx ∧ G ≤ wx.heap.size) (fun _ _ x _ => 7 - (intOf x).toNat)
                case atStart => exact ⟨0, rfl, Nat.zero_le _, row, S, kk, lf, rfl, rfl, hkk, HI.out, hB, hS, q14, bl, hGr⟩
                case round =>
                  clear hB q14 bl hGr HI hS hkk
                  obtain ⟨i, rfl, hiw, row, S, kk, lf, rfl, rfl, hkk, HI, hB, hS, q14, bl, hGr⟩ := hrel
                  have kw : wr.cell? ⟨g14, v, none⟩ = some (.int .i64 ((ws.getD v 0 : Nat) : Int)) := by
                    refine (q14.cell v).trans ?_
                    rw [HZE.out]
                    exact W4nw_get ws v (by rw [HL4.out]; exact hlt)
                  have hw7 := HW7.out v hlt
                  have iw := fun W => run_idx (P := Tryd.prog) (sz := 1) Tryd.underlying33 (by kernel_rfl) g14 0 v hlt .i64 W
                  simp only [Nat.zero_add, Nat.one_mul] at iw
                  have hrl := HI.out.len
                  have hlf : lf ≤ 100 := by have := HI.out.apr; omega
                  by_cases hltw : i < ws.getD v 0
                  · obtain ⟨gv, hVv, pv, hgv⟩ := HP6.out v hlt
                    have pvr : Blk wr gv 5 (B8 (Cv.pick (Cv.code ls) v)) := pv.below bl hgv
                    have k10 : wr.cell? ⟨g10, v, none⟩ = some (.slice (some ⟨gv, 0, none⟩) T T) := ((q10.below bl hg10l).cell v).trans hVv
                    have i10 := fun W => run_idx (P := Tryd.prog) (sz := 1) Tryd.underlying59 (by kernel_rfl) g10 0 v hlt .i64 W
                    simp only [Nat.zero_add, Nat.one_mul] at i10
                    have HPL : Hid ((Cv.pick (Cv.code ls) v).length = T) := by unfold Hid; rw [Cv.pick_length, HCL.out, HTT.out]; omega
                    have HPB := Lib.hid (Cv.pick_bit _ (Cv.code_bit ls HL.out) v)
                    have rv := pvr.rd8 HPL.out
                    have hgvl := pvr.lt
                    have HIW : Hid (i + 1 ≤ ws.getD v 0) := hltw
                    have hSv : S.ownBlock ≠ some gv := fun e => by have := hS gv e; omega
                    generalize ws.getD v 0 = wv at *
                    clear hVv pv pvr
                    by_cases hturn : kk < n3 ∧ 0 < lf
                    · obtain ⟨ht1, ht2⟩ := hturn
                      obtain ⟨b, off, hA3, hb, _⟩ := ((((hZ.below belL).below (be26.mono belL.size)).below (bl.mono hwB))).cell64 kk ht1
                      have rZ := (((hZ.below belL).below (be26.mono belL.size)).below (bl.mono hwB)).up (by omega : w.heap.size ≤ wr.heap.size)
                      subst hA3
                      have rZ2 := rZ.from64x kk (by omega) (by omega)
                      have CPl := Lib.hid (places1C (some ⟨b, off + kk, none⟩) (n3 - kk) (c3 - kk) T (zs.drop kk) wr rZ2 (by omega) (by omega) (by omega))
                      have CTu := Lib.hid (fun (A4 : Option Addr) (m4 c4 : Nat) (ps : List Nat) (W : World) (hW : Below wr.heap.size wr W) (h : Rd W W.heap.size A4 m4 (I64 (ints1 ps))) (hm : m4 ≤ 1) => turnC (some ⟨gv, 0, none⟩) A4 T T m4 c4 (Cv.pick (Cv.code ls) v) (ints1 ps) W ((rv.below hW).up hW.size) (fun e => by cases e) h (bit256 HPB.out) (by omega) (by omega))
                      have HAT := Lib.hid (fun ps h1 h2 => ap_turn (Cv.pick (Cv.code ls) v) ps h1 h2)
                      have d1 : decide ((kk : Int) < (n3 : Int)) = true := by simp; omega
                      have d2 : decide ((0 : Int) < (lf : Int)) = true := by simp; omega
                      have f0 : (0 : Int) ≤ (kk : Int) := by omega
                      have f1 : (kk : Int) ≤ (n3 : Int) := by omega
                      have f2 : (kk : Int) ≤ (c3 : Int) := by omega
                      have f3 : (kk : Int) < (c3 : Int) := by omega
                      have f4 : (n3 : Int) ≤ (c3 : Int) := by omega
                      obtain ⟨lf1, hlf1⟩ : ∃ l, lf = l + 1 := ⟨lf - 1, by omega⟩
                      have el : (lf : Int) - 1 = (lf1 : Int) := by omega
                      have HLF := Lib.hid hlf1
                      clear hlf1 rZ
                      go_upto_region 28 with fail
                      go_wp2_with fail
                      refine CPl.out.mono ?_
                      rintro e w11 ⟨A4, m4, c4, ps, rfl, own4, HPS, b11⟩
                      have hm4 : m4 ≤ 1 := by
                        have h := own4.rd.len64
                        have := HPS.out.1
                        rw [h]; unfold ints1; rw [List.length_map]; exact this
                      have CT2 := Lib.hid (CTu.out A4 m4 c4 ps w11 b11 own4.rd hm4)
                      have HPN : Hid ((Bm.trn (Cv.pick (Cv.code ls) v) (ints1 ps)).length = T) := by unfold Hid; rw [Bm.trn_length, HPL.out]
                      have HPB2 : Hid (∀ x ∈ Bm.trn (Cv.pick (Cv.code ls) v) (ints1 ps), x ≤ 1) := fun x hx => by
                        have := Bm.trn_lt 1 (by omega) (Cv.pick (Cv.code ls) v) (ints1 ps) (fun y hy => by have := HPB.out y hy; omega) x hx
                        omega
                      have HA2 := Lib.hid (HAT.out ps HPS.out.1 (by rw [HPL.out]; exact HPS.out.2))
                      have HADD : Hid (MInv ls ws k q (row ++ [(v, Bm.trn (Cv.pick (Cv.code ls) v) (ints1 ps))]) v (i + 1) lf1) := HI.out.add _ hlt (by rw [HPN.out, HTT.out]) HPB2.out (by have := HA2.out; have := HLF.out; omega)
                      generalize Bm.trn (Cv.pick (Cv.code ls) v) (ints1 ps) = p at *
                      clear own4 CPl CTu HAT
                      go_wp2_with fail
                      refine CT2.out.mono ?_
                      rintro e w12 ⟨A5, n5, c5, rfl, own5, b12⟩
                      have hn5 : n5 = T := by rw [own5.rd.len8, HPN.out]
                      subst hn5
                      obtain ⟨g5, rfl, hg5, hg5l⟩ := own5.at0 (by omega)
                      have b1112 := Below.then_ b11 b12
                      have hs11 := b11.size
                      have hs12 := b1112.size
                      have hB12 := hB.after b1112
                      have hltB := hB.blk.lt
                      have hS5 : S.ownBlock ≠ some g5 := fun e => by have := hB.lt g5 e; omega
                      have CA := Lib.hid (addC gB k v n5 c5 g5 0 row p S w12 hB12 (by omega) (by omega) hlt HTT.out own5.rd HPB2.out (by omega) hg5l hS5)
                      have q1412 := q14.after b1112
                      clear own5 CT2
                      go_wp2_with fail
                      refine CA.out.mono ?_
                      rintro e w13 ⟨rfl, S', hB13, hK, hO⟩
                      have q1413 := hK.blk q1412 (by omega) (fun e => by have := hS g14 e; omega)
                      have bl13 := (bl.trans (b1112.mono (by omega))).trans (hK.below (Nat.le_refl _) (fun j hj => by have := hS j hj; omega) (by omega))
                      have hs13 := hK.size
                      have hS13 : ∀ j, S'.ownBlock = some j → G ≤ j := fun j hj => by
                        rcases hO with e | ⟨j2, e, hj2⟩
                        · exact hS j (by rw [← e]; exact hj)
                        · rw [e] at hj; injection hj with hj; omega
                      have hG13 : G ≤ w13.heap.size := by omega
                      clear hO CA
                      go_wp2
                      go_roundw
                      case rel => exact ⟨i + 1, by go_num, HIW.out, row ++ [(v, p)], S', kk + 1, lf1, by first | rfl | go_num, by first | rfl | go_num, by omega, HADD.out, hB13, hS13, q1413, bl13, hG13⟩
                      case measure => simp [intOf] <;> omega
                    · have CA := Lib.hid (addC gB k v T T gv 0 row (Cv.pick (Cv.code ls) v) S wr hB (by omega) (by omega) hlt HTT.out rv HPB.out (by omega) hgvl hSv)
                      have HADD : Hid (MInv ls ws k q (row ++ [(v, Cv.pick (Cv.code ls) v)]) v (i + 1) lf) := HI.out.add _ hlt (by rw [HPL.out, HTT.out]) HPB.out (by rw [ap_self]; omega)
                      have b1112 : Below wr.heap.size wr wr := Below.refl _ _
                      have hs12 : wr.heap.size ≤ wr.heap.size := Nat.le_refl _
                      have q1412 := q14
                      have hB12 := hB
                      have hltB := hB.blk.lt
                      generalize Cv.pick (Cv.code ls) v = p at *
                      by_cases hk3 : kk < n3
                      · have d1 : decide ((kk : Int) < (n3 : Int)) = true := by simp; omega
                        have d2 : decide ((0 : Int) < (lf : Int)) = false := by simp; omega
                        have hl0 : ¬ 0 < lf := fun h => hturn ⟨hk3, h⟩
                        clear hturn
                        go_wp2_with fail
                        refine CA.out.mono ?_
                        rintro e w13 ⟨rfl, S', hB13, hK, hO⟩
                        have q1413 := hK.blk q1412 (by omega) (fun e => by have := hS g14 e; omega)
                        have bl13 := (bl.trans (b1112.mono (by omega))).trans (hK.below (Nat.le_refl _) (fun j hj => by have := hS j hj; omega) (by omega))
                        have hs13 := hK.size
                        have hS13 : ∀ j, S'.ownBlock = some j → G ≤ j := fun j hj => by
                          rcases hO with e | ⟨j2, e, hj2⟩
                          · exact hS j (by rw [← e]; exact hj)
                          · rw [e] at hj; injection hj with hj; omega
                        have hG13 : G ≤ w13.heap.size := by omega
                        clear hO CA
                        go_wp2
                        go_roundw
                        case rel => exact ⟨i + 1, by go_num, HIW.out, row ++ [(v, p)], S', kk, lf, by first | rfl | go_num, by first | rfl | go_num, by omega, HADD.out, hB13, hS13, q1413, bl13, hG13⟩
                        case measure => simp [intOf] <;> omega
                      · have d1 : decide ((kk : Int) < (n3 : Int)) = false := by simp; omega
                        clear hturn
                        go_wp2_with fail
                        refine CA.out.mono ?_
                        rintro e w13 ⟨rfl, S', hB13, hK, hO⟩
                        have q1413 := hK.blk q1412 (by omega) (fun e => by have := hS g14 e; omega)
                        have bl13 := (bl.trans (b1112.mono (by omega))).trans (hK.below (Nat.le_refl _) (fun j hj => by have := hS j hj; omega) (by omega))
                        have hs13 := hK.size
                        have hS13 : ∀ j, S'.ownBlock = some j → G ≤ j := fun j hj => by
                          rcases hO with e | ⟨j2, e, hj2⟩
                          · exact hS j (by rw [← e]; exact hj)
                          · rw [e] at hj; injection hj with hj; omega
                        have hG13 : G ≤ w13.heap.size := by omega
                        clear hO CA
                        go_wp2
                        go_roundw
                        case rel => exact ⟨i + 1, by go_num, HIW.out, row ++ [(v, p)], S', kk, lf, by first | rfl | go_num, by first | rfl | go_num, by omega, HADD.out, hB13, hS13, q1413, bl13, hG13⟩
                        case measure => simp [intOf] <;> omega
                  · have HIE : Hid (i = ws.getD v 0) := by unfold Hid; omega
                    have HI2 := Lib.hid (HI.out.next HIE.out (by omega))
                    generalize ws.getD v 0 = wv at *
                    go_wp2
                    go_roundw
                    case rel => exact ⟨v + 1, by omega, by go_num, row, S, kk, lf, rfl, rfl, hkk, HI2.out, hB, hS, q14, bl, hGr⟩
                    case measure => simp [intOf] <;> omega
              · have dv : decide ((v : Int) < 4) = false := by simp <;> omega
                have HV4 : Hid (v = 4) := by unfold Hid; omega
                have hTr : Taps wr := hT6t.low bl (by omega)
                have CL := Lib.hid (leastYes ws wr HL4.out HM7.out hTr)
                have hrl := HI.out.len
                have CDe := Lib.hid (fun (W : World) (h : Below wr.heap.size wr W) => bdecode gB k row S W (hB.after h) (by omega) (by omega) (hTr.after h))
                have HU : Hid (∀ m, Cv.Lst (wof ws) m → m = nn) := fun m hm => hm.uniq HNN.out
                have HRB : Hid (nn ≠ 0 → Cv.rb (Cv.softs (k + 6) row) k 0 0 = ls) := fun h0 => by
                  have hv := HI.out.vers
                  have ha := HI.out.apr
                  rw [HN.out] at hv ⊢
                  refine (Cv.rb_best _ _).uniq (Cv.row_mends ls HL.out row hv nn (HNN.out.congr fun u hu => ?_) ?_)
                  · have := HI.out.cnt u hu
                    rw [HV4.out, if_pos hu] at this
                    rw [this]; rfl
                  · have := HQ.out
                    omega
                have hbl2 : Below w2.heap.size w2 wr := by
                  have := be26.trans ((by rw [← HGB.out]; exact bl : Below w6.heap.size w6 wr).mono be26.size)
                  exact this
                have HCV := Lib.hid (fun (W : World) (h : Below wr.heap.size wr W) => ownL.conv W (Below.then_ hbl2 h))
                have HBW := Lib.hid (Below.then_ belL hbl2)
                have hnb := @Lst_bound7 ws HM7.out nn HNN.out
                rw [← HZE.out] at CL
                clear hB hS bl HI
                go_wp2_with (refine at_load rfl 33 _ rfl g14 rfl 33 Z _ q14 Tryd.underlying33 rfl iZ.out ?_)
                refine CL.out.mono ?_
                rintro e w11 ⟨m, rfl, hm, b11⟩
                obtain rfl := (HU.out m hm).symm
                clear hm
                by_cases h0 : nn = 0
                · have t0 : ((nn : Int) == 0) = true := by rw [h0]; rfl
                  clear h0 HRB
                  go_wp2
                  go_ret
                  exact ⟨rfl, Below.then_ HBW.out b11⟩
                · have t0 : ((nn : Int) == 0) = false := by simp; omega
                  have CD2 := Lib.hid (CDe.out w11 b11)
                  rw [HRB.out h0] at CD2
                  clear CDe h0 HRB
                  go_wp2_with fail
                  refine CD2.out.mono ?_
                  rintro e w12 ⟨A12, n12, c12, rfl, own12, b12⟩
                  have hq1 := own12.conv w12 (Below.refl _ _)
                  have hq2 := HCV.out w12 (Below.then_ b11 b12)
                  generalize str ls = s0 at *
                  have ts : (s0.toList == s0.toList) = true := by simp
                  clear own12
                  go_wp2
                  go_ret
                  exact ⟨rfl, Below.then_ (Below.then_ HBW.out b11) b12⟩
      · have d1 : decide ((i : Int) < (n2 : Int)) = false := by simp; omega
        clear hfin
        go_wp2
        go_loopw [16] (fun x wx => ∃ j : Nat, j ≤ 4 ∧ x = .int .i64 j ∧ ∃ vs : List Nat, Blk wx g14 33 (W4 (nw vs)) ∧ Hid (vs.length = 4 ∧ (∀ v, vs.getD v 0 ≤ 8) ∧ ∀ v, v < j → vs.getD v 0 ≤ 7) ∧ BufS wx gB k [] (.slice none 0 0) ∧ Below gB w6 wx ∧ G ≤ wx.heap.size) (fun x _ => 4 - (intOf x).toNat)
        case atStart => exact ⟨0, by omega, rfl, ws, q14, ⟨HW.out.1, fun v => by have := HW.out.2 v; omega, fun v hv => by omega⟩, hB, bl, hGr⟩
        case round =>
          clear q14 HW hB bl hGr
          obtain ⟨j, hj, rfl, ws, q14, HW, hB, bl, hGr⟩ := hrel
          by_cases hlt : j < 4
          · have ky := (q14.cell j).trans (W4nw_get ws j (by rw [HW.out.1]; exact hlt))
            have sz : j < (W4 (nw ws)).size := by rw [W4nw_size, HW.out.1]; exact hlt
            have hy := HW.out.2.1 j
            obtain ⟨m, hm⟩ : ∃ m, m = min (ws.getD j 0) 7 := ⟨_, rfl⟩
            have HW2 : Hid ((ws.set j m).length = 4 ∧ (∀ v, (ws.set j m).getD v 0 ≤ 8) ∧ ∀ v, v < j + 1 → (ws.set j m).getD v 0 ≤ 7) := by
              refine ⟨by rw [List.length_set]; exact HW.out.1, fun v => ?_, fun v hv => ?_⟩
              · rw [Bm.set_getD ws j _ v (by rw [HW.out.1]; exact hlt)]
                split
                · omega
                · exact HW.out.2.1 v
              · rw [Bm.set_getD ws j _ v (by rw [HW.out.1]; exact hlt)]
                split
                · omega
                · rename_i hne
                  exact HW.out.2.2 v (by omega)
            generalize ws.getD j 0 = y at *
            have e1 : (if (7 : Int) < (y : Int) then (7 : Int) else (y : Int)) = (m : Int) := by split <;> omega
            have e2 : min (y : Int) 7 = (m : Int) := by omega
            have e3 : (if 7 < y then (7 : Int) else (y : Int)) = (m : Int) := by split <;> omega
            have iw := fun W => run_idx (P := Tryd.prog) (sz := 1) Tryd.underlying33 (by kernel_rfl) g14 0 j hlt .i64 W
            simp only [Nat.zero_add, Nat.one_mul] at iw
            have dj : decide ((j : Int) < 4) = true := by simp <;> omega
            clear hm
            go_wp2_with (refine at_cell rfl 3 _ _ rfl g14 j (.int .i64 (m : Int)) rfl (by first | rfl | (rw [e3]) | (rw [e1])) 33 (W4 (nw ws)) q14 sz info3one rfl ?_; intro w11 h11)
            go_roundw
            case rel => exact ⟨j + 1, by omega, by go_num, ws.set j m, by rw [← W4nw_set]; exact h11.row, HW2.out, hB.upd h11 (by omega) (by intro e; cases e), bl.trans (h11.below (by omega)), by rw [h11.size]; exact hGr⟩
            case measure => simp [intOf] <;> omega
          · have dj : decide ((j : Int) < 4) = false := by simp <;> omega
            have HJ4 : Hid (j = 4) := by unfold Hid; omega
            have HL4 := Lib.hid HW.out.1
            have HW7 : Hid (∀ v, v < 4 → ws.getD v 0 ≤ 7) := fun v hv => HW.out.2.2 v (by have := HJ4.out; omega)
            have HM7 : Hid (∀ y ∈ ws, y ≤ 7) := fun y hy => by
              obtain ⟨t, ht, rfl⟩ := List.mem_iff_getElem.1 hy
              have := HW7.out t (by rw [← HL4.out]; exact ht)
              rw [Bm.getD_lt _ _ _ ht] at this
              exact this
            have hTr : Taps wr := hT6t.low bl (by omega)
            have CM := Lib.hid (mendsYes ws wr HL4.out HM7.out hTr)
            have iZ : Hid ((Tryd.prog.info? 33).map (·.size) = some (W4 (nw ws)).size) := by unfold Hid; rw [W4_size, nw_length, HL4.out]; exact info4w
            obtain ⟨Z, hZe⟩ : ∃ Z, Z = W4 (nw ws) := ⟨_, rfl⟩
            have HZE := Lib.hid hZe
            rw [← hZe] at CM iZ q14
            clear HW hZe
            go_wp2_with (refine at_load rfl 33 _ rfl g14 rfl 33 Z _ q14 Tryd.underlying33 rfl iZ.out ?_)
            refine CM.out.mono ?_
            rintro e w10 ⟨nn, q, rfl, hq, hnn, b10⟩
            have HQ := Lib.hid hq
            have HNN := Lib.hid hnn
            have hqb : q ≤ 100 := by have := @Lst_bound7 ws HM7.out nn hnn; omega
            replace hB := hB.after b10
            replace q14 := q14.after b10
            have hs10 := b10.size
            replace bl := bl.trans (b10.mono (by omega))
            replace hGr : G ≤ w10.heap.size := by omega
            clear hq hnn CM b10 hs10 hTr
            go_upto_region 21 with fail
            go_loopw [17, 19, 20] (fun sl_ sk x wx => ∃ v : Nat, v ≤ 4 ∧ x = .int .i64 v ∧ ∃ (row : List (Nat × List Nat)) (S : Value) (kk lf : Nat), sl_ = .int .i64 lf ∧ sk = .int .i64 kk ∧ kk ≤ n3 ∧ Hid (MInv ls ws k q row v 0 lf) ∧ BufS wx gB k row S ∧ (∀ j, S.ownBlock = some j → G ≤ j) ∧ Blk wx g14 33 Z ∧ Below gB w6 wx ∧ G ≤ wx.heap.size) (fun _ _ x _ => 4 - (intOf x).toNat)
            case atStart => exact ⟨0, by omega, rfl, [], _, 0, q, rfl, rfl, by omega, MInv.start ls ws k q, hB, (fun j hj => by cases hj), q14, bl, hGr⟩
            case round =>
              clear hB q14 bl hGr
              obtain ⟨v, hv, rfl, row, S, kk, lf, rfl, rfl, hkk, HI, hB, hS, q14, bl, hGr⟩ := hrel
              by_cases hlt : v < 4
              · have dv : decide ((v : Int) < 4) = true := by simp <;> omega
                go_wp2
                obtain ⟨wo, hwo⟩ : ∃ wo : World, wo = wr := ⟨_, rfl⟩
                clear hwo
                go_loopw [17, 19, 21] (fun sl_ sk x wx => ∃ i : Nat, x = .int .i64 i ∧ i ≤ ws.getD v 0 ∧ ∃ (row : List (Nat × List Nat)) (S : Value) (kk lf : Nat), sl_ = .int .i64 lf ∧ sk = .int .i64 kk ∧ kk ≤ n3 ∧ Hid (MInv ls ws k q row v i lf) ∧ BufS wx gB k row S ∧ (∀ j, S.ownBlock = some j → G ≤ j) ∧ Blk wx g14 33 Z ∧ Below gB w6 wx ∧ G ≤ wx.heap.size) (fun _ _ x _ => 7 - (intOf x).toNat)
                case atStart => exact ⟨0, rfl, Nat.zero_le _, row, S, kk, lf, rfl, rfl, hkk, HI.out, hB, hS, q14, bl, hGr⟩
                case round =>
                  clear hB q14 bl hGr HI hS hkk
                  obtain ⟨i, rfl, hiw, row, S, kk, lf, rfl, rfl, hkk, HI, hB, hS, q14, bl, hGr⟩ := hrel
                  have kw : wr.cell? ⟨g14, v, none⟩ = some (.int .i64 ((ws.getD v 0 : Nat) : Int)) := by
                    refine (q14.cell v).trans ?_
                    rw [HZE.out]
                    exact W4nw_get ws v (by rw [HL4.out]; exact hlt)
                  have hw7 := HW7.out v hlt
                  have iw := fun W => run_idx (P := Tryd.prog) (sz := 1) Tryd.underlying33 (by kernel_rfl) g14 0 v hlt .i64 W
                  simp only [Nat.zero_add, Nat.one_mul] at iw
                  have hrl := HI.out.len
                  have hlf : lf ≤ 100 := by have := HI.out.apr; omega
                  by_cases hltw : i < ws.getD v 0
                  · obtain ⟨gv, hVv, pv, hgv⟩ := HP6.out v hlt
                    have pvr : Blk wr gv 5 (B8 (Cv.pick (Cv.code ls) v)) := pv.below bl hgv
                    have k10 : wr.cell? ⟨g10, v, none⟩ = some (.slice (some ⟨gv, 0, none⟩) T T) := ((q10.below bl hg10l).cell v).trans hVv
                    have i10 := fun W => run_idx (P := Tryd.prog) (sz := 1) Tryd.underlying59 (by kernel_rfl) g10 0 v hlt .i64 W
                    simp only [Nat.zero_add, Nat.one_mul] at i10
                    have HPL : Hid ((Cv.pick (Cv.code ls) v).length = T) := by unfold Hid; rw [Cv.pick_length, HCL.out, HTT.out]; omega
                    have HPB := Lib.hid (Cv.pick_bit _ (Cv.code_bit ls HL.out) v)
                    have rv := pvr.rd8 HPL.out
                    have hgvl := pvr.lt
                    have HIW : Hid (i + 1 ≤ ws.getD v 0) := hltw
                    have hSv : S.ownBlock ≠ some gv := fun e => by have := hS gv e; omega
                    generalize ws.getD v 0 = wv at *
                    clear hVv pv pvr
                    by_cases hturn : kk < n3 ∧ 0 < lf
                    · obtain ⟨ht1, ht2⟩ := hturn
                      obtain ⟨b, off, hA3, hb, _⟩ := ((((hZ.below belL).below (be26.mono belL.size)).below (bl.mono hwB))).cell64 kk ht1
                      have rZ := (((hZ.below belL).below (be26.mono belL.size)).below (bl.mono hwB)).up (by omega : w.heap.size ≤ wr.heap.size)
                      subst hA3
                      have rZ2 := rZ.from64x kk (by omega) (by omega)
                      have CPl := Lib.hid (places1C (some ⟨b, off + kk, none⟩) (n3 - kk) (c3 - kk) T (zs.drop kk) wr rZ2 (by omega) (by omega) (by omega))
                      have CTu := Lib.hid (fun (A4 : Option Addr) (m4 c4 : Nat) (ps : List Nat) (W : World) (hW : Below wr.heap.size wr W) (h : Rd W W.heap.size A4 m4 (I64 (ints1 ps))) (hm : m4 ≤ 1) => turnC (some ⟨gv, 0, none⟩) A4 T T m4 c4 (Cv.pick (Cv.code ls) v) (ints1 ps) W ((rv.below hW).up hW.size) (fun e => by cases e) h (bit256 HPB.out) (by omega) (by omega))
                      have HAT := Lib.hid (fun ps h1 h2 => ap_turn (Cv.pick (Cv.code ls) v) ps h1 h2)
                      have d1 : decide ((kk : Int) < (n3 : Int)) = true := by simp; omega
                      have d2 : decide ((0 : Int) < (lf : Int)) = true := by simp; omega
                      have f0 : (0 : Int) ≤ (kk : Int) := by omega
                      have f1 : (kk : Int) ≤ (n3 : Int) := by omega
                      have f2 : (kk : Int) ≤ (c3 : Int) := by omega
                      have f3 : (kk : Int) < (c3 : Int) := by omega
                      have f4 : (n3 : Int) ≤ (c3 : Int) := by omega
                      obtain ⟨lf1, hlf1⟩ : ∃ l, lf = l + 1 := ⟨lf - 1, by omega⟩
                      have el : (lf : Int) - 1 = (lf1 : Int) := by omega
                      have HLF := Lib.hid hlf1
                      clear hlf1 rZ
                      go_upto_region 28 with fail
                      go_wp2_with fail
                      refine CPl.out.mono ?_
                      rintro e w11 ⟨A4, m4, c4, ps, rfl, own4, HPS, b11⟩
                      have hm4 : m4 ≤ 1 := by
                        have h := own4.rd.len64
                        have := HPS.out.1
                        rw [h]; unfold ints1; rw [List.length_map]; exact this
                      have CT2 := Lib.hid (CTu.out A4 m4 c4 ps w11 b11 own4.rd hm4)
                      have HPN : Hid ((Bm.trn (Cv.pick (Cv.code ls) v) (ints1 ps)).length = T) := by unfold Hid; rw [Bm.trn_length, HPL.out]
                      have HPB2 : Hid (∀ x ∈ Bm.trn (Cv.pick (Cv.code ls) v) (ints1 ps), x ≤ 1) := fun x hx => by
                        have := Bm.trn_lt 1 (by omega) (Cv.pick (Cv.code ls) v) (ints1 ps) (fun y hy => by have := HPB.out y hy; omega) x hx
                        omega
                      have HA2 := Lib.hid (HAT.out ps HPS.out.1 (by rw [HPL.out]; exact HPS.out.2))
                      have HADD : Hid (MInv ls ws k q (row ++ [(v, Bm.trn (Cv.pick (Cv.code ls) v) (ints1 ps))]) v (i + 1) lf1) := HI.out.add _ hlt (by rw [HPN.out, HTT.out]) HPB2.out (by have := HA2.out; have := HLF.out; omega)
                      generalize Bm.trn (Cv.pick (Cv.code ls) v) (ints1 ps) = p at *
                      clear own4 CPl CTu HAT
                      go_wp2_with fail
                      refine CT2.out.mono ?_
                      rintro e w12 ⟨A5, n5, c5, rfl, own5, b12⟩
                      have hn5 : n5 = T := by rw [own5.rd.len8, HPN.out]
                      subst hn5
                      obtain ⟨g5, rfl, hg5, hg5l⟩ := own5.at0 (by omega)
                      have b1112 := Below.then_ b11 b12
                      have hs11 := b11.size
                      have hs12 := b1112.size
                      have hB12 := hB.after b1112
                      have hltB := hB.blk.lt
                      have hS5 : S.ownBlock ≠ some g5 := fun e => by have := hB.lt g5 e; omega
                      have CA := Lib.hid (addC gB k v n5 c5 g5 0 row p S w12 hB12 (by omega) (by omega) hlt HTT.out own5.rd HPB2.out (by omega) hg5l hS5)
                      have q1412 := q14.after b1112
                      clear own5 CT2
                      go_wp2_with fail
                      refine CA.out.mono ?_
                      rintro e w13 ⟨rfl, S', hB13, hK, hO⟩
                      have q1413 := hK.blk q1412 (by omega) (fun e => by have := hS g14 e; omega)
                      have bl13 := (bl.trans (b1112.mono (by omega))).trans (hK.below (Nat.le_refl _) (fun j hj => by have := hS j hj; omega) (by omega))
                      have hs13 := hK.size
                      have hS13 : ∀ j, S'.ownBlock = some j → G ≤ j := fun j hj => by
                        rcases hO with e | ⟨j2, e, hj2⟩
                        · exact hS j (by rw [← e]; exact hj)
                        · rw [e] at hj; injection hj with hj; omega
                      have hG13 : G ≤ w13.heap.size := by omega
                      clear hO CA
                      go_wp2
                      go_roundw
                      case rel => exact ⟨i + 1, by go_num, HIW.out, row ++ [(v, p)], S', kk + 1, lf1, by first | rfl | go_num, by first | rfl | go_num, by omega, HADD.out, hB13, hS13, q1413, bl13, hG13⟩
                      case measure => simp [intOf] <;> omega
                    · have CA := Lib.hid (addC gB k v T T gv 0 row (Cv.pick (Cv.code ls) v) S wr hB (by omega) (by omega) hlt HTT.out rv HPB.out (by omega) hgvl hSv)
                      have HADD : Hid (MInv ls ws k q (row ++ [(v, Cv.pick (Cv.code ls) v)]) v (i + 1) lf) := HI.out.add _ hlt (by rw [HPL.out, HTT.out]) HPB.out (by rw [ap_self]; omega)
                      have b1112 : Below wr.heap.size wr wr := Below.refl _ _
                      have hs12 : wr.heap.size ≤ wr.heap.size := Nat.le_refl _
                      have q1412 := q14
                      have hB12 := hB
                      have hltB := hB.blk.lt
                      generalize Cv.pick (Cv.code ls) v = p at *
                      by_cases hk3 : kk < n3
                      · have d1 : decide ((kk : Int) < (n3 : Int)) = true := by simp; omega
                        have d2 : decide ((0 : Int) < (lf : Int)) = false := by simp; omega
                        have hl0 : ¬ 0 < lf := fun h => hturn ⟨hk3, h⟩
                        clear hturn
                        go_wp2_with fail
                        refine CA.out.mono ?_
                        rintro e w13 ⟨rfl, S', hB13, hK, hO⟩
                        have q1413 := hK.blk q1412 (by omega) (fun e => by have := hS g14 e; omega)
                        have bl13 := (bl.trans (b1112.mono (by omega))).trans (hK.below (Nat.le_refl _) (fun j hj => by have := hS j hj; omega) (by omega))
                        have hs13 := hK.size
                        have hS13 : ∀ j, S'.ownBlock = some j → G ≤ j := fun j hj => by
                          rcases hO with e | ⟨j2, e, hj2⟩
                          · exact hS j (by rw [← e]; exact hj)
                          · rw [e] at hj; injection hj with hj; omega
                        have hG13 : G ≤ w13.heap.size := by omega
                        clear hO CA
                        go_wp2
                        go_roundw
                        case rel => exact ⟨i + 1, by go_num, HIW.out, row ++ [(v, p)], S', kk, lf, by first | rfl | go_num, by first | rfl | go_num, by omega, HADD.out, hB13, hS13, q1413, bl13, hG13⟩
                        case measure => simp [intOf] <;> omega
                      · have d1 : decide ((kk : Int) < (n3 : Int)) = false := by simp; omega
                        clear hturn
                        go_wp2_with fail
                        refine CA.out.mono ?_
                        rintro e w13 ⟨rfl, S', hB13, hK, hO⟩
                        have q1413 := hK.blk q1412 (by omega) (fun e => by have := hS g14 e; omega)
                        have bl13 := (bl.trans (b1112.mono (by omega))).trans (hK.below (Nat.le_refl _) (fun j hj => by have := hS j hj; omega) (by omega))
                        have hs13 := hK.size
                        have hS13 : ∀ j, S'.ownBlock = some j → G ≤ j := fun j hj => by
                          rcases hO with e | ⟨j2, e, hj2⟩
                          · exact hS j (by rw [← e]; exact hj)
                          · rw [e] at hj; injection hj with hj; omega
                        have hG13 : G ≤ w13.heap.size := by omega
                        clear hO CA
                        go_wp2
                        go_roundw
                        case rel => exact ⟨i + 1, by go_num, HIW.out, row ++ [(v, p)], S', kk, lf, by first | rfl | go_num, by first | rfl | go_num, by omega, HADD.out, hB13, hS13, q1413, bl13, hG13⟩
                        case measure => simp [intOf] <;> omega
                  · have HIE : Hid (i = ws.getD v 0) := by unfold Hid; omega
                    have HI2 := Lib.hid (HI.out.next HIE.out (by omega))
                    generalize ws.getD v 0 = wv at *
                    go_wp2
                    go_roundw
                    case rel => exact ⟨v + 1, by omega, by go_num, row, S, kk, lf, rfl, rfl, hkk, HI2.out, hB, hS, q14, bl, hGr⟩
                    case measure => simp [intOf] <;> omega
              · have dv : decide ((v : Int) < 4) = false := by simp <;> omega
                have HV4 : Hid (v = 4) := by unfold Hid; omega
                have hTr : Taps wr := hT6t.low bl (by omega)
                have CL := Lib.hid (leastYes ws wr HL4.out HM7.out hTr)
                have hrl := HI.out.len
                have CDe := Lib.hid (fun (W : World) (h : Below wr.heap.size wr W) => bdecode gB k row S W (hB.after h) (by omega) (by omega) (hTr.after h))
                have HU : Hid (∀ m, Cv.Lst (wof ws) m → m = nn) := fun m hm => hm.uniq HNN.out
                have HRB : Hid (nn ≠ 0 → Cv.rb (Cv.softs (k + 6) row) k 0 0 = ls) := fun h0 => by
                  have hv := HI.out.vers
                  have ha := HI.out.apr
                  rw [HN.out] at hv ⊢
                  refine (Cv.rb_best _ _).uniq (Cv.row_mends ls HL.out row hv nn (HNN.out.congr fun u hu => ?_) ?_)
                  · have := HI.out.cnt u hu
                    rw [HV4.out, if_pos hu] at this
                    rw [this]; rfl
                  · have := HQ.out
                    omega
                have hbl2 : Below w2.heap.size w2 wr := by
                  have := be26.trans ((by rw [← HGB.out]; exact bl : Below w6.heap.size w6 wr).mono be26.size)
                  exact this
                have HCV := Lib.hid (fun (W : World) (h : Below wr.heap.size wr W) => ownL.conv W (Below.then_ hbl2 h))
                have HBW := Lib.hid (Below.then_ belL hbl2)
                have hnb := @Lst_bound7 ws HM7.out nn HNN.out
                rw [← HZE.out] at CL
                clear hB hS bl HI
                go_wp2_with (refine at_load rfl 33 _ rfl g14 rfl 33 Z _ q14 Tryd.underlying33 rfl iZ.out ?_)
                refine CL.out.mono ?_
                rintro e w11 ⟨m, rfl, hm, b11⟩
                obtain rfl := (HU.out m hm).symm
                clear hm
                by_cases h0 : nn = 0
                · have t0 : ((nn : Int) == 0) = true := by rw [h0]; rfl
                  clear h0 HRB
                  go_wp2
                  go_ret
                  exact ⟨rfl, Below.then_ HBW.out b11⟩
                · have t0 : ((nn : Int) == 0) = false := by simp; omega
                  have CD2 := Lib.hid (CDe.out w11 b11)
                  rw [HRB.out h0] at CD2
                  clear CDe h0 HRB
                  go_wp2_with fail
                  refine CD2.out.mono ?_
                  rintro e w12 ⟨A12, n12, c12, rfl, own12, b12⟩
                  have hq1 := own12.conv w12 (Below.refl _ _)
                  have hq2 := HCV.out w12 (Below.then_ b11 b12)
                  generalize str ls = s0 at *
                  have ts : (s0.toList == s0.toList) = true := by simp
                  clear own12
                  go_wp2
                  go_ret
                  exact ⟨rfl, Below.then_ (Below.then_ HBW.out b11) b12⟩
end Go.Proofs.YtibddlldgmidlabDoor
