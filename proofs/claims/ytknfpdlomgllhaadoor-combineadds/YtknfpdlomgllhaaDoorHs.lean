/-
  The walk of CombineAdds.
-/
import Derived.Test.YtknfpdlomgllhaaDoorHr
import Derived.Test.YtknfpdlomgllhaaDoorVt
import Derived.Test.YtknfpdlomgllhaaDoorRr
import Derived.Deep.RegionHeld3
import Derived.Deep.DeepCutAuto
namespace Go.Proofs.YtknfpdlomgllhaaDoor
open Go.RowKit
set_option maxRecDepth 100000
set_option linter.unusedVariables false
set_option linter.unusedSimpArgs false

set_option maxHeartbeats 16000000 in
set_option maxRecDepth 100000 in
/-- CombineAdds. -/
theorem walkCombineAdds (nI : Int) (hnI : -9223372036854775808 ≤ nI ∧ nI ≤ 9223372036854775807) (A : Option Addr) (n0 c0 : Nat) (xs : List Nat) (A1 : Option Addr) (n1 c1 : Nat) (es : Nat → CE) (w : World) (h1 : Rd w w.heap.size A n0 (U8 xs)) (b1 : ∀ b ∈ xs, b < 256) (hn2 : n0 ≤ 9223372036854775807) (hR : CRow w w.heap.size A1 n1 es) (hn1 : n1 ≤ 9223372036854775807) (hT : Taps w) :
    Calls Tryd.prog 4 #[.int .i64 nI, .slice A n0 c0, .slice A1 n1 c1] w fun e w' => e = .returned (.bool true) ∧ Below w.heap.size w w' := by
  have CN0 := Lib.hid none13C
  have CRn := Lib.hid resetNil
  have CDn := Lib.hid decodeNil
  have CAn := Lib.hid (fun W => addNil 0 none 0 0 W)
  have CSn := Lib.hid softNil
  have CCn := Lib.hid countsNil
  have CBn := Lib.hid bitsNil
  have CCo := Lib.hid (combinesC w hT)
  have HZ := Lib.hid neqZ
  have hpos := hT.pos
  have CF := Lib.hid (fun (n : Nat) (hn : n ≤ 60) (W : World) (hW : Below w.heap.size w W) => fewC A n0 c0 n xs W ((h1.below hW).up hW.size) b1 (by omega) hn2)
  clear h1
  go_enter Tryd.func4, Tryd.ntmps4
  go_upto_region 5 with (first | (go_at_call 14; refine (CN0.out _).mono ?_; rintro e w' ⟨rfl, rfl⟩) | (go_at_call 15; refine (CRn.out _).mono ?_; rintro e w' ⟨rfl, rfl⟩) | (go_at_call 16; refine (CDn.out _).mono ?_; rintro e w' ⟨rfl, rfl⟩) | (go_at_call 17; refine CCo.out.mono ?_; rintro e w1 ⟨rfl, bw1⟩) | (go_at_call 18; refine (CAn.out _).mono ?_; rintro e w' ⟨rfl, rfl⟩) | (go_at_call 19; refine (CSn.out _).mono ?_; rintro e w' ⟨rfl, rfl⟩) | (go_at_call 20; refine (CCn.out _).mono ?_; rintro e w2 ⟨rfl, bw2⟩) | (go_at_call 21; refine (CBn.out _).mono ?_; rintro e w' ⟨rfl, rfl⟩) | (refine at_eqA rfl .neq 22 _ _ _ rfl (W4 (nw [0, 0, 0, 0])) (W4 (nw [0, 0, 0, 0])) rfl rfl guard4 (.bool false) HZ.out ?_))
  have bel2 : Below w.heap.size w w2 := Below.then_ bw1 bw2
  clear CN0 CRn CDn CAn CSn CCn CBn CCo HZ bw1 bw2
  by_cases hbad : nI < 0 ∨ 4096 < nI
  · have CNo := Lib.hid (fun W => newNo nI W hbad)
    by_cases hneg : nI < 0
    · have d1 : decide ((60 : Int) < nI) = false := by simp; omega
      have d2 : decide (nI < 0) = true := by simp; omega
      clear hbad
      go_wp2_with (go_at_call 22; refine (CNo.out _).mono ?_; rintro e w' ⟨rfl, rfl⟩)
      go_ret
      exact ⟨rfl, bel2⟩
    · have d1 : decide ((60 : Int) < nI) = true := by simp; omega
      have d2 : decide (nI < 0) = false := by simp; omega
      have d3 : decide (nI ≤ 4096) = false := by simp; omega
      have d4 : decide ((4096 : Int) < nI) = true := by simp; omega
      clear hbad
      go_wp2_with (go_at_call 22; refine (CNo.out _).mono ?_; rintro e w' ⟨rfl, rfl⟩)
      go_ret
      exact ⟨rfl, bel2⟩
  · obtain ⟨mm, hmm⟩ : ∃ mm : Nat, nI = (mm : Int) := ⟨nI.toNat, by omega⟩
    subst hmm
    have hmm2 : mm ≤ 4096 := by omega
    clear hbad hnI
    go_cut [62] from 57 (fun x wc => x = .bool (decide ((60 : Int) < (mm : Int))) ∧ wc = w2)
    case first =>
      by_cases h60 : 60 < mm
      · have d1 : decide ((60 : Int) < (mm : Int)) = true := by simp; omega
        have d3 : decide ((mm : Int) ≤ 4096) = true := by simp; omega
        go_wp2_with fail
        go_meet
        case rel => exact ⟨by rw [d1], rfl⟩
      · have d1 : decide ((60 : Int) < (mm : Int)) = false := by simp; omega
        go_wp2_with fail
        go_meet
        case rel => exact ⟨by rw [d1], rfl⟩
    case rest =>
    obtain ⟨rfl, hwc⟩ := hcut
    subst hwc
    go_upto_if 62 with fail
    go_cut [0] from 57 (fun x wd => ∃ n : Nat, n ≤ 60 ∧ x = .int .i64 (n : Int) ∧ wd = wc)
    case first =>
      by_cases h60 : 60 < mm
      · have d1 : decide ((60 : Int) < (mm : Int)) = true := by simp; omega
        obtain ⟨q, hq⟩ : ∃ q, q = mm % 60 := ⟨_, rfl⟩
        have hq60 : q ≤ 60 := by omega
        have e3 : (mm : Int) % 60 = (q : Int) := by omega
        have e2 : (mm : Int).tmod 60 = (q : Int) := by rw [Int.tmod_eq_emod_of_nonneg (by omega)]; exact e3
        clear hq
        go_wp2_with fail
        go_meet
        case rel => exact ⟨q, hq60, rfl, rfl⟩
      · have d1 : decide ((60 : Int) < (mm : Int)) = false := by simp; omega
        go_wp2_with fail
        go_meet
        case rel => exact ⟨mm, by omega, rfl, rfl⟩
    case rest =>
    rename_i wd
    obtain ⟨n, hn60, rfl, hwc⟩ := hcut
    subst hwc
    clear hmm2
    have CN := Lib.hid (fun W => newC n W (by omega))
    have CQ := Lib.hid (fun W => rNew13 n W (by omega))
    have d1 : decide ((n : Int) < 0) = false := by simp
    have d2 : decide ((4096 : Int) < (n : Int)) = false := by simp; omega
    go_upto_region 10 with (go_at_call 22; refine (CN.out wc).mono ?_; rintro e w3 ⟨rfl, hB, b3, s3⟩)
    have bel3 := Below.then_ bel2 b3
    have hw3 := bel3.size
    obtain ⟨gB, hgB⟩ : ∃ g, g = wc.heap.size := ⟨_, rfl⟩
    have hgw : w.heap.size ≤ gB := by rw [hgB]; exact bel2.size
    have hg3 : gB < w3.heap.size := by omega
    rw [← hgB] at hB
    rw [← hgB]
    clear d1 d2 CN s3 hgB
    have hfl : (Bm.few xs n).length ≤ n := by rw [Bm.few_length]; exact Nat.min_le_left _ _
    have hbit := Bm.few_bit xs n
    have CF1 := Lib.hid (CF.out n hn60)
    generalize Bm.few xs n = fs at *
    go_wp2_with fail
    refine (CF1.out w3 bel3).mono ?_
    rintro e w4 ⟨A4, k4, c4, rfl, own4, b4⟩
    have HK4 := Lib.hid own4.rd.len8
    go_wp2_with fail
    refine (CF1.out w4 (Below.then_ bel3 b4)).mono ?_
    rintro e w5 ⟨A5, k5, c5, rfl, own5, b5⟩
    have hk5 : k5 = fs.length := own5.rd.len8
    obtain rfl : k5 = k4 := by rw [HK4.out]; exact hk5
    clear hk5
    have hkn : k5 ≤ n := by rw [HK4.out]; exact hfl
    clear hfl
    have own45 := own4.below b5 (Nat.le_refl _)
    have hs3 : w3.heap.size ≤ w5.heap.size := (Below.then_ b4 b5).size
    clear own5 own4
    go_upto_region 11 with (at_builtin; refine appZ _ rfl _ _ rfl w3.heap.size A4 k5 c4 (n - k5) fs rfl own45 (by first | rfl | (rw [show ((n - k5 : Nat) : Int) = (n : Int) - (k5 : Int) by omega]; first | rfl | (unfold Act.eval; dsimp only; simp only [List.getD_toArray, List.getD_cons_succ, List.getD_cons_zero, Array.getD_eq_getD_getElem?, List.getElem?_toArray, List.getElem?_cons_succ, List.getElem?_cons_zero, Option.getD_some]; trace_state; simp))) (by omega) (by omega) hs3 ?_; intro A6 c6 w6 own6 gr6)
    have bel6 : Below w3.heap.size w3 w6 := (Below.then_ b4 b5).grown gr6 hs3 (fun j hj => (own45.block j hj).1)
    have hn6 : k5 + (n - k5) = n := by omega
    rw [hn6] at own6
    try rw [hn6]
    obtain ⟨ls, hls⟩ : ∃ ls, ls = fs ++ List.replicate (n - k5) 0 := ⟨_, rfl⟩
    rw [← hls] at own6
    have HL : Hid (∀ x ∈ ls, x ≤ 1) := fun x hx => by
      rw [hls] at hx
      rcases List.mem_append.1 hx with h | h
      · exact hbit x h
      · rw [(List.mem_replicate.1 h).2]; omega
    clear hbit own45 gr6 hs3 hn6 hls b4 b5 CF CF1 hkn
    go_upto_region 12 with (go_at_call 23; refine (CQ.out w6).mono ?_; rintro e w7 ⟨gR0, gs0, rfl, hR7, b7, hgR0, hgs0⟩)
    have T0 : Trio w7 w gB gR0 gs0 n A6 ls [] [] (.slice none 0 0) := ⟨hB.after (Below.then_ bel6 b7), hR7, (own6.rd.below b7).up b7.size, hgw, by have := bel6.size; omega, by have := bel6.size; omega, (fun j hj => by cases hj), by have := bel6.size; omega, by have := bel6.size; omega, (fun j hj => by cases hj), (fun j hj => by have := own6.blkLt j hj; have := b7.size; exact ⟨by omega, by omega, by omega, by omega, fun h => by cases h⟩), Below.then_ (Below.then_ bel3 bel6) b7, (Below.then_ (Below.then_ bel3 bel6) b7).size⟩
    clear hB bel6 b7 hR7 own6 hgR0 hgs0 bel3 hw3 hg3 hgw b3 bel2
    go_wp2
    go_loopw [12, 13] (fun s x wr => ∃ i : Nat, i ≤ n1 ∧ i ≤ 12 ∧ x = .int .i64 i ∧ ∃ (gR gs : Nat) (row : List (Nat × List Nat)) (SB : Value), s = .pointer (some ⟨gR, 0, none⟩) ∧ row.length ≤ i ∧ Trio wr w gB gR gs n A6 ls row row SB) (fun _ x _ => 12 - (intOf x).toNat)
    case atStart => exact ⟨0, by omega, by omega, rfl, gR0, gs0, [], _, rfl, by simp, T0⟩
    case round =>
      clear T0
      obtain ⟨i, hi1, hi2, rfl, gR, gs, row, SB, rfl, hrl, T⟩ := hrel
      by_cases hlt : i < n1 ∧ i < 12
      · obtain ⟨hlt1, hlt2⟩ := hlt
        have hRr := hR.below T.bw
        have hsz := T.sz
        obtain ⟨b, off, hA1, hb, hcell⟩ := hRr.at_ (by omega)
        subst hA1
        have hok := hRr.ok i hlt1
        have ic := idxCameO b off n1 c1 i hlt1
        have HRA : Hid (wr.rangeAt b (off + 4 * i) (es i).cells.toList) := fun j u hu => hcell i hlt1 j u (by rw [← Array.getElem?_toList]; exact hu)
        have iE : Hid ((Tryd.prog.info? 48).map (·.size) = some (es i).cells.size) := infoCame
        have HEs : Hid ((#[Value.bool false, .int .i64 0, .slice none 0 0, .slice none 0 0] : Array Value).size = (es i).cells.size) := rfl
        have HEo := Lib.hid (es i).one
        have HE0 : Hid ((es i).cells[0]? = some (.bool (es i).r)) := rfl
        have HE1 : Hid ((es i).cells[1]? = some (.int .i64 (es i).v)) := rfl
        have HE2 : Hid ((es i).cells[2]? = some (.slice (es i).aA (es i).aL (es i).aC)) := rfl
        have HE3 : Hid ((es i).cells[3]? = some (.slice (es i).rA (es i).rL (es i).rC)) := rfl
        obtain ⟨kR, hkR, hkR2, hkR3⟩ := min_if (es i).rL 80
        obtain ⟨hm5, hm6⟩ := hkR3 80 rfl
        have hrc1 : kR ≤ (es i).rC := Nat.le_trans hkR2 hok.rc
        have hrc2 := hok.rc2
        have hab := hok.ab
        have HPR := Lib.hid (hok.raw.cut8 kR hkR2)
        have HR256 := Lib.hid (take256 hok.r256 kR)
        have hnoR : (es i).rA = none → kR = 0 ∧ (es i).rC = 0 := fun h => by have := hok.rnone h; omega
        have CP := Lib.hid (fun (v : Nat) (hv : v < 4) (W : World) (h : Below wr.heap.size wr W) (hr : Rd W W.heap.size A6 n (U8 ls)) => partC (es i) A6 n c6 v ls W ⟨(hok.at_.below (h.mono hsz)).up (by have := h.size; omega), hok.ab, (hok.raw.below (h.mono hsz)).up (by have := h.size; omega), hok.r256, hok.rc, hok.rc2, hok.rnone⟩ hr HL.out (by omega) hv)
        have HPL : Hid (∀ v, (ptU ls v (es i)).length = n + 6) := fun v => by rw [ptU_length, ← T.l.len8]
        have HPB : Hid (∀ v, ∀ x ∈ ptU ls v (es i), x ≤ 1) := fun v => ptU_bit ls HL.out v (es i)
        have d1 : decide ((i : Int) < (n1 : Int)) = true := by simp; omega
        have d2 : decide ((i : Int) < 12) = true := by simp; omega
        clear hcell hok hkR3
        generalize (es i).bs.take kR = rw0 at *
        generalize (es i).cells = E at *
        generalize (es i).r = er at *
        generalize (es i).v = z at *
        generalize (es i).aA = aA at *
        generalize (es i).aL = aL at *
        generalize (es i).aC = aC at *
        generalize (es i).rA = rA at *
        generalize (es i).rL = rL at *
        generalize (es i).rC = rC at *
        generalize (fun v => ptU ls v (es i)) = pt at *
        obtain ⟨TT, hTT⟩ : ∃ TT, TT = n + 6 := ⟨_, rfl⟩
        have eT : (n : Int) + 6 = (TT : Int) := by omega
        have HTT := Lib.hid hTT
        have hT6 : 6 ≤ TT := by omega
        have hT7 : TT ≤ 66 := by omega
        clear hTT
        go_upto_region 16 with (first | (refine at_load_mid rfl 48 _ rfl b (off + 4 * i) rfl E _ HRA.out Tryd.underlying48 rfl iE.out ?_) | (refine at_alloc rfl 48 rfl _ zeroCame ?_; intro wq1 Lq) | (refine at_store rfl 48 _ _ rfl wr.heap.size E rfl rfl 48 _ Lq.row iE.out HEs.out HEo.out ?_; intro wq2 Uq))
        have beq : Below wr.heap.size wr wq2 := Lq.bel.trans (Uq.below (Nat.le_refl _))
        have qE := Uq.row
        have TQ := T.after beq
        have kE0 := (qE.cell 0).trans HE0.out
        have kE1 := (qE.cell 1).trans HE1.out
        have kE2 := (qE.cell 2).trans HE2.out
        have kE3 := (qE.cell 3).trans HE3.out
        have hbr : ∀ j, blk rA = some j → 0 < kR → j < w.heap.size := fun j hj h0 => by
          obtain ⟨b', o', e, h', _⟩ := HPR.out.at_ h0
          have e2 : b' = j := by rw [e] at hj; exact Option.some.inj hj
          omega
        have rR := (HPR.out.below (beq.mono hsz)).up (Nat.le_trans hsz beq.size)
        have CPQ := Lib.hid (fun v hv => CP.out v hv wq2 beq TQ.l)
        clear Lq Uq HRA ic T CP beq HPR HE0 HE1 HE2 HE3 hRr
        generalize wr.heap.size = gc at *
        go_upto_region 18 with fail
        cases er with
        | true =>
          have CR := Lib.hid (resetC' gB n row SB wq2 TQ.b)
          go_wp2_with fail
          refine CR.out.mono ?_
          rintro e w9 ⟨rfl, hB9, hK9⟩
          have T9 := TQ.reset hB9 hK9
          clear CR hB9 hK9 TQ
          go_wp2_with (go_at_call 23; refine (CQ.out w9).mono ?_; rintro e w10 ⟨gR', gs', rfl, hR10, b10, hgR', hgs'⟩)
          have T10 := T9.anew b10 hR10 hgR' hgs'
          go_roundw
          case rel => exact ⟨i + 1, by omega, by omega, by go_num, gR', gs', [], _, rfl, by simp, T10⟩
          case measure => simp [intOf] <;> omega
        | false =>
          by_cases hvb : z < 0 ∨ 3 < z
          · by_cases ha : 0 < aL
            · have da : decide ((0 : Int) < (aL : Int)) = true := by simp; omega
              by_cases hz : z < 0
              · have d3 : decide ((0 : Int) ≤ z) = false := by simp; omega
                have d4 : decide (z < 0) = true := by simp; omega
                have CA := Lib.hid (addArg gB n z rA kR rC row SB wq2 TQ.b (by omega) hvb)
                go_wp2_with (go_at_call 18; refine CA.out.mono ?_; rintro e w' ⟨rfl, rfl⟩)
                go_roundw
                case rel => exact ⟨i + 1, by omega, by omega, by go_num, gR, gs, row, SB, rfl, by omega, TQ⟩
                case measure => simp [intOf] <;> omega
              · have d3 : decide ((0 : Int) ≤ z) = true := by simp; omega
                have d5 : decide (z < 4) = false := by simp; omega
                have d4 : decide (z < 0) = false := by simp; omega
                have d6 : decide (3 < z) = true := by simp; omega
                have CA := Lib.hid (addArg gB n z rA kR rC row SB wq2 TQ.b (by omega) hvb)
                go_wp2_with (go_at_call 18; refine CA.out.mono ?_; rintro e w' ⟨rfl, rfl⟩)
                go_roundw
                case rel => exact ⟨i + 1, by omega, by omega, by go_num, gR, gs, row, SB, rfl, by omega, TQ⟩
                case measure => simp [intOf] <;> omega
            · have da : decide ((0 : Int) < (aL : Int)) = false := by simp; omega
              by_cases hz : z < 0
              · have d4 : decide (z < 0) = true := by simp; omega
                have CA := Lib.hid (addArg gB n z rA kR rC row SB wq2 TQ.b (by omega) hvb)
                go_wp2_with (go_at_call 18; refine CA.out.mono ?_; rintro e w' ⟨rfl, rfl⟩)
                go_roundw
                case rel => exact ⟨i + 1, by omega, by omega, by go_num, gR, gs, row, SB, rfl, by omega, TQ⟩
                case measure => simp [intOf] <;> omega
              · have d4 : decide (z < 0) = false := by simp; omega
                have d6 : decide (3 < z) = true := by simp; omega
                have CA := Lib.hid (addArg gB n z rA kR rC row SB wq2 TQ.b (by omega) hvb)
                go_wp2_with (go_at_call 18; refine CA.out.mono ?_; rintro e w' ⟨rfl, rfl⟩)
                go_roundw
                case rel => exact ⟨i + 1, by omega, by omega, by go_num, gR, gs, row, SB, rfl, by omega, TQ⟩
                case measure => simp [intOf] <;> omega
          · obtain ⟨v, hvv⟩ : ∃ v : Nat, z = (v : Int) := ⟨z.toNat, by omega⟩
            subst hvv
            have hv : v < 4 := by omega
            clear hvb
            by_cases ha : 0 < aL
            · have da : decide ((0 : Int) < (aL : Int)) = true := by simp; omega
              have d3 : decide ((0 : Int) ≤ (v : Int)) = true := by simp
              have d5 : decide ((v : Int) < 4) = true := by simp; omega
              have CP1 := Lib.hid (CPQ.out v hv)
              have HPT9 : Hid ((ptU ls v (es i)).length = TT) := by unfold Hid; rw [HPL.out v, HTT.out]
              have HPB9 := Lib.hid (HPB.out v)
              generalize ptU ls v (es i) = p at *
              clear CPQ HPL HPB
              go_upto_region 23 with (first | (refine at_load rfl 48 _ rfl gc rfl 48 E _ qE Tryd.underlying48 rfl iE.out ?_) | (go_at_call 24; refine CP1.out.mono ?_; rintro e w9 ⟨A9, n9, c9, rfl, own9, bb9⟩))
              have hn9 : TT = n9 := by rw [own9.rd.len8, HPT9.out]
              subst hn9
              obtain ⟨b9, rfl, hg9, hbl⟩ := own9.at0 (by omega)
              have T9 := TQ.after bb9
              have rd9 := own9.rd
              have l4 := TQ.lt
              have hbB : b9 ≠ gB := by omega
              have hbR : b9 ≠ gR := by omega
              have hbs : b9 ≠ gs := by omega
              have hbS : SB.ownBlock ≠ some b9 := fun e => by have := l4.2.2.2 b9 e; omega
              clear CP1 own9 bb9 l4 TQ qE kE0 kE1 kE2 kE3
              have CA := Lib.hid (addC gB n v TT c9 b9 0 row p SB w9 T9.b (by omega) (by omega) hv HTT.out rd9 HPB9.out hbB hbl hbS)
              go_wp2_with fail
              refine CA.out.mono ?_
              rintro e w10 ⟨rfl, S', hB10, hK, hO⟩
              have T10 := T9.add hB10 hK (.inr hO)
              have rd10 := rd9.kp hK hbB hbS hbl
              have CRt := Lib.hid (refRight (some ⟨b9, 0, none⟩) TT c9 p w10 rd10 (bit256 HPB9.out) (by omega))
              rw [Bm.isB_of HPB9.out] at CRt
              have CDo := Lib.hid (docAdd gR n v TT c9 gs b9 0 row p w10 T10.r (by omega) (by omega) hv HTT.out rd10 HPB9.out hbR hbs (Nat.lt_of_lt_of_le hbl hK.size))
              have tT : ((TT : Int) != (TT : Int)) = false := by simp
              have v1 : decide ((v : Int) < 0) = false := by simp
              have v2 : decide ((3 : Int) < (v : Int)) = false := by simp; omega
              clear CA hB10 hK hO T9 rd9 rd10
              go_wp2_with (first | (go_at_call 25; refine CRt.out.mono ?_; rintro e w' ⟨rfl, rfl⟩) | (go_at_call 26; refine CDo.out.mono ?_; rintro e w11 ⟨rfl, hR11, hK11⟩; have T11 := T10.doc hR11 hK11))
              go_roundw
              case rel => exact ⟨i + 1, by omega, by omega, by go_num, gR, gs, row ++ [(v, p)], S', rfl, by simp; omega, T11⟩
              case measure => simp [intOf] <;> omega
            · have da : decide ((0 : Int) < (aL : Int)) = false := by simp; omega
              clear CPQ HPL HPB
              have v1 : decide ((v : Int) < 0) = false := by simp
              have v2 : decide ((3 : Int) < (v : Int)) = false := by simp; omega
              by_cases hib : Bm.isB rw0 = true
              · by_cases hkT : kR = TT
                · have h0 : 0 < kR := by omega
                  obtain ⟨b9, o9, hA9, hb9, _⟩ := rR.at_ h0
                  have hb9w : b9 < w.heap.size := hbr b9 (by rw [hA9]; rfl) h0
                  subst hA9
                  have HPB9 : Hid (∀ x ∈ rw0, x ≤ 1) := fun x hx => by simpa using List.all_eq_true.1 hib x hx
                  have hbB : b9 ≠ gB := by have := TQ.bg; omega
                  have hbR : b9 ≠ gR := by have := TQ.br; omega
                  have hbs : b9 ≠ gs := by have := TQ.bs; omega
                  have hbl : b9 < wq2.heap.size := by have := TQ.sz; omega
                  have hbS : SB.ownBlock ≠ some b9 := fun e => by have := TQ.bS b9 e; omega
                  obtain rfl : TT = kR := hkT.symm
                  clear hib v1 v2 hbr hnoR
                  have CA := Lib.hid (addC gB n v TT rC b9 o9 row rw0 SB wq2 TQ.b (by omega) (by omega) hv HTT.out rR HPB9.out hbB hbl hbS)
                  go_wp2_with fail
                  refine CA.out.mono ?_
                  rintro e w10 ⟨rfl, S', hB10, hK, hO⟩
                  have T10 := TQ.add hB10 hK (.inr hO)
                  have rd10 := rR.kp hK hbB hbS hbl
                  have CRt := Lib.hid (refRight (some ⟨b9, o9, none⟩) TT rC rw0 w10 rd10 (bit256 HPB9.out) (by omega))
                  rw [Bm.isB_of HPB9.out] at CRt
                  have CDo := Lib.hid (docAdd gR n v TT rC gs b9 o9 row rw0 w10 T10.r (by omega) (by omega) hv HTT.out rd10 HPB9.out hbR hbs (Nat.lt_of_lt_of_le hbl hK.size))
                  have tT : ((TT : Int) != (TT : Int)) = false := by simp
                  have v1 : decide ((v : Int) < 0) = false := by simp
                  have v2 : decide ((3 : Int) < (v : Int)) = false := by simp; omega
                  clear CA hB10 hK hO TQ rR rd10
                  go_wp2_with (first | (go_at_call 25; refine CRt.out.mono ?_; rintro e w' ⟨rfl, rfl⟩) | (go_at_call 26; refine CDo.out.mono ?_; rintro e w11 ⟨rfl, hR11, hK11⟩; have T11 := T10.doc hR11 hK11))
                  go_roundw
                  case rel => exact ⟨i + 1, by omega, by omega, by go_num, gR, gs, row ++ [(v, rw0)], S', rfl, by simp; omega, T11⟩
                  case measure => simp [intOf] <;> omega
                · have CA := Lib.hid (addForm gB n v rA kR rC row SB rw0 wq2 TQ.b (by omega) hv rR (fun x hx => by simpa using List.all_eq_true.1 hib x hx) (by omega) (by rw [← HTT.out]; exact hkT))
                  have CRt := Lib.hid (fun (W : World) (h : Below wq2.heap.size wq2 W) => refRight rA kR rC rw0 W ((rR.below h).up h.size) HR256.out (by omega))
                  rw [hib] at CRt
                  have tT : ((kR : Int) != (TT : Int)) = true := by simp; omega
                  clear hib hkT
                  go_wp2_with (first | (go_at_call 18; refine CA.out.mono ?_; rintro e w9 ⟨rfl, b9⟩) | (go_at_call 25; refine (CRt.out w9 b9).mono ?_; rintro e w' ⟨rfl, rfl⟩))
                  go_roundw
                  case rel => exact ⟨i + 1, by omega, by omega, by go_num, gR, gs, row, SB, rfl, by omega, TQ.after b9⟩
                  case measure => simp [intOf] <;> omega
              · have hib2 : Bm.isB rw0 = false := by simpa using hib
                have CA := Lib.hid (addField gB n v rA kR rC row SB rw0 wq2 TQ.b (by omega) hv rR HR256.out (by omega) hib2)
                have CRt := Lib.hid (fun (W : World) (h : Below wq2.heap.size wq2 W) => refRight rA kR rC rw0 W ((rR.below h).up h.size) HR256.out (by omega))
                rw [hib2] at CRt
                clear hib hib2
                go_wp2_with (first | (go_at_call 18; refine CA.out.mono ?_; rintro e w9 ⟨rfl, b9⟩) | (go_at_call 25; refine (CRt.out w9 b9).mono ?_; rintro e w' ⟨rfl, rfl⟩))
                go_roundw
                case rel => exact ⟨i + 1, by omega, by omega, by go_num, gR, gs, row, SB, rfl, by omega, TQ.after b9⟩
                case measure => simp [intOf] <;> omega
      · by_cases hi12 : i < n1
        · have d1 : decide ((i : Int) < (n1 : Int)) = true := by simp; omega
          have d2 : decide ((i : Int) < 12) = false := by simp; omega
          clear hlt
          have hTr : Taps wr := hT.low T.bw (by omega)
          have CBd := Lib.hid (bdecode gB n row SB wr T.b (by omega) (by omega) hTr)
          obtain ⟨N, hN⟩ : ∃ N, N = 4 * (n + 6) := ⟨_, rfl⟩
          have hsl : (Cv.softs (n + 6) row).length = N := by rw [Cv.softs_length, hN]
          have hin : ∀ z ∈ Cv.softs (n + 6) row, -31 ≤ z ∧ z ≤ 31 := fun z hz => by have := Cv.softs_in (n + 6) row z hz; omega
          have hN2 : N ≤ 300 := by omega
          have HGS : Hid (∀ W, Below wr.heap.size wr W → Rd W W.heap.size (some ⟨gs, 0, none⟩) N (I64 (Cv.softs (n + 6) row))) := fun W hW => W4_rd (T.r.sums.after hW) hsl
          have CRd := Lib.hid (fun (W : World) (hW : Below wr.heap.size wr W) => refDecode gs 0 N n N _ W (HGS.out W hW) hin hN (by omega) (Nat.le_refl _) (by omega))
          have CSo := Lib.hid (fun (W : World) (hW : Below wr.heap.size wr W) => softC gB n N (Cv.cv row) (Cv.softs (n + 6) row) SB W (T.b.after hW).blk (T.b.after hW).sums (by omega) hN hsl)
          have CCt := Lib.hid (fun (W : World) (hW : Below wr.heap.size wr W) => countsC gB n row SB W (T.b.after hW).blk)
          have CBi := Lib.hid (fun (W : World) (hW : Below wr.heap.size wr W) => bitsB gB n (Cv.cv row) SB W (T.b.after hW).blk)
          have KR1 : Hid (∀ W, Below wr.heap.size wr W → W.cell? ⟨gR, 1, none⟩ = some (.slice (some ⟨gs, 0, none⟩) N N)) := fun W hW => by
            have := (T.r.blk.after hW).cell 1
            rw [← hN] at this
            exact this
          have HZR : Hid (∀ W, Below wr.heap.size wr W → W.rangeAt gR 2 (W4 (nw (cl row))).toList) := fun W hW => (T.r.blk.after hW).range 2 _ (W4_cl n row _)
          have HEQ := Lib.hid (eqCl row)
          have iZ : Hid ((Tryd.prog.info? 22).map (·.size) = some (W4 (nw (cl row))).size) := info4w
          have HSL := Lib.hid hsl
          have HFIN : Hid (∀ W, Below wr.heap.size wr W → Below w.heap.size w W) := fun W hW => T.bw.trans (hW.mono T.sz)
          clear hTr hsl hin T hN
          generalize Cv.rb (Cv.softs (n + 6) row) n 0 0 = dd at *
          generalize Cv.mb (Cv.softs (n + 6) row) n 0 0 = mv at *
          generalize Cv.softs (n + 6) row = SL at *
          generalize W4 (nw (cl row)) = ZZ at *
          go_upto_region 37 with (go_at_call 16; refine CBd.out.mono ?_; rintro e wa ⟨Aa, na, ca, rfl, owna, ba⟩)
          have ka := KR1.out wa ba
          go_upto_region 38 with (go_at_call 27; refine (CRd.out wa ba).mono ?_; rintro e wb ⟨Ab, nb, cb, rfl, ownb, bb⟩)
          have bab := Below.then_ ba bb
          obtain ⟨sx, hsx⟩ : ∃ s, s = str dd := ⟨_, rfl⟩
          have HK : Hid (∀ W, Below wb.heap.size wb W → Below wb.heap.size wb W ∧ (convert 23 9 (.slice Aa na ca)).run Tryd.prog W = .ok (.string sx) W ∧ (convert 23 9 (.slice Ab nb cb)).run Tryd.prog W = .ok (.string sx) W ∧ W.cell? ⟨gR, 1, none⟩ = some (.slice (some ⟨gs, 0, none⟩) N N) ∧ W.rangeAt gR 2 ZZ.toList) := fun W h => ⟨h, by rw [hsx]; exact owna.conv W (Below.then_ bb h), by rw [hsx]; exact ownb.conv W h, KR1.out W (Below.then_ bab h), HZR.out W (Below.then_ bab h)⟩
          replace CSo := Lib.hid (fun (W : World) (h : Below wb.heap.size wb W) => CSo.out W (Below.then_ bab h))
          replace CCt := Lib.hid (fun (W : World) (h : Below wb.heap.size wb W) => CCt.out W (Below.then_ bab h))
          replace CBi := Lib.hid (fun (W : World) (h : Below wb.heap.size wb W) => CBi.out W (Below.then_ bab h))
          replace HGS := Lib.hid (fun (W : World) (h : Below wb.heap.size wb W) => HGS.out W (Below.then_ bab h))
          replace HFIN := Lib.hid (fun (W : World) (h : Below wb.heap.size wb W) => HFIN.out W (Below.then_ bab h))
          have t1 : (sx.toList == sx.toList) = true := by simp
          have t2 : ((n : Int) == (n : Int)) = true := by simp
          have hS0 := HK.out wb.drew (below_drawn 1)
          clear hsx owna ownb ba bb bab ka KR1 HZR CBd CRd CQ
          refine wp_region_noPanic ?_
          refine wp_region_held_drew (S := fun W => Below wb.heap.size wb W ∧ (convert 23 9 (.slice Aa na ca)).run Tryd.prog W = .ok (.string sx) W ∧ (convert 23 9 (.slice Ab nb cb)).run Tryd.prog W = .ok (.string sx) W ∧ W.cell? ⟨gR, 1, none⟩ = some (.slice (some ⟨gs, 0, none⟩) N N) ∧ W.rangeAt gR 2 ZZ.toList) (by kernel_rfl) hS0 (fun hHeld => ?_)
          refine wpAnyH_take (i := 0) (oi := ⟨some 182, _, _, _, _, _⟩) (v := ?_) rfl (by kernel_rfl) (by kernel_rfl) (by kernel_rfl) (fun _ _ _ h => h) (Or.inl ⟨by rfl, ?_⟩) hHeld ?_
          rotate_left
          · intro W hSW; obtain ⟨hSW0, hSW1, hSW2, hSW3, hSW4⟩ := hSW; go_simp; first | done | with_reducible rfl
          (try simp only [Act.put, List.setIfInBounds_toArray, List.set_cons_zero, List.set_cons_succ])
          refine wpAnyH_take (i := 1) (oi := ⟨some 183, _, _, _, _, _⟩) (v := ?_) rfl (by kernel_rfl) (by kernel_rfl) (by kernel_rfl) (fun _ _ _ h => h) (Or.inl ⟨by rfl, ?_⟩) hHeld ?_
          rotate_left
          · intro W hSW; obtain ⟨hSW0, hSW1, hSW2, hSW3, hSW4⟩ := hSW; go_simp; first | done | with_reducible rfl
          (try simp only [Act.put, List.setIfInBounds_toArray, List.set_cons_zero, List.set_cons_succ])
          refine wpAnyH_take (i := 2) (oi := ⟨some 184, _, _, _, _, _⟩) (v := ?_) rfl (by kernel_rfl) (by kernel_rfl) (by kernel_rfl) (fun _ _ _ h => h) (Or.inl ⟨by rfl, ?_⟩) hHeld ?_
          rotate_left
          · intro W hSW; obtain ⟨hSW0, hSW1, hSW2, hSW3, hSW4⟩ := hSW; go_simp; first | done | with_reducible rfl
          (try simp only [Act.put, List.setIfInBounds_toArray, List.set_cons_zero, List.set_cons_succ])
          refine wpAnyH_take (i := 3) (oi := ⟨some 185, _, _, _, _, _⟩) (v := ?_) rfl (by kernel_rfl) (by kernel_rfl) (by kernel_rfl) (fun _ _ _ h => h) (Or.inl ⟨by rfl, ?_⟩) hHeld ?_
          rotate_left
          · intro W hSW; obtain ⟨hSW0, hSW1, hSW2, hSW3, hSW4⟩ := hSW; go_simp; first | done | with_reducible rfl
          (try simp only [Act.put, List.setIfInBounds_toArray, List.set_cons_zero, List.set_cons_succ])
          refine wpAnyH_take (i := 4) (oi := ⟨some 186, _, _, _, _, _⟩) (v := ?_) rfl (by kernel_rfl) (by kernel_rfl) (by kernel_rfl) (fun _ _ _ h => h) (Or.inl ⟨by rfl, ?_⟩) hHeld ?_
          rotate_left
          · intro W hSW; obtain ⟨hSW0, hSW1, hSW2, hSW3, hSW4⟩ := hSW; go_simp; first | done | with_reducible rfl
          (try simp only [Act.put, List.setIfInBounds_toArray, List.set_cons_zero, List.set_cons_succ])
          refine wpAnyH_take (i := 5) (oi := ⟨some 187, _, _, _, _, _⟩) (v := ?_) rfl (by kernel_rfl) (by kernel_rfl) (by kernel_rfl) (fun _ _ _ h => h) (Or.inl ⟨by rfl, ?_⟩) hHeld ?_
          rotate_left
          · intro W hSW; obtain ⟨hSW0, hSW1, hSW2, hSW3, hSW4⟩ := hSW; go_simp; first | done | with_reducible rfl
          (try simp only [Act.put, List.setIfInBounds_toArray, List.set_cons_zero, List.set_cons_succ])
          refine wpAnyH_take (i := 6) (oi := ⟨some 188, _, _, _, _, _⟩) (v := ?_) rfl (by kernel_rfl) (by kernel_rfl) (by kernel_rfl) (fun _ _ _ h => h) (Or.inl ⟨by rfl, ?_⟩) hHeld ?_
          rotate_left
          · intro W hSW; obtain ⟨hSW0, hSW1, hSW2, hSW3, hSW4⟩ := hSW; go_simp; first | done | with_reducible rfl
          (try simp only [Act.put, List.setIfInBounds_toArray, List.set_cons_zero, List.set_cons_succ])
          refine wpAnyH_take (i := 7) (oi := ⟨some 189, _, _, _, _, _⟩) (v := ?_) rfl (by kernel_rfl) (by kernel_rfl) (by kernel_rfl) (fun _ _ _ h => h) (Or.inl ⟨by rfl, ?_⟩) hHeld ?_
          rotate_left
          · intro W hSW; obtain ⟨hSW0, hSW1, hSW2, hSW3, hSW4⟩ := hSW; go_simp; first | done | with_reducible rfl
          (try simp only [Act.put, List.setIfInBounds_toArray, List.set_cons_zero, List.set_cons_succ])
          refine wpAnyH_take (i := 8) (oi := ⟨some 190, _, _, _, _, _⟩) (v := ?_) rfl (by kernel_rfl) (by kernel_rfl) (by kernel_rfl) (fun _ _ _ h => h) (Or.inl ⟨by rfl, ?_⟩) hHeld ?_
          rotate_left
          · intro W hSW; obtain ⟨hSW0, hSW1, hSW2, hSW3, hSW4⟩ := hSW; go_simp; first | done | with_reducible rfl
          (try simp only [Act.put, List.setIfInBounds_toArray, List.set_cons_zero, List.set_cons_succ])
          refine wpAnyH_take (i := 9) (oi := ⟨some 191, _, _, _, _, _⟩) (v := ?_) rfl (by kernel_rfl) (by kernel_rfl) (by kernel_rfl) (fun _ _ _ h => h) (Or.inl ⟨by rfl, ?_⟩) hHeld ?_
          rotate_left
          · intro W hSW; obtain ⟨hSW0, hSW1, hSW2, hSW3, hSW4⟩ := hSW; go_simp; first | done | with_reducible rfl
          (try simp only [Act.put, List.setIfInBounds_toArray, List.set_cons_zero, List.set_cons_succ])
          refine wpAnyH_take (i := 10) (oi := ⟨some 192, _, _, _, _, _⟩) (v := ?_) rfl (by kernel_rfl) (by kernel_rfl) (by kernel_rfl) (fun _ _ _ h => h) (Or.inl ⟨by rfl, ?_⟩) hHeld ?_
          rotate_left
          · intro W hSW; obtain ⟨hSW0, hSW1, hSW2, hSW3, hSW4⟩ := hSW; go_simp; first | done | with_reducible rfl
          (try simp only [Act.put, List.setIfInBounds_toArray, List.set_cons_zero, List.set_cons_succ])
          refine wpAnyH_take (i := 11) (oi := ⟨some 193, _, _, _, _, _⟩) (v := ?_) rfl (by kernel_rfl) (by kernel_rfl) (by kernel_rfl) (fun _ _ _ h => h) (Or.inl ⟨by rfl, ?_⟩) hHeld ?_
          rotate_left
          · intro W hSW; obtain ⟨hSW0, hSW1, hSW2, hSW3, hSW4⟩ := hSW; go_simp; first | done | with_reducible rfl
          (try simp only [Act.put, List.setIfInBounds_toArray, List.set_cons_zero, List.set_cons_succ])
          refine wpAnyH_take (i := 12) (oi := ⟨some 194, _, _, _, _, _⟩) (v := ?_) rfl (by kernel_rfl) (by kernel_rfl) (by kernel_rfl) (fun _ _ _ h => h) (Or.inl ⟨by rfl, ?_⟩) hHeld ?_
          rotate_left
          · intro W hSW; obtain ⟨hSW0, hSW1, hSW2, hSW3, hSW4⟩ := hSW; go_simp; first | done | with_reducible rfl
          (try simp only [Act.put, List.setIfInBounds_toArray, List.set_cons_zero, List.set_cons_succ])
          refine wpAnyH_take (i := 13) (oi := ⟨some 195, _, _, _, _, _⟩) (v := ?_) rfl (by kernel_rfl) (by kernel_rfl) (by kernel_rfl) (fun _ _ _ h => h) (Or.inl ⟨by rfl, ?_⟩) hHeld ?_
          rotate_left
          · intro W hSW; obtain ⟨hSW0, hSW1, hSW2, hSW3, hSW4⟩ := hSW; go_simp; first | done | with_reducible rfl
          (try simp only [Act.put, List.setIfInBounds_toArray, List.set_cons_zero, List.set_cons_succ])
          refine wpAnyH_take (i := 14) (oi := ⟨some 196, _, _, _, _, _⟩) (v := ?_) rfl (by kernel_rfl) (by kernel_rfl) (by kernel_rfl) (fun _ _ _ h => h) (Or.inl ⟨by rfl, ?_⟩) hHeld ?_
          rotate_left
          · intro W hSW; obtain ⟨hSW0, hSW1, hSW2, hSW3, hSW4⟩ := hSW; go_simp; first | done | with_reducible rfl
          (try simp only [Act.put, List.setIfInBounds_toArray, List.set_cons_zero, List.set_cons_succ])
          refine wpAnyH_take (i := 16) (oi := ⟨some 198, _, _, _, _, _⟩) (v := ?_) rfl (by kernel_rfl) (by kernel_rfl) (by kernel_rfl) (fun _ _ _ h => h) (Or.inl ⟨by rfl, ?_⟩) hHeld ?_
          rotate_left
          · intro W hSW; obtain ⟨hSW0, hSW1, hSW2, hSW3, hSW4⟩ := hSW; go_simp; first | done | with_reducible rfl
          (try simp only [Act.put, List.setIfInBounds_toArray, List.set_cons_zero, List.set_cons_succ])
          refine wpAnyH_take (i := 17) (oi := ⟨some 199, _, _, _, _, _⟩) (v := ?_) rfl (by kernel_rfl) (by kernel_rfl) (by kernel_rfl) (fun _ _ _ h => h) (Or.inl ⟨by rfl, ?_⟩) hHeld ?_
          rotate_left
          · intro W hSW; obtain ⟨hSW0, hSW1, hSW2, hSW3, hSW4⟩ := hSW; go_simp; first | done | with_reducible rfl
          (try simp only [Act.put, List.setIfInBounds_toArray, List.set_cons_zero, List.set_cons_succ])
          refine wpAnyH_take (i := 18) (oi := ⟨some 200, _, _, _, _, _⟩) (v := ?_) rfl (by kernel_rfl) (by kernel_rfl) (by kernel_rfl) (fun _ _ _ h => h) (Or.inl ⟨by rfl, ?_⟩) hHeld ?_
          rotate_left
          · intro W hSW; obtain ⟨hSW0, hSW1, hSW2, hSW3, hSW4⟩ := hSW; go_simp; first | done | with_reducible rfl
          (try simp only [Act.put, List.setIfInBounds_toArray, List.set_cons_zero, List.set_cons_succ])
          refine wpAnyH_take (i := 19) (oi := ⟨some 201, _, _, _, _, _⟩) (v := ?_) rfl (by kernel_rfl) (by kernel_rfl) (by kernel_rfl) (fun _ _ _ h => h) (Or.inl ⟨by rfl, ?_⟩) hHeld ?_
          rotate_left
          · intro W hSW; obtain ⟨hSW0, hSW1, hSW2, hSW3, hSW4⟩ := hSW; go_simp; first | done | with_reducible rfl
          (try simp only [Act.put, List.setIfInBounds_toArray, List.set_cons_zero, List.set_cons_succ])
          refine wpAnyH_ready (rs := [15]) (by kernel_rfl) (by simp) ?_
          refine AllReadyH.cons (o := ⟨some 197, _, _, _, _, _⟩) rfl (fun K hK => ?_) (AllReadyH.nil)
          go_simp
          refine (CSo.out _ hHeld.1).mono ?_
          rintro e W' ⟨rfl, qs, bs⟩
          have bz := Below.then_ hHeld.1 bs
          have CSm := Lib.hid (fun (W : World) (h : Below W'.heap.size W' W) => sameC (some ⟨_, 0, none⟩) (some ⟨gs, 0, none⟩) N N N N SL W (W4_rd (qs.after h) HSL.out) (HGS.out W (Below.then_ bz h)) (by omega))
          have hS2 := HK.out W' bz
          clear hHeld
          refine hK.out _ _ ?_ (fun hHeld => ?_)
          · exact hS2
          clear hK K
          (try simp only [Act.put, List.setIfInBounds_toArray, List.set_cons_zero, List.set_cons_succ])
          clear hS2
          refine wpAnyH_ready (rs := [20]) (by kernel_rfl) (by simp) ?_
          refine AllReadyH.cons (o := ⟨some 202, _, _, _, _, _⟩) rfl (fun K hK => ?_) (AllReadyH.nil)
          go_simp
          refine (CSm.out _ (Below.refl _ _)).mono ?_
          rintro e W' ⟨rfl, bm⟩
          have bz2 := Below.then_ bz bm
          have hS2 := HK.out W' bz2
          clear hHeld
          refine hK.out _ _ ?_ (fun hHeld => ?_)
          · exact hS2
          clear hK K
          (try simp only [Act.put, List.setIfInBounds_toArray, List.set_cons_zero, List.set_cons_succ])
          clear hS2
          refine wpAnyH_take (i := 21) (oi := ⟨some 203, _, _, _, _, _⟩) (v := ?_) rfl (by kernel_rfl) (by kernel_rfl) (by kernel_rfl) (fun _ _ _ h => h) (Or.inl ⟨by rfl, ?_⟩) hHeld ?_
          rotate_left
          · intro W hSW; obtain ⟨hSW0, hSW1, hSW2, hSW3, hSW4⟩ := hSW; go_simp; first | done | with_reducible rfl
          (try simp only [Act.put, List.setIfInBounds_toArray, List.set_cons_zero, List.set_cons_succ])
          refine wpAnyH_take (i := 22) (oi := ⟨some 204, _, _, _, _, _⟩) (v := ?_) rfl (by kernel_rfl) (by kernel_rfl) (by kernel_rfl) (fun _ _ _ h => h) (Or.inl ⟨by rfl, ?_⟩) hHeld ?_
          rotate_left
          · intro W hSW; obtain ⟨hSW0, hSW1, hSW2, hSW3, hSW4⟩ := hSW; go_simp; first | done | with_reducible rfl
          (try simp only [Act.put, List.setIfInBounds_toArray, List.set_cons_zero, List.set_cons_succ])
          refine wpAnyH_take (i := 23) (oi := ⟨some 205, _, _, _, _, _⟩) (v := ?_) rfl (by kernel_rfl) (by kernel_rfl) (by kernel_rfl) (fun _ _ _ h => h) (Or.inl ⟨by rfl, ?_⟩) hHeld ?_
          rotate_left
          · intro W hSW; obtain ⟨hSW0, hSW1, hSW2, hSW3, hSW4⟩ := hSW; go_simp; first | done | with_reducible rfl
          (try simp only [Act.put, List.setIfInBounds_toArray, List.set_cons_zero, List.set_cons_succ])
          refine wpAnyH_take (i := 25) (oi := ⟨some 207, _, _, _, _, _⟩) (v := ?_) rfl (by kernel_rfl) (by kernel_rfl) (by kernel_rfl) (fun _ _ _ h => h) (Or.inl ⟨by rfl, ?_⟩) hHeld ?_
          rotate_left
          · intro W hSW; obtain ⟨hSW0, hSW1, hSW2, hSW3, hSW4⟩ := hSW; go_simp; first | done | with_reducible rfl
          (try simp only [Act.put, List.setIfInBounds_toArray, List.set_cons_zero, List.set_cons_succ])
          refine wpAnyH_take (i := 26) (oi := ⟨some 208, _, _, _, _, _⟩) (v := ?_) rfl (by kernel_rfl) (by kernel_rfl) (by kernel_rfl) (fun _ _ _ h => h) (Or.inl ⟨by rfl, ?_⟩) hHeld ?_
          rotate_left
          · intro W hSW; obtain ⟨hSW0, hSW1, hSW2, hSW3, hSW4⟩ := hSW; go_simp; first | done | with_reducible rfl
          (try simp only [Act.put, List.setIfInBounds_toArray, List.set_cons_zero, List.set_cons_succ])
          refine wpAnyH_take (i := 27) (oi := ⟨some 209, _, _, _, _, _⟩) (v := ?_) rfl (by kernel_rfl) (by kernel_rfl) (by kernel_rfl) (fun _ _ _ h => h) (Or.inl ⟨by rfl, ?_⟩) hHeld ?_
          rotate_left
          · intro W hSW; obtain ⟨hSW0, hSW1, hSW2, hSW3, hSW4⟩ := hSW; go_simp; first | done | with_reducible rfl
          (try simp only [Act.put, List.setIfInBounds_toArray, List.set_cons_zero, List.set_cons_succ])
          refine wpAnyH_take (i := 28) (oi := ⟨some 210, _, _, _, _, _⟩) (v := _) rfl (by kernel_rfl) (by kernel_rfl) (by kernel_rfl) (fun _ _ _ h => h) (yields_mid (by rfl) 22 _ (by rfl) gR 2 (by rfl) ZZ _ (fun W h => h.2.2.2.2) Tryd.underlying22 (by rfl) iZ.out) hHeld ?_
          (try simp only [Act.put, List.setIfInBounds_toArray, List.set_cons_zero, List.set_cons_succ])
          refine wpAnyH_ready (rs := [24]) (by kernel_rfl) (by simp) ?_
          refine AllReadyH.cons (o := ⟨some 206, _, _, _, _, _⟩) rfl (fun K hK => ?_) (AllReadyH.nil)
          go_simp
          refine (CCt.out _ bz2).mono ?_
          rintro e W' ⟨rfl, bc⟩
          have bz3 := Below.then_ bz2 bc
          have hS2 := HK.out W' bz3
          clear hHeld
          refine hK.out _ _ ?_ (fun hHeld => ?_)
          · exact hS2
          clear hK K
          (try simp only [Act.put, List.setIfInBounds_toArray, List.set_cons_zero, List.set_cons_succ])
          clear hS2
          refine wpAnyH_take (i := 29) (oi := ⟨some 211, _, _, _, _, _⟩) (v := _) rfl (by kernel_rfl) (by kernel_rfl) (by kernel_rfl) (fun _ _ _ h => h) (yields_eq (by rfl) .eql 22 _ _ _ (by rfl) ZZ ZZ (by rfl) (by rfl) guard4 (.bool true) HEQ.out) hHeld ?_
          (try simp only [Act.put, List.setIfInBounds_toArray, List.set_cons_zero, List.set_cons_succ])
          refine wpAnyH_take (i := 30) (oi := ⟨some 212, _, _, _, _, _⟩) (v := ?_) rfl (by kernel_rfl) (by kernel_rfl) (by kernel_rfl) (fun _ _ _ h => h) (Or.inl ⟨by rfl, ?_⟩) hHeld ?_
          rotate_left
          · intro W hSW; obtain ⟨hSW0, hSW1, hSW2, hSW3, hSW4⟩ := hSW; go_simp; first | done | with_reducible rfl
          (try simp only [Act.put, List.setIfInBounds_toArray, List.set_cons_zero, List.set_cons_succ])
          refine wpAnyH_take (i := 31) (oi := ⟨some 213, _, _, _, _, _⟩) (v := ?_) rfl (by kernel_rfl) (by kernel_rfl) (by kernel_rfl) (fun _ _ _ h => h) (Or.inl ⟨by rfl, ?_⟩) hHeld ?_
          rotate_left
          · intro W hSW; obtain ⟨hSW0, hSW1, hSW2, hSW3, hSW4⟩ := hSW; go_simp; first | done | with_reducible rfl
          (try simp only [Act.put, List.setIfInBounds_toArray, List.set_cons_zero, List.set_cons_succ])
          refine wpAnyH_take (i := 32) (oi := ⟨some 214, _, _, _, _, _⟩) (v := ?_) rfl (by kernel_rfl) (by kernel_rfl) (by kernel_rfl) (fun _ _ _ h => h) (Or.inl ⟨by rfl, ?_⟩) hHeld ?_
          rotate_left
          · intro W hSW; obtain ⟨hSW0, hSW1, hSW2, hSW3, hSW4⟩ := hSW; go_simp; first | done | with_reducible rfl
          (try simp only [Act.put, List.setIfInBounds_toArray, List.set_cons_zero, List.set_cons_succ])
          refine wpAnyH_take (i := 34) (oi := ⟨some 216, _, _, _, _, _⟩) (v := ?_) rfl (by kernel_rfl) (by kernel_rfl) (by kernel_rfl) (fun _ _ _ h => h) (Or.inl ⟨by rfl, ?_⟩) hHeld ?_
          rotate_left
          · intro W hSW; obtain ⟨hSW0, hSW1, hSW2, hSW3, hSW4⟩ := hSW; go_simp; first | done | with_reducible rfl
          (try simp only [Act.put, List.setIfInBounds_toArray, List.set_cons_zero, List.set_cons_succ])
          refine wpAnyH_ready (rs := [33]) (by kernel_rfl) (by simp) ?_
          refine AllReadyH.cons (o := ⟨some 215, _, _, _, _, _⟩) rfl (fun K hK => ?_) (AllReadyH.nil)
          go_simp
          refine (CBi.out _ bz3).mono ?_
          rintro e W' ⟨rfl, rfl⟩
          have hS2 := HK.out _ bz3
          clear hHeld
          refine hK.out _ _ ?_ (fun hHeld => ?_)
          · exact hS2
          clear hK K
          (try simp only [Act.put, List.setIfInBounds_toArray, List.set_cons_zero, List.set_cons_succ])
          clear hS2
          refine wpAnyH_take (i := 35) (oi := ⟨some 217, _, _, _, _, _⟩) (v := ?_) rfl (by kernel_rfl) (by kernel_rfl) (by kernel_rfl) (fun _ _ _ h => h) (Or.inl ⟨by rfl, ?_⟩) hHeld ?_
          rotate_left
          · intro W hSW; obtain ⟨hSW0, hSW1, hSW2, hSW3, hSW4⟩ := hSW; go_simp; first | done | with_reducible rfl
          (try simp only [Act.put, List.setIfInBounds_toArray, List.set_cons_zero, List.set_cons_succ])
          refine wpAnyH_take (i := 36) (oi := ⟨some 218, _, _, _, _, _⟩) (v := ?_) rfl (by kernel_rfl) (by kernel_rfl) (by kernel_rfl) (fun _ _ _ h => h) (Or.inl ⟨by rfl, ?_⟩) hHeld ?_
          rotate_left
          · intro W hSW; obtain ⟨hSW0, hSW1, hSW2, hSW3, hSW4⟩ := hSW; go_simp; first | done | with_reducible rfl
          (try simp only [Act.put, List.setIfInBounds_toArray, List.set_cons_zero, List.set_cons_succ])
          refine wpAnyH_take (i := 37) (oi := ⟨some 6, _, _, _, _, _⟩) (v := ?_) rfl (by kernel_rfl) (by kernel_rfl) (by kernel_rfl) (fun _ _ _ h => h) (Or.inl ⟨by rfl, ?_⟩) hHeld ?_
          rotate_left
          · intro W hSW; obtain ⟨hSW0, hSW1, hSW2, hSW3, hSW4⟩ := hSW; go_simp; first | done | with_reducible rfl
          (try simp only [Act.put, List.setIfInBounds_toArray, List.set_cons_zero, List.set_cons_succ])
          refine wpAnyH_done (by kernel_rfl) ?_ _
          refine NoPanic.normal ?_
          clear hHeld
          go_wp2
          go_ret
          exact ⟨rfl, HFIN.out _ bz3⟩
        · have d1 : decide ((i : Int) < (n1 : Int)) = false := by simp; omega
          clear hlt
          have hTr : Taps wr := hT.low T.bw (by omega)
          have CBd := Lib.hid (bdecode gB n row SB wr T.b (by omega) (by omega) hTr)
          obtain ⟨N, hN⟩ : ∃ N, N = 4 * (n + 6) := ⟨_, rfl⟩
          have hsl : (Cv.softs (n + 6) row).length = N := by rw [Cv.softs_length, hN]
          have hin : ∀ z ∈ Cv.softs (n + 6) row, -31 ≤ z ∧ z ≤ 31 := fun z hz => by have := Cv.softs_in (n + 6) row z hz; omega
          have hN2 : N ≤ 300 := by omega
          have HGS : Hid (∀ W, Below wr.heap.size wr W → Rd W W.heap.size (some ⟨gs, 0, none⟩) N (I64 (Cv.softs (n + 6) row))) := fun W hW => W4_rd (T.r.sums.after hW) hsl
          have CRd := Lib.hid (fun (W : World) (hW : Below wr.heap.size wr W) => refDecode gs 0 N n N _ W (HGS.out W hW) hin hN (by omega) (Nat.le_refl _) (by omega))
          have CSo := Lib.hid (fun (W : World) (hW : Below wr.heap.size wr W) => softC gB n N (Cv.cv row) (Cv.softs (n + 6) row) SB W (T.b.after hW).blk (T.b.after hW).sums (by omega) hN hsl)
          have CCt := Lib.hid (fun (W : World) (hW : Below wr.heap.size wr W) => countsC gB n row SB W (T.b.after hW).blk)
          have CBi := Lib.hid (fun (W : World) (hW : Below wr.heap.size wr W) => bitsB gB n (Cv.cv row) SB W (T.b.after hW).blk)
          have KR1 : Hid (∀ W, Below wr.heap.size wr W → W.cell? ⟨gR, 1, none⟩ = some (.slice (some ⟨gs, 0, none⟩) N N)) := fun W hW => by
            have := (T.r.blk.after hW).cell 1
            rw [← hN] at this
            exact this
          have HZR : Hid (∀ W, Below wr.heap.size wr W → W.rangeAt gR 2 (W4 (nw (cl row))).toList) := fun W hW => (T.r.blk.after hW).range 2 _ (W4_cl n row _)
          have HEQ := Lib.hid (eqCl row)
          have iZ : Hid ((Tryd.prog.info? 22).map (·.size) = some (W4 (nw (cl row))).size) := info4w
          have HSL := Lib.hid hsl
          have HFIN : Hid (∀ W, Below wr.heap.size wr W → Below w.heap.size w W) := fun W hW => T.bw.trans (hW.mono T.sz)
          clear hTr hsl hin T hN
          generalize Cv.rb (Cv.softs (n + 6) row) n 0 0 = dd at *
          generalize Cv.mb (Cv.softs (n + 6) row) n 0 0 = mv at *
          generalize Cv.softs (n + 6) row = SL at *
          generalize W4 (nw (cl row)) = ZZ at *
          go_upto_region 37 with (go_at_call 16; refine CBd.out.mono ?_; rintro e wa ⟨Aa, na, ca, rfl, owna, ba⟩)
          have ka := KR1.out wa ba
          go_upto_region 38 with (go_at_call 27; refine (CRd.out wa ba).mono ?_; rintro e wb ⟨Ab, nb, cb, rfl, ownb, bb⟩)
          have bab := Below.then_ ba bb
          obtain ⟨sx, hsx⟩ : ∃ s, s = str dd := ⟨_, rfl⟩
          have HK : Hid (∀ W, Below wb.heap.size wb W → Below wb.heap.size wb W ∧ (convert 23 9 (.slice Aa na ca)).run Tryd.prog W = .ok (.string sx) W ∧ (convert 23 9 (.slice Ab nb cb)).run Tryd.prog W = .ok (.string sx) W ∧ W.cell? ⟨gR, 1, none⟩ = some (.slice (some ⟨gs, 0, none⟩) N N) ∧ W.rangeAt gR 2 ZZ.toList) := fun W h => ⟨h, by rw [hsx]; exact owna.conv W (Below.then_ bb h), by rw [hsx]; exact ownb.conv W h, KR1.out W (Below.then_ bab h), HZR.out W (Below.then_ bab h)⟩
          replace CSo := Lib.hid (fun (W : World) (h : Below wb.heap.size wb W) => CSo.out W (Below.then_ bab h))
          replace CCt := Lib.hid (fun (W : World) (h : Below wb.heap.size wb W) => CCt.out W (Below.then_ bab h))
          replace CBi := Lib.hid (fun (W : World) (h : Below wb.heap.size wb W) => CBi.out W (Below.then_ bab h))
          replace HGS := Lib.hid (fun (W : World) (h : Below wb.heap.size wb W) => HGS.out W (Below.then_ bab h))
          replace HFIN := Lib.hid (fun (W : World) (h : Below wb.heap.size wb W) => HFIN.out W (Below.then_ bab h))
          have t1 : (sx.toList == sx.toList) = true := by simp
          have t2 : ((n : Int) == (n : Int)) = true := by simp
          have hS0 := HK.out wb.drew (below_drawn 1)
          clear hsx owna ownb ba bb bab ka KR1 HZR CBd CRd CQ
          refine wp_region_noPanic ?_
          refine wp_region_held_drew (S := fun W => Below wb.heap.size wb W ∧ (convert 23 9 (.slice Aa na ca)).run Tryd.prog W = .ok (.string sx) W ∧ (convert 23 9 (.slice Ab nb cb)).run Tryd.prog W = .ok (.string sx) W ∧ W.cell? ⟨gR, 1, none⟩ = some (.slice (some ⟨gs, 0, none⟩) N N) ∧ W.rangeAt gR 2 ZZ.toList) (by kernel_rfl) hS0 (fun hHeld => ?_)
          refine wpAnyH_take (i := 0) (oi := ⟨some 182, _, _, _, _, _⟩) (v := ?_) rfl (by kernel_rfl) (by kernel_rfl) (by kernel_rfl) (fun _ _ _ h => h) (Or.inl ⟨by rfl, ?_⟩) hHeld ?_
          rotate_left
          · intro W hSW; obtain ⟨hSW0, hSW1, hSW2, hSW3, hSW4⟩ := hSW; go_simp; first | done | with_reducible rfl
          (try simp only [Act.put, List.setIfInBounds_toArray, List.set_cons_zero, List.set_cons_succ])
          refine wpAnyH_take (i := 1) (oi := ⟨some 183, _, _, _, _, _⟩) (v := ?_) rfl (by kernel_rfl) (by kernel_rfl) (by kernel_rfl) (fun _ _ _ h => h) (Or.inl ⟨by rfl, ?_⟩) hHeld ?_
          rotate_left
          · intro W hSW; obtain ⟨hSW0, hSW1, hSW2, hSW3, hSW4⟩ := hSW; go_simp; first | done | with_reducible rfl
          (try simp only [Act.put, List.setIfInBounds_toArray, List.set_cons_zero, List.set_cons_succ])
          refine wpAnyH_take (i := 2) (oi := ⟨some 184, _, _, _, _, _⟩) (v := ?_) rfl (by kernel_rfl) (by kernel_rfl) (by kernel_rfl) (fun _ _ _ h => h) (Or.inl ⟨by rfl, ?_⟩) hHeld ?_
          rotate_left
          · intro W hSW; obtain ⟨hSW0, hSW1, hSW2, hSW3, hSW4⟩ := hSW; go_simp; first | done | with_reducible rfl
          (try simp only [Act.put, List.setIfInBounds_toArray, List.set_cons_zero, List.set_cons_succ])
          refine wpAnyH_take (i := 3) (oi := ⟨some 185, _, _, _, _, _⟩) (v := ?_) rfl (by kernel_rfl) (by kernel_rfl) (by kernel_rfl) (fun _ _ _ h => h) (Or.inl ⟨by rfl, ?_⟩) hHeld ?_
          rotate_left
          · intro W hSW; obtain ⟨hSW0, hSW1, hSW2, hSW3, hSW4⟩ := hSW; go_simp; first | done | with_reducible rfl
          (try simp only [Act.put, List.setIfInBounds_toArray, List.set_cons_zero, List.set_cons_succ])
          refine wpAnyH_take (i := 4) (oi := ⟨some 186, _, _, _, _, _⟩) (v := ?_) rfl (by kernel_rfl) (by kernel_rfl) (by kernel_rfl) (fun _ _ _ h => h) (Or.inl ⟨by rfl, ?_⟩) hHeld ?_
          rotate_left
          · intro W hSW; obtain ⟨hSW0, hSW1, hSW2, hSW3, hSW4⟩ := hSW; go_simp; first | done | with_reducible rfl
          (try simp only [Act.put, List.setIfInBounds_toArray, List.set_cons_zero, List.set_cons_succ])
          refine wpAnyH_take (i := 5) (oi := ⟨some 187, _, _, _, _, _⟩) (v := ?_) rfl (by kernel_rfl) (by kernel_rfl) (by kernel_rfl) (fun _ _ _ h => h) (Or.inl ⟨by rfl, ?_⟩) hHeld ?_
          rotate_left
          · intro W hSW; obtain ⟨hSW0, hSW1, hSW2, hSW3, hSW4⟩ := hSW; go_simp; first | done | with_reducible rfl
          (try simp only [Act.put, List.setIfInBounds_toArray, List.set_cons_zero, List.set_cons_succ])
          refine wpAnyH_take (i := 6) (oi := ⟨some 188, _, _, _, _, _⟩) (v := ?_) rfl (by kernel_rfl) (by kernel_rfl) (by kernel_rfl) (fun _ _ _ h => h) (Or.inl ⟨by rfl, ?_⟩) hHeld ?_
          rotate_left
          · intro W hSW; obtain ⟨hSW0, hSW1, hSW2, hSW3, hSW4⟩ := hSW; go_simp; first | done | with_reducible rfl
          (try simp only [Act.put, List.setIfInBounds_toArray, List.set_cons_zero, List.set_cons_succ])
          refine wpAnyH_take (i := 7) (oi := ⟨some 189, _, _, _, _, _⟩) (v := ?_) rfl (by kernel_rfl) (by kernel_rfl) (by kernel_rfl) (fun _ _ _ h => h) (Or.inl ⟨by rfl, ?_⟩) hHeld ?_
          rotate_left
          · intro W hSW; obtain ⟨hSW0, hSW1, hSW2, hSW3, hSW4⟩ := hSW; go_simp; first | done | with_reducible rfl
          (try simp only [Act.put, List.setIfInBounds_toArray, List.set_cons_zero, List.set_cons_succ])
          refine wpAnyH_take (i := 8) (oi := ⟨some 190, _, _, _, _, _⟩) (v := ?_) rfl (by kernel_rfl) (by kernel_rfl) (by kernel_rfl) (fun _ _ _ h => h) (Or.inl ⟨by rfl, ?_⟩) hHeld ?_
          rotate_left
          · intro W hSW; obtain ⟨hSW0, hSW1, hSW2, hSW3, hSW4⟩ := hSW; go_simp; first | done | with_reducible rfl
          (try simp only [Act.put, List.setIfInBounds_toArray, List.set_cons_zero, List.set_cons_succ])
          refine wpAnyH_take (i := 9) (oi := ⟨some 191, _, _, _, _, _⟩) (v := ?_) rfl (by kernel_rfl) (by kernel_rfl) (by kernel_rfl) (fun _ _ _ h => h) (Or.inl ⟨by rfl, ?_⟩) hHeld ?_
          rotate_left
          · intro W hSW; obtain ⟨hSW0, hSW1, hSW2, hSW3, hSW4⟩ := hSW; go_simp; first | done | with_reducible rfl
          (try simp only [Act.put, List.setIfInBounds_toArray, List.set_cons_zero, List.set_cons_succ])
          refine wpAnyH_take (i := 10) (oi := ⟨some 192, _, _, _, _, _⟩) (v := ?_) rfl (by kernel_rfl) (by kernel_rfl) (by kernel_rfl) (fun _ _ _ h => h) (Or.inl ⟨by rfl, ?_⟩) hHeld ?_
          rotate_left
          · intro W hSW; obtain ⟨hSW0, hSW1, hSW2, hSW3, hSW4⟩ := hSW; go_simp; first | done | with_reducible rfl
          (try simp only [Act.put, List.setIfInBounds_toArray, List.set_cons_zero, List.set_cons_succ])
          refine wpAnyH_take (i := 11) (oi := ⟨some 193, _, _, _, _, _⟩) (v := ?_) rfl (by kernel_rfl) (by kernel_rfl) (by kernel_rfl) (fun _ _ _ h => h) (Or.inl ⟨by rfl, ?_⟩) hHeld ?_
          rotate_left
          · intro W hSW; obtain ⟨hSW0, hSW1, hSW2, hSW3, hSW4⟩ := hSW; go_simp; first | done | with_reducible rfl
          (try simp only [Act.put, List.setIfInBounds_toArray, List.set_cons_zero, List.set_cons_succ])
          refine wpAnyH_take (i := 12) (oi := ⟨some 194, _, _, _, _, _⟩) (v := ?_) rfl (by kernel_rfl) (by kernel_rfl) (by kernel_rfl) (fun _ _ _ h => h) (Or.inl ⟨by rfl, ?_⟩) hHeld ?_
          rotate_left
          · intro W hSW; obtain ⟨hSW0, hSW1, hSW2, hSW3, hSW4⟩ := hSW; go_simp; first | done | with_reducible rfl
          (try simp only [Act.put, List.setIfInBounds_toArray, List.set_cons_zero, List.set_cons_succ])
          refine wpAnyH_take (i := 13) (oi := ⟨some 195, _, _, _, _, _⟩) (v := ?_) rfl (by kernel_rfl) (by kernel_rfl) (by kernel_rfl) (fun _ _ _ h => h) (Or.inl ⟨by rfl, ?_⟩) hHeld ?_
          rotate_left
          · intro W hSW; obtain ⟨hSW0, hSW1, hSW2, hSW3, hSW4⟩ := hSW; go_simp; first | done | with_reducible rfl
          (try simp only [Act.put, List.setIfInBounds_toArray, List.set_cons_zero, List.set_cons_succ])
          refine wpAnyH_take (i := 14) (oi := ⟨some 196, _, _, _, _, _⟩) (v := ?_) rfl (by kernel_rfl) (by kernel_rfl) (by kernel_rfl) (fun _ _ _ h => h) (Or.inl ⟨by rfl, ?_⟩) hHeld ?_
          rotate_left
          · intro W hSW; obtain ⟨hSW0, hSW1, hSW2, hSW3, hSW4⟩ := hSW; go_simp; first | done | with_reducible rfl
          (try simp only [Act.put, List.setIfInBounds_toArray, List.set_cons_zero, List.set_cons_succ])
          refine wpAnyH_take (i := 16) (oi := ⟨some 198, _, _, _, _, _⟩) (v := ?_) rfl (by kernel_rfl) (by kernel_rfl) (by kernel_rfl) (fun _ _ _ h => h) (Or.inl ⟨by rfl, ?_⟩) hHeld ?_
          rotate_left
          · intro W hSW; obtain ⟨hSW0, hSW1, hSW2, hSW3, hSW4⟩ := hSW; go_simp; first | done | with_reducible rfl
          (try simp only [Act.put, List.setIfInBounds_toArray, List.set_cons_zero, List.set_cons_succ])
          refine wpAnyH_take (i := 17) (oi := ⟨some 199, _, _, _, _, _⟩) (v := ?_) rfl (by kernel_rfl) (by kernel_rfl) (by kernel_rfl) (fun _ _ _ h => h) (Or.inl ⟨by rfl, ?_⟩) hHeld ?_
          rotate_left
          · intro W hSW; obtain ⟨hSW0, hSW1, hSW2, hSW3, hSW4⟩ := hSW; go_simp; first | done | with_reducible rfl
          (try simp only [Act.put, List.setIfInBounds_toArray, List.set_cons_zero, List.set_cons_succ])
          refine wpAnyH_take (i := 18) (oi := ⟨some 200, _, _, _, _, _⟩) (v := ?_) rfl (by kernel_rfl) (by kernel_rfl) (by kernel_rfl) (fun _ _ _ h => h) (Or.inl ⟨by rfl, ?_⟩) hHeld ?_
          rotate_left
          · intro W hSW; obtain ⟨hSW0, hSW1, hSW2, hSW3, hSW4⟩ := hSW; go_simp; first | done | with_reducible rfl
          (try simp only [Act.put, List.setIfInBounds_toArray, List.set_cons_zero, List.set_cons_succ])
          refine wpAnyH_take (i := 19) (oi := ⟨some 201, _, _, _, _, _⟩) (v := ?_) rfl (by kernel_rfl) (by kernel_rfl) (by kernel_rfl) (fun _ _ _ h => h) (Or.inl ⟨by rfl, ?_⟩) hHeld ?_
          rotate_left
          · intro W hSW; obtain ⟨hSW0, hSW1, hSW2, hSW3, hSW4⟩ := hSW; go_simp; first | done | with_reducible rfl
          (try simp only [Act.put, List.setIfInBounds_toArray, List.set_cons_zero, List.set_cons_succ])
          refine wpAnyH_ready (rs := [15]) (by kernel_rfl) (by simp) ?_
          refine AllReadyH.cons (o := ⟨some 197, _, _, _, _, _⟩) rfl (fun K hK => ?_) (AllReadyH.nil)
          go_simp
          refine (CSo.out _ hHeld.1).mono ?_
          rintro e W' ⟨rfl, qs, bs⟩
          have bz := Below.then_ hHeld.1 bs
          have CSm := Lib.hid (fun (W : World) (h : Below W'.heap.size W' W) => sameC (some ⟨_, 0, none⟩) (some ⟨gs, 0, none⟩) N N N N SL W (W4_rd (qs.after h) HSL.out) (HGS.out W (Below.then_ bz h)) (by omega))
          have hS2 := HK.out W' bz
          clear hHeld
          refine hK.out _ _ ?_ (fun hHeld => ?_)
          · exact hS2
          clear hK K
          (try simp only [Act.put, List.setIfInBounds_toArray, List.set_cons_zero, List.set_cons_succ])
          clear hS2
          refine wpAnyH_ready (rs := [20]) (by kernel_rfl) (by simp) ?_
          refine AllReadyH.cons (o := ⟨some 202, _, _, _, _, _⟩) rfl (fun K hK => ?_) (AllReadyH.nil)
          go_simp
          refine (CSm.out _ (Below.refl _ _)).mono ?_
          rintro e W' ⟨rfl, bm⟩
          have bz2 := Below.then_ bz bm
          have hS2 := HK.out W' bz2
          clear hHeld
          refine hK.out _ _ ?_ (fun hHeld => ?_)
          · exact hS2
          clear hK K
          (try simp only [Act.put, List.setIfInBounds_toArray, List.set_cons_zero, List.set_cons_succ])
          clear hS2
          refine wpAnyH_take (i := 21) (oi := ⟨some 203, _, _, _, _, _⟩) (v := ?_) rfl (by kernel_rfl) (by kernel_rfl) (by kernel_rfl) (fun _ _ _ h => h) (Or.inl ⟨by rfl, ?_⟩) hHeld ?_
          rotate_left
          · intro W hSW; obtain ⟨hSW0, hSW1, hSW2, hSW3, hSW4⟩ := hSW; go_simp; first | done | with_reducible rfl
          (try simp only [Act.put, List.setIfInBounds_toArray, List.set_cons_zero, List.set_cons_succ])
          refine wpAnyH_take (i := 22) (oi := ⟨some 204, _, _, _, _, _⟩) (v := ?_) rfl (by kernel_rfl) (by kernel_rfl) (by kernel_rfl) (fun _ _ _ h => h) (Or.inl ⟨by rfl, ?_⟩) hHeld ?_
          rotate_left
          · intro W hSW; obtain ⟨hSW0, hSW1, hSW2, hSW3, hSW4⟩ := hSW; go_simp; first | done | with_reducible rfl
          (try simp only [Act.put, List.setIfInBounds_toArray, List.set_cons_zero, List.set_cons_succ])
          refine wpAnyH_take (i := 23) (oi := ⟨some 205, _, _, _, _, _⟩) (v := ?_) rfl (by kernel_rfl) (by kernel_rfl) (by kernel_rfl) (fun _ _ _ h => h) (Or.inl ⟨by rfl, ?_⟩) hHeld ?_
          rotate_left
          · intro W hSW; obtain ⟨hSW0, hSW1, hSW2, hSW3, hSW4⟩ := hSW; go_simp; first | done | with_reducible rfl
          (try simp only [Act.put, List.setIfInBounds_toArray, List.set_cons_zero, List.set_cons_succ])
          refine wpAnyH_take (i := 25) (oi := ⟨some 207, _, _, _, _, _⟩) (v := ?_) rfl (by kernel_rfl) (by kernel_rfl) (by kernel_rfl) (fun _ _ _ h => h) (Or.inl ⟨by rfl, ?_⟩) hHeld ?_
          rotate_left
          · intro W hSW; obtain ⟨hSW0, hSW1, hSW2, hSW3, hSW4⟩ := hSW; go_simp; first | done | with_reducible rfl
          (try simp only [Act.put, List.setIfInBounds_toArray, List.set_cons_zero, List.set_cons_succ])
          refine wpAnyH_take (i := 26) (oi := ⟨some 208, _, _, _, _, _⟩) (v := ?_) rfl (by kernel_rfl) (by kernel_rfl) (by kernel_rfl) (fun _ _ _ h => h) (Or.inl ⟨by rfl, ?_⟩) hHeld ?_
          rotate_left
          · intro W hSW; obtain ⟨hSW0, hSW1, hSW2, hSW3, hSW4⟩ := hSW; go_simp; first | done | with_reducible rfl
          (try simp only [Act.put, List.setIfInBounds_toArray, List.set_cons_zero, List.set_cons_succ])
          refine wpAnyH_take (i := 27) (oi := ⟨some 209, _, _, _, _, _⟩) (v := ?_) rfl (by kernel_rfl) (by kernel_rfl) (by kernel_rfl) (fun _ _ _ h => h) (Or.inl ⟨by rfl, ?_⟩) hHeld ?_
          rotate_left
          · intro W hSW; obtain ⟨hSW0, hSW1, hSW2, hSW3, hSW4⟩ := hSW; go_simp; first | done | with_reducible rfl
          (try simp only [Act.put, List.setIfInBounds_toArray, List.set_cons_zero, List.set_cons_succ])
          refine wpAnyH_take (i := 28) (oi := ⟨some 210, _, _, _, _, _⟩) (v := _) rfl (by kernel_rfl) (by kernel_rfl) (by kernel_rfl) (fun _ _ _ h => h) (yields_mid (by rfl) 22 _ (by rfl) gR 2 (by rfl) ZZ _ (fun W h => h.2.2.2.2) Tryd.underlying22 (by rfl) iZ.out) hHeld ?_
          (try simp only [Act.put, List.setIfInBounds_toArray, List.set_cons_zero, List.set_cons_succ])
          refine wpAnyH_ready (rs := [24]) (by kernel_rfl) (by simp) ?_
          refine AllReadyH.cons (o := ⟨some 206, _, _, _, _, _⟩) rfl (fun K hK => ?_) (AllReadyH.nil)
          go_simp
          refine (CCt.out _ bz2).mono ?_
          rintro e W' ⟨rfl, bc⟩
          have bz3 := Below.then_ bz2 bc
          have hS2 := HK.out W' bz3
          clear hHeld
          refine hK.out _ _ ?_ (fun hHeld => ?_)
          · exact hS2
          clear hK K
          (try simp only [Act.put, List.setIfInBounds_toArray, List.set_cons_zero, List.set_cons_succ])
          clear hS2
          refine wpAnyH_take (i := 29) (oi := ⟨some 211, _, _, _, _, _⟩) (v := _) rfl (by kernel_rfl) (by kernel_rfl) (by kernel_rfl) (fun _ _ _ h => h) (yields_eq (by rfl) .eql 22 _ _ _ (by rfl) ZZ ZZ (by rfl) (by rfl) guard4 (.bool true) HEQ.out) hHeld ?_
          (try simp only [Act.put, List.setIfInBounds_toArray, List.set_cons_zero, List.set_cons_succ])
          refine wpAnyH_take (i := 30) (oi := ⟨some 212, _, _, _, _, _⟩) (v := ?_) rfl (by kernel_rfl) (by kernel_rfl) (by kernel_rfl) (fun _ _ _ h => h) (Or.inl ⟨by rfl, ?_⟩) hHeld ?_
          rotate_left
          · intro W hSW; obtain ⟨hSW0, hSW1, hSW2, hSW3, hSW4⟩ := hSW; go_simp; first | done | with_reducible rfl
          (try simp only [Act.put, List.setIfInBounds_toArray, List.set_cons_zero, List.set_cons_succ])
          refine wpAnyH_take (i := 31) (oi := ⟨some 213, _, _, _, _, _⟩) (v := ?_) rfl (by kernel_rfl) (by kernel_rfl) (by kernel_rfl) (fun _ _ _ h => h) (Or.inl ⟨by rfl, ?_⟩) hHeld ?_
          rotate_left
          · intro W hSW; obtain ⟨hSW0, hSW1, hSW2, hSW3, hSW4⟩ := hSW; go_simp; first | done | with_reducible rfl
          (try simp only [Act.put, List.setIfInBounds_toArray, List.set_cons_zero, List.set_cons_succ])
          refine wpAnyH_take (i := 32) (oi := ⟨some 214, _, _, _, _, _⟩) (v := ?_) rfl (by kernel_rfl) (by kernel_rfl) (by kernel_rfl) (fun _ _ _ h => h) (Or.inl ⟨by rfl, ?_⟩) hHeld ?_
          rotate_left
          · intro W hSW; obtain ⟨hSW0, hSW1, hSW2, hSW3, hSW4⟩ := hSW; go_simp; first | done | with_reducible rfl
          (try simp only [Act.put, List.setIfInBounds_toArray, List.set_cons_zero, List.set_cons_succ])
          refine wpAnyH_take (i := 34) (oi := ⟨some 216, _, _, _, _, _⟩) (v := ?_) rfl (by kernel_rfl) (by kernel_rfl) (by kernel_rfl) (fun _ _ _ h => h) (Or.inl ⟨by rfl, ?_⟩) hHeld ?_
          rotate_left
          · intro W hSW; obtain ⟨hSW0, hSW1, hSW2, hSW3, hSW4⟩ := hSW; go_simp; first | done | with_reducible rfl
          (try simp only [Act.put, List.setIfInBounds_toArray, List.set_cons_zero, List.set_cons_succ])
          refine wpAnyH_ready (rs := [33]) (by kernel_rfl) (by simp) ?_
          refine AllReadyH.cons (o := ⟨some 215, _, _, _, _, _⟩) rfl (fun K hK => ?_) (AllReadyH.nil)
          go_simp
          refine (CBi.out _ bz3).mono ?_
          rintro e W' ⟨rfl, rfl⟩
          have hS2 := HK.out _ bz3
          clear hHeld
          refine hK.out _ _ ?_ (fun hHeld => ?_)
          · exact hS2
          clear hK K
          (try simp only [Act.put, List.setIfInBounds_toArray, List.set_cons_zero, List.set_cons_succ])
          clear hS2
          refine wpAnyH_take (i := 35) (oi := ⟨some 217, _, _, _, _, _⟩) (v := ?_) rfl (by kernel_rfl) (by kernel_rfl) (by kernel_rfl) (fun _ _ _ h => h) (Or.inl ⟨by rfl, ?_⟩) hHeld ?_
          rotate_left
          · intro W hSW; obtain ⟨hSW0, hSW1, hSW2, hSW3, hSW4⟩ := hSW; go_simp; first | done | with_reducible rfl
          (try simp only [Act.put, List.setIfInBounds_toArray, List.set_cons_zero, List.set_cons_succ])
          refine wpAnyH_take (i := 36) (oi := ⟨some 218, _, _, _, _, _⟩) (v := ?_) rfl (by kernel_rfl) (by kernel_rfl) (by kernel_rfl) (fun _ _ _ h => h) (Or.inl ⟨by rfl, ?_⟩) hHeld ?_
          rotate_left
          · intro W hSW; obtain ⟨hSW0, hSW1, hSW2, hSW3, hSW4⟩ := hSW; go_simp; first | done | with_reducible rfl
          (try simp only [Act.put, List.setIfInBounds_toArray, List.set_cons_zero, List.set_cons_succ])
          refine wpAnyH_take (i := 37) (oi := ⟨some 6, _, _, _, _, _⟩) (v := ?_) rfl (by kernel_rfl) (by kernel_rfl) (by kernel_rfl) (fun _ _ _ h => h) (Or.inl ⟨by rfl, ?_⟩) hHeld ?_
          rotate_left
          · intro W hSW; obtain ⟨hSW0, hSW1, hSW2, hSW3, hSW4⟩ := hSW; go_simp; first | done | with_reducible rfl
          (try simp only [Act.put, List.setIfInBounds_toArray, List.set_cons_zero, List.set_cons_succ])
          refine wpAnyH_done (by kernel_rfl) ?_ _
          refine NoPanic.normal ?_
          clear hHeld
          go_wp2
          go_ret
          exact ⟨rfl, HFIN.out _ bz3⟩
end Go.Proofs.YtknfpdlomgllhaaDoor
