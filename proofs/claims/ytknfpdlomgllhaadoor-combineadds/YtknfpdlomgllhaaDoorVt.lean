/-
  The reference's Decode.
-/
import Derived.Test.YtknfpdlomgllhaaDoorVs
import Derived.Test.YtknfpdlomgllhaaDoorMc
import Derived.Test.YtknfpdlomgllhaaDoorVh
namespace Go.Proofs.YtknfpdlomgllhaaDoor
open Go.RowKit
set_option maxRecDepth 100000
set_option linter.unusedVariables false
set_option linter.unusedSimpArgs false

theorem infoR14 : (Tryd.prog.info? 107).map (·.size) = some 14 := by kernel_rfl
noncomputable def ZR896 : Array Value := ((Tryd.prog.info? 108).bind (fun i => i.zero.map (fun z => z.cells))).getD #[]
theorem ZR896_eq : (Tryd.prog.info? 108).bind (fun i => i.zero.map (fun z => z.cells)) = some ZR896 := by kernel_rfl
theorem ZR896_size : ZR896.size = 896 := by kernel_rfl
theorem infoSc : ∃ i z, Tryd.prog.info? 111 = some i ∧ i.zero = some z ∧ i.size = 64 ∧ i.bytes = 512 := by
  have h : ((Tryd.prog.info? 111).map fun i => (i.zero.isSome, i.size, i.bytes)) = some (true, 64, 512) := by kernel_rfl
  cases hi : Tryd.prog.info? 111 with
  | none => rw [hi] at h; cases h
  | some i =>
    rw [hi] at h
    simp only [Option.map_some, Option.some.injEq, Prod.mk.injEq] at h
    obtain ⟨z, hz⟩ := Option.isSome_iff_exists.1 h.1
    exact ⟨i, z, rfl, hz, h.2.1, h.2.2⟩
/-- The rows from step T on. -/
def Rws (l : List Int) (n S : Nat) (bs : Array Value) (T : Nat) : Prop := bs.size = 64 * (S + 1) ∧ ∀ t, T ≤ t → t ≤ S → ∀ s, s < 64 → bs[64 * t + s]? = some (.int .i64 (rv l n (S - t) s))
theorem Rws.set {l : List Int} {n S : Nat} {bs : Array Value} {T : Nat} (h : Rws l n S bs (T + 1)) (s : Nat) (hs : s < 64) (v : Value) : Rws l n S (bs.setIfInBounds (64 * T + s) v) (T + 1) :=
  ⟨by rw [Array.size_setIfInBounds]; exact h.1, fun t h1 h2 s' hs' => by rw [Array.getElem?_setIfInBounds_ne (by omega)]; exact h.2 t h1 h2 s' hs'⟩
theorem rv_step (l : List Int) (n S t s : Nat) (hS : S = n + 6) (ht : t < S) : pt l n t (rv l n (S - (t + 1))) s 2 = rv l n (S - t) s := by
  rw [show S - t = S - (t + 1) + 1 by omega]
  show _ = pt l n (n + 6 - (S - (t + 1) + 1)) (rv l n (S - (t + 1))) s 2
  rw [show n + 6 - (S - (t + 1) + 1) = t by omega]
theorem Rws.next {l : List Int} {n S : Nat} {bs : Array Value} {T : Nat} (h : Rws l n S bs (T + 1)) (h2 : ∀ s, s < 64 → bs[64 * T + s]? = some (.int .i64 (rv l n (S - T) s))) : Rws l n S bs T :=
  ⟨h.1, fun t h3 h4 s hs => by
    by_cases e : t = T
    · subst e; exact h2 s hs
    · exact h.2 t (by omega) h4 s hs⟩
/-- What Decode gives. -/
def DecodedR (w : World) (bs : List Nat) (v : Int) (e : Ending) (w' : World) : Prop := ∃ A n c, e = .returned (.tuple #[.slice A n c, .int .i64 v]) ∧ Own w' w.heap.size 5 A n c (U8 bs) ∧ Below w.heap.size w w'

set_option maxHeartbeats 4000000 in
set_option maxRecDepth 100000 in
/-- The reference's Decode. -/
theorem refDecode (b off N n c : Nat) (l : List Int) (w : World) (hr : Rd w w.heap.size (some ⟨b, off, none⟩) N (I64 l)) (hin : ∀ z ∈ l, -31 ≤ z ∧ z ≤ 31) (hN : N = 4 * (n + 6)) (hn : n ≤ 4096) (hc : N ≤ c) (hc2 : c ≤ 9223372036854775807) :
    Calls Tryd.prog 27 #[.slice (some ⟨b, off, none⟩) N c] w (DecodedR w (Cv.rb l n 0 0) (Cv.mb l n 0 0)) := by
  have hll : l.length = 4 * (n + 6) := by rw [← hr.len64, hN]
  obtain ⟨S, hS⟩ : ∃ S, S = n + 6 := ⟨_, rfl⟩
  obtain ⟨S1, hS1⟩ : ∃ S1, S1 = S + 1 := ⟨_, rfl⟩
  have eS : (N : Int) / 4 = (S : Int) := by omega
  have e6 : (S : Int) - 6 = (n : Int) := by omega
  have eS1 : (S : Int) + 1 = (S1 : Int) := by omega
  have hSS : S < S1 := by omega
  have hSn : n < S := by omega
  have hS4 : S ≤ 4102 := by omega
  have hS15 : S1 ≤ 4103 := by omega
  have hNS : 4 * S ≤ N := by omega
  have hN2 : N ≤ 20000 := by omega
  have HS := Lib.hid hS
  have HS1 := Lib.hid hS1
  have HIN := Lib.hid hin
  have HLL := Lib.hid hll
  have HC := Lib.hid (fun s x hs hx W => stepR s x W hs hx)
  have HCG : Hid (∀ (W : World) (t p p4 s x : Nat), Rd W W.heap.size (some ⟨b, off, none⟩) N (I64 l) → p = 4 * t → p4 = p + 4 → p4 ≤ N → Calls Tryd.prog 65 #[.slice (some ⟨b, off + p, none⟩) (p4 - p) (c - p), .agg (E7 s x)] W fun e w' => e = .returned (.int .i64 (Cv.gn l t s x)) ∧ Below W.heap.size W w') := by
    intro W t p p4 s x hR hp hp4 hle
    subst hp hp4
    rw [show 4 * t + 4 - 4 * t = 4 by omega, ← sc4_gn l t s x (by rw [← hR.len64]; omega)]
    exact gainC _ _ s x (nums l t) W (rd_nums hR t (by omega)) (nums_in hin t)
  clear hS hS1 hin hll hN
  go_enter Tryd.func27, Tryd.ntmps27
  go_wp2_with (refine at_alloc rfl 108 rfl ZR896 ZR896_eq ?_; intro w1 h1)
  have q7 := h1.row
  have b1 := h1.bel
  generalize hg0 : w.heap.size = g7 at *
  have HG := Lib.hid hg0
  clear hg0 h1
  go_loopw [8] (fun i wr => ∃ k : Nat, k ≤ 64 ∧ i = .int .i64 k ∧ Below g7 w wr ∧ ∃ cs : Array Value, Blk wr g7 108 cs ∧ Hid (cs.size = 896 ∧ ∀ j, j < 14 * k → cs[j]? = EL[j]?)) (fun i _ => 64 - (intOf i).toNat)
  case atStart => exact ⟨0, by omega, rfl, b1, ZR896, q7, ZR896_size, fun j hj => by omega⟩
  case round =>
    clear q7 b1
    obtain ⟨k, hk, rfl, bel, cs, q7, HSZ⟩ := hrel
    by_cases hlt : k < 64
    · have C0 := Lib.hid (HC.out k 0 hlt (by omega))
      have C1 := Lib.hid (HC.out k 1 hlt (by omega))
      have H14 : Hid ((E7 k 0 ++ E7 k 1).all (·.oneCell') = true) := E14_one k 0 k 1
      have HI14 : Hid ((Tryd.prog.info? 107).map (·.size) = some (E7 k 0 ++ E7 k 1).size) := infoR14
      have HE : Hid (∀ j, j < 14 → EL[14 * k + j]? = (E7 k 0 ++ E7 k 1)[j]?) := fun j hj => EL_get k j hlt hj
      have HE0 := Lib.hid (E7_size k 0)
      have HE1 := Lib.hid (E7_size k 1)
      have HES : Hid ((E7 k 0 ++ E7 k 1).size = 14) := E14_size k 0 k 1
      have ia := fun W => run_idx (P := Tryd.prog) (sz := 14) Tryd.underlying108 (by kernel_rfl) g7 0 k hlt .i64 W
      simp only [Nat.zero_add] at ia
      generalize E7 k 0 = X0 at *
      generalize E7 k 1 = X1 at *
      have HFit : Hid (14 * k + (X0 ++ X1).size ≤ cs.size) := by unfold Hid; rw [HSZ.out.1, HES.out]; omega
      go_wp2_with fail
      refine (C0.out _).mono ?_
      rintro e w2 ⟨rfl, hb2⟩
      go_wp2_with fail
      refine (C1.out _).mono ?_
      rintro e w3 ⟨rfl, hb3⟩
      have q73 := (q7.after hb2).after hb3
      have b3 := Below.then_ hb2 hb3
      go_wp2_with (first | (refine at_build14 rfl _ _ rfl X0 X1 HE0.out HE1.out rfl rfl ?_) | (refine at_store_mid rfl 107 _ _ rfl g7 (14 * k) (X0 ++ X1) rfl rfl 108 cs q73 HI14.out HFit.out H14.out ?_; intro w6 ds h6 hds hget))
      go_roundw
      case rel =>
        have hsz : g7 ≤ wr.heap.size := Nat.le_of_lt q7.lt
        refine ⟨k + 1, by omega, by go_num, bel.trans ((b3.mono hsz).trans (h6.below (Nat.le_refl _))), ds, h6.row, ?_, ?_⟩
        · rw [hds]; exact HSZ.out.1
        · intro j hj
          rw [hget j, HES.out]
          by_cases h7 : 14 * k ≤ j ∧ j < 14 * k + 14
          · rw [if_pos h7]
            have := HE.out (j - 14 * k) (by omega)
            rw [show 14 * k + (j - 14 * k) = j by omega] at this
            exact this.symm
          · rw [if_neg h7]
            exact HSZ.out.2 j (by omega)
      case measure => simp [intOf] <;> omega
    · have hE : cs = EA := by
        apply Array.ext_getElem?
        intro i
        by_cases hi : i < 896
        · rw [HSZ.out.2 i (by omega)]
          unfold EA
          rw [List.getElem?_toArray]
        · rw [Array.getElem?_eq_none (by rw [HSZ.out.1]; omega), Array.getElem?_eq_none (by rw [EA_size]; omega)]
      subst hE
      clear HSZ HC
      have HEP : Hid (∀ s x, s < 64 → x ≤ 1 → ∀ i u, (E7 s x).toList[i]? = some u → EA[14 * s + 7 * x + i]? = some u) := fun s x hs hx => EA_part s x hs hx
      generalize EA = E at *
      obtain ⟨i0, z0, hi0, hz0, hz1, hz2⟩ := infoSc
      go_wp2_with (at_make; refine wpList_make_full _ rfl _ _ 110 rfl wr.heap.size 111 i0 z0 64 Tryd.underlying110 hi0 hz0 hz1 .i64 .i64 _ _ S1 rfl rfl (by first | rfl | omega) (by first | rfl | omega) (by rw [hz2]; omega) (by unfold maxLen; omega) (Nat.le_refl _) ?_; intro w5 hown5 hgrow5)
      have b5 : Below wr.heap.size wr w5 := (Below.refl _ _).grown hgrow5 (Nat.le_refl _) (fun k h => by cases h)
      obtain ⟨bs0, q9, hs9⟩ : ∃ bs0 : Array Value, Blk w5 wr.heap.size 111 bs0 ∧ bs0.size = S1 * 64 := by
        rcases hown5.2 with ⟨hv, _⟩ | ⟨g, cap, cur, hv, hbg, hg, q1, q2, q3, q4⟩
        · cases hv
        · injection hv with e1 e2 e3
          injection e1 with e1
          injection e1 with e1
          subst e1 e3
          exact ⟨cur, hg, q3⟩
      have h79 := q7.lt
      have q75 := q7.after b5
      have bel5 : Below g7 w w5 := bel.trans (b5.mono (Nat.le_of_lt h79))
      have HS9 : Hid (bs0.size = 64 * (S + 1)) := by unfold Hid; rw [hs9, HS1.out]; omega
      generalize wr.heap.size = g9 at *
      clear hown5 hgrow5 hi0 hz0 hz1 hz2 hs9 q7 b5 bel hk hlt
      have ixS := fun W => run_idxR (P := Tryd.prog) (sz := 64) Tryd.underlying110 (by kernel_rfl) g9 0 S1 S1 S hSS .i64 W
      simp only [Nat.zero_add] at ixS
      go_loopw [10] (fun i wr => ∃ k : Nat, k ≤ 64 ∧ i = .int .i64 k ∧ Blk wr g7 108 E ∧ Below g7 w wr ∧ ∃ bs : Array Value, Blk wr g9 111 bs ∧ Hid (bs.size = 64 * (S + 1) ∧ ∀ s, s < k → bs[64 * S + s]? = some (.int .i64 (-1099511627776)))) (fun i _ => 64 - (intOf i).toNat)
      case atStart => exact ⟨0, by omega, rfl, q75, bel5, bs0, q9, HS9.out, fun j hj => by omega⟩
      case round =>
        clear q75 bel5 q9 HS9
        obtain ⟨k, hk, rfl, q7, bel, bs, q9, HBS⟩ := hrel
        have hbz : 64 * S + 64 ≤ bs.size := by rw [HBS.out.1]; omega
        by_cases hlt : k < 64
        · have ixk := fun W => run_idx (P := Tryd.prog) (sz := 1) Tryd.underlying111 (by kernel_rfl) g9 (64 * S) k hlt .i64 W
          simp only [Nat.one_mul] at ixk
          go_wp2_with (refine at_cell rfl 3 _ _ rfl g9 (64 * S + k) (.int .i64 (-1099511627776)) rfl rfl 111 bs q9 (by omega) info3one rfl ?_; intro w6 h6)
          go_roundw
          case rel =>
            refine ⟨k + 1, by omega, by go_num, h6.blk q7 (by omega), bel.trans (h6.below (by omega)), _, h6.row, ?_, ?_⟩
            · rw [Array.size_setIfInBounds]; exact HBS.out.1
            · intro s hs
              by_cases hsk : s = k
              · subst hsk
                rw [Array.getElem?_setIfInBounds_self_of_lt (by omega)]
              · rw [Array.getElem?_setIfInBounds_ne (by omega)]
                exact HBS.out.2 s (by omega)
          case measure => simp [intOf] <;> omega
        · have ixk := fun W => run_idx (P := Tryd.prog) (sz := 1) Tryd.underlying111 (by kernel_rfl) g9 (64 * S) 0 (by omega) .i64 W
          have e0 : ((0 : Nat) : Int) = 0 := rfl
          simp only [Nat.mul_zero, Nat.add_zero, e0] at ixk
          clear e0
          go_wp2_with (refine at_cell rfl 3 _ _ rfl g9 (64 * S) (.int .i64 0) rfl rfl 111 bs q9 (by omega) info3one rfl ?_; intro w6 h6)
          have HR : Hid (Rws l n S (bs.setIfInBounds (64 * S) (.int .i64 0)) S) := by
            refine ⟨by rw [Array.size_setIfInBounds]; exact HBS.out.1, fun t h1 h2 s hs => ?_⟩
            obtain rfl : t = S := by omega
            rw [Nat.sub_self]
            by_cases h0 : s = 0
            · subst h0
              rw [Nat.add_zero, Array.getElem?_setIfInBounds_self_of_lt (by omega)]
              rfl
            · rw [Array.getElem?_setIfInBounds_ne (by omega), HBS.out.2 s (by omega)]
              unfold rv
              rw [if_neg h0]
          have q76 := h6.blk q7 (by omega)
          have q96 := h6.row
          have bel6 := bel.trans (h6.below (by omega))
          generalize bs.setIfInBounds (64 * S) (.int .i64 0) = bs1 at *
          clear ixS ixk hbz HBS q7 q9 bel h6 hlt hk
          go_wp2
          go_loopw [11] (fun i wr => ∃ m : Nat, m ≤ S ∧ i = .int .i64 ((S : Int) - 1 - (m : Int)) ∧ Blk wr g7 108 E ∧ Below g7 w wr ∧ ∃ bs : Array Value, Blk wr g9 111 bs ∧ Hid (Rws l n S bs (S - m))) (fun i _ => (intOf i + 1).toNat)
          case atStart => exact ⟨0, by omega, by simp, q76, bel6, bs1, q96, HR.out⟩
          case round =>
            clear q76 bel6 q96 HR
            obtain ⟨m, hm, rfl, q7, bel, bs, q9, HBS⟩ := hrel
            by_cases hlt : m < S
            · obtain ⟨t, ht⟩ : ∃ t, S - 1 - m = t := ⟨_, rfl⟩
              have et : (S : Int) - 1 - (m : Int) = (t : Int) := by omega
              rw [et]
              have HT : Hid (S - m = t + 1 ∧ S - (m + 1) = t) := ⟨by omega, by omega⟩
              have htS : t < S := by omega
              have d0 : decide ((0 : Int) ≤ (t : Int)) = true := by simp
              have HMM : Hid ((t : Int) = (S : Int) - 1 - (m : Int)) := et.symm
              rw [HT.out.1] at HBS
              obtain ⟨t1, ht1⟩ : ∃ t1, t1 = t + 1 := ⟨_, rfl⟩
              have HT1 := Lib.hid ht1
              have ht1S : t1 < S1 := by have := HS1.out; omega
              have htS1 : t < S1 := by omega
              obtain ⟨p, hp⟩ : ∃ p, p = 4 * t := ⟨_, rfl⟩
              obtain ⟨p4, hp4⟩ : ∃ p4, p4 = p + 4 := ⟨_, rfl⟩
              have HPP := Lib.hid hp
              have HP4 := Lib.hid hp4
              have hp4N : p4 ≤ N := by omega
              have hpp4 : p ≤ p4 := by omega
              clear et ht ht1 hp hp4
              go_wp2
              go_loopw [12] (fun i wr => ∃ s : Nat, s ≤ 64 ∧ i = .int .i64 s ∧ Blk wr g7 108 E ∧ Below g7 w wr ∧ ∃ bs : Array Value, Blk wr g9 111 bs ∧ Hid (Rws l n S bs (t + 1) ∧ ∀ s', s' < s → bs[64 * t + s']? = some (.int .i64 (rv l n (S - t) s')))) (fun i _ => 64 - (intOf i).toNat)
              case atStart => exact ⟨0, by omega, rfl, q7, bel, bs, q9, HBS.out, fun s' h => by omega⟩
              case round =>
                clear q7 bel q9 HBS
                obtain ⟨s, hs, rfl, q7, bel, bs, q9, HBS⟩ := hrel
                by_cases hlt2 : s < 64
                · have hbz : 64 * t + s < bs.size := by rw [HBS.out.1.1]; omega
                  have ixt := fun W => run_idxR (P := Tryd.prog) (sz := 64) Tryd.underlying110 (by kernel_rfl) g9 0 S1 S1 t htS1 .i64 W
                  have ixs := fun W => run_idx (P := Tryd.prog) (sz := 1) Tryd.underlying111 (by kernel_rfl) g9 (64 * t) s hlt2 .i64 W
                  simp only [Nat.zero_add, Nat.one_mul] at ixt ixs
                  go_wp2_with (refine at_cell rfl 3 _ _ rfl g9 (64 * t + s) (.int .i64 (-1099511627776)) rfl rfl 111 bs q9 hbz info3one rfl ?_; intro w6 h6)
                  have HR6 : Hid (Rws l n S (bs.setIfInBounds (64 * t + s) (.int .i64 (-1099511627776))) (t + 1) ∧ (∀ s', s' < s → (bs.setIfInBounds (64 * t + s) (.int .i64 (-1099511627776)))[64 * t + s']? = some (.int .i64 (rv l n (S - t) s'))) ∧ (bs.setIfInBounds (64 * t + s) (.int .i64 (-1099511627776)))[64 * t + s]? = some (.int .i64 (pt l n t (rv l n (S - (t + 1))) s 0))) := by
                    refine ⟨HBS.out.1.set s hlt2 _, fun s' hs' => ?_, ?_⟩
                    · rw [Array.getElem?_setIfInBounds_ne (by omega)]; exact HBS.out.2 s' hs'
                    · rw [Array.getElem?_setIfInBounds_self_of_lt hbz]; rfl
                  have q76 := h6.blk q7 (by omega)
                  have q96 := h6.row
                  have bel6 := bel.trans (h6.below (by omega))
                  generalize bs.setIfInBounds (64 * t + s) (.int .i64 (-1099511627776)) = bs1 at *
                  clear hbz HBS q7 q9 bel h6
                  go_loopw [13] (fun i wr => ∃ x : Nat, x ≤ 2 ∧ i = .int .i64 x ∧ Blk wr g7 108 E ∧ Below g7 w wr ∧ ∃ bs : Array Value, Blk wr g9 111 bs ∧ Hid (Rws l n S bs (t + 1) ∧ (∀ s', s' < s → bs[64 * t + s']? = some (.int .i64 (rv l n (S - t) s'))) ∧ bs[64 * t + s]? = some (.int .i64 (pt l n t (rv l n (S - (t + 1))) s x)))) (fun i _ => 2 - (intOf i).toNat)
                  case atStart => exact ⟨0, by omega, rfl, q76, bel6, bs1, q96, HR6.out⟩
                  case round =>
                    clear q76 bel6 q96 HR6
                    obtain ⟨x, hx, rfl, q7, bel, bs, q9, HBS⟩ := hrel
                    by_cases hlt3 : x < 2
                    · by_cases hskip : x = 1 ∧ n ≤ t
                      · have hx1 : ((x : Int) == 1) = true := by rw [hskip.1]; rfl
                        have hx2 : decide ((n : Int) ≤ (t : Int)) = true := by simp; exact hskip.2
                        have hx3 : decide (n ≤ t) = true := by simp; exact hskip.2
                        have HPT : Hid (pt l n t (rv l n (S - (t + 1))) s (x + 1) = pt l n t (rv l n (S - (t + 1))) s x) := by
                          show (if x = 1 ∧ n ≤ t then _ else _) = _
                          rw [if_pos hskip]
                        clear hskip
                        go_wp2
                        go_roundw
                        case rel => exact ⟨x + 1, by omega, by go_num, q7, bel, bs, q9, by rw [HPT.out]; exact HBS.out⟩
                        case measure => simp [intOf] <;> omega
                      · have hxle : x ≤ 1 := by omega
                        have hsx : s < 64 := hlt2
                        have hnx := Cv.nx_lt s x hsx hxle
                        have HPT : Hid (pt l n t (rv l n (S - (t + 1))) s (x + 1) = if -549755813888 < rv l n (S - (t + 1)) (Cv.nx s x) then max (pt l n t (rv l n (S - (t + 1))) s x) (Cv.gn l t s x + rv l n (S - (t + 1)) (Cv.nx s x)) else pt l n t (rv l n (S - (t + 1))) s x) := by
                          show (if x = 1 ∧ n ≤ t then _ else _) = _
                          rw [if_neg hskip]
                        have hV := rv_in HIN.out n (S - (t + 1)) (Cv.nx s x)
                        have hV2 : rv l n (S - (t + 1)) (Cv.nx s x) ≤ 600000 := by omega
                        have hP := pt_in HIN.out n t (rv l n (S - (t + 1))) 600000 (by omega) (fun r => by have := rv_in HIN.out n (S - (t + 1)) r; omega) s x
                        have hG := gn_in HIN.out t s x
                        have hrange : wr.rangeAt g7 (14 * s + 7 * x) (E7 s x).toList := q7.range _ _ (HEP.out s x hsx hxle)
                        have iX : Hid ((Tryd.prog.info? 106).map (·.size) = some (E7 s x).size) := infoR7
                        have oX := Lib.hid (E7_one s x)
                        have zX : Hid ((C7 0 0 0 0 0 0 0).size = (E7 s x).size) := rfl
                        have HCX : Hid (∀ W g, Blk W g 106 (E7 s x) → W.cell? ⟨g, 1, none⟩ = some (.int .i64 (Cv.nx s x : Nat))) := fun W g h => h.cell 1
                        have hcV : wr.cell? ⟨g9, 64 * t1 + Cv.nx s x, none⟩ = some (.int .i64 (rv l n (S - (t + 1)) (Cv.nx s x))) := by
                          rw [HT1.out]
                          exact (q9.cell _).trans (HBS.out.1.2 (t + 1) (Nat.le_refl _) (by omega) _ hnx)
                        have hcP : wr.cell? ⟨g9, 64 * t + s, none⟩ = some (.int .i64 (pt l n t (rv l n (S - (t + 1))) s x)) := (q9.cell _).trans HBS.out.2.2
                        have CG := Lib.hid (fun W hR => HCG.out W t p p4 s x hR HPP.out HP4.out hp4N)
                        have ia := fun W => run_idx (P := Tryd.prog) (sz := 14) Tryd.underlying108 (by kernel_rfl) g7 0 s hsx .i64 W
                        have ib := fun W => run_idx (P := Tryd.prog) (sz := 7) Tryd.underlying107 (by kernel_rfl) g7 (0 + 14 * s) x hlt3 .i64 W
                        have ic := fun W => run_idxR (P := Tryd.prog) (sz := 64) Tryd.underlying110 (by kernel_rfl) g9 0 S1 S1 t1 ht1S .i64 W
                        have id := fun W => run_idx (P := Tryd.prog) (sz := 1) Tryd.underlying111 (by kernel_rfl) g9 (0 + 64 * t1) (Cv.nx s x) hnx .i64 W
                        simp only [Nat.zero_add, Nat.one_mul] at ia ib ic id
                        have f1 : (t : Int) + 1 = (t1 : Int) := by have := HT1.out; omega
                        have f1w : IntKind.i64.wrap ((t : Int) + 1) = (t1 : Int) := by rw [IntWalk.i64_in _ (by omega)]; exact f1
                        have f1x : IntKind.i64.wrap (t1 : Int) = (t1 : Int) := IntWalk.i64_in _ (by omega)
                        have f2 : (-1099511627776 : Int).tdiv 2 = -549755813888 := by decide
                        have f2' : (-1099511627776 : Int) / 2 = -549755813888 := by decide
                        have f2w : IntKind.i64.wrap (-549755813888) = -549755813888 := by decide
                        have hq9 := q9.lt
                        have hbz : 64 * t + s < bs.size := by rw [HBS.out.1.1]; omega
                        have HSET : Hid (∀ v : Int, Rws l n S (bs.setIfInBounds (64 * t + s) (.int .i64 v)) (t + 1) ∧ (∀ s', s' < s → (bs.setIfInBounds (64 * t + s) (.int .i64 v))[64 * t + s']? = some (.int .i64 (rv l n (S - t) s'))) ∧ (bs.setIfInBounds (64 * t + s) (.int .i64 v))[64 * t + s]? = some (.int .i64 v)) := fun v => by
                          refine ⟨HBS.out.1.set s hsx _, fun s' hs' => ?_, ?_⟩
                          · rw [Array.getElem?_setIfInBounds_ne (by omega)]; exact HBS.out.2.1 s' hs'
                          · rw [Array.getElem?_setIfInBounds_self_of_lt hbz]
                        have hne : 64 * t1 + Cv.nx s x ≠ 64 * t + s := by have := HT1.out; omega
                        generalize rv l n (S - (t + 1)) (Cv.nx s x) = V at *
                        generalize hPx : pt l n t (rv l n (S - (t + 1))) s x = Px at *
                        generalize Cv.gn l t s x = G at *
                        generalize E7 s x = EX at *
                        generalize Cv.nx s x = r at *
                        have HPX := Lib.hid hPx
                        clear hPx
                        obtain ⟨hV0, hV1⟩ := hV
                        obtain ⟨hP0, hP1⟩ := hP
                        obtain ⟨hG0, hG1⟩ := hG
                        have hRr := (hr.below bel).up (B' := wr.heap.size) (Nat.le_of_lt q7.lt)
                        have hcase : ((x : Int) == 1) = false ∨ (((x : Int) == 1) = true ∧ decide ((n : Int) ≤ (t : Int)) = false ∧ decide (n ≤ t) = false) := by
                          by_cases h1 : x = 1
                          · exact .inr ⟨by rw [h1]; rfl, by simp; omega, by simp; omega⟩
                          · exact .inl (by simp; omega)
                        clear hskip
                        rcases hcase with hxa | ⟨hxa, hxb, hxc⟩
                        · go_wp2_with (first | (refine at_load_mid rfl 106 _ rfl g7 (14 * s + 7 * x) rfl EX _ hrange Tryd.underlying106 rfl iX.out ?_) | (refine at_alloc rfl 106 rfl (C7 0 0 0 0 0 0 0) ZR7_eq ?_; intro w5 h5) | (refine at_store rfl 106 _ _ rfl wr.heap.size EX rfl rfl 106 (C7 0 0 0 0 0 0 0) h5.row iX.out zX.out oX.out ?_; intro w6 h6))
                          have b6 := h5.bel.trans (h6.below (Nat.le_refl _))
                          have c1 := HCX.out w6 _ h6.row
                          have q14 := h6.row
                          have q76 := q7.after b6
                          have q96 := q9.after b6
                          have cV6 : w6.cell? ⟨g9, 64 * t1 + r, none⟩ = some (.int .i64 V) := (b6.cell (p := ⟨g9, 64 * t1 + r, none⟩) hq9).trans hcV
                          have cP6 : w6.cell? ⟨g9, 64 * t + s, none⟩ = some (.int .i64 Px) := (b6.cell (p := ⟨g9, 64 * t + s, none⟩) hq9).trans hcP
                          have hR6 := (hRr.below b6).up b6.size
                          have bel6 : Below g7 w w6 := bel.trans (b6.mono (Nat.le_of_lt q7.lt))
                          have h914 : g9 < wr.heap.size := hq9
                          have h7r : g7 < wr.heap.size := q7.lt
                          generalize wr.heap.size = g14 at *
                          clear h5 h6 b6 hrange hcV hcP hRr q7 q9 bel
                          by_cases hVV : -549755813888 < V
                          · have dV : decide (-549755813888 < V) = true := by simp; exact hVV
                            go_wp2_with fail
                            refine wp_region_noPanic ?_
                            refine wp_region_held_drew (S := fun W => W.cell? ⟨g14, 1, none⟩ = some (.int .i64 (r : Int)) ∧ W.cell? ⟨g9, 64 * t1 + r, none⟩ = some (.int .i64 V)) (by kernel_rfl) ⟨c1, cV6⟩ (fun hHeld => ?_)
                            refine wpAnyH_take (i := 0) (oi := ⟨some 84, _, _, _, _, _⟩) (v := ?_) rfl (by kernel_rfl) (by kernel_rfl) (by kernel_rfl) (fun _ _ _ h => h) (Or.inl ⟨by rfl, ?_⟩) hHeld ?_
                            rotate_left
                            · intro W hSW; obtain ⟨hSW0, hSW1⟩ := hSW; go_simp; first | done | with_reducible rfl
                            (try simp only [Act.put, List.setIfInBounds_toArray, List.set_cons_zero, List.set_cons_succ])
                            refine wpAnyH_take (i := 1) (oi := ⟨some 85, _, _, _, _, _⟩) (v := ?_) rfl (by kernel_rfl) (by kernel_rfl) (by kernel_rfl) (fun _ _ _ h => h) (Or.inl ⟨by rfl, ?_⟩) hHeld ?_
                            rotate_left
                            · intro W hSW; obtain ⟨hSW0, hSW1⟩ := hSW; go_simp; first | done | with_reducible rfl
                            (try simp only [Act.put, List.setIfInBounds_toArray, List.set_cons_zero, List.set_cons_succ])
                            refine wpAnyH_take (i := 2) (oi := ⟨some 86, _, _, _, _, _⟩) (v := ?_) rfl (by kernel_rfl) (by kernel_rfl) (by kernel_rfl) (fun _ _ _ h => h) (Or.inl ⟨by rfl, ?_⟩) hHeld ?_
                            rotate_left
                            · intro W hSW; obtain ⟨hSW0, hSW1⟩ := hSW; go_simp; first | done | with_reducible rfl
                            (try simp only [Act.put, List.setIfInBounds_toArray, List.set_cons_zero, List.set_cons_succ])
                            refine wpAnyH_take (i := 3) (oi := ⟨some 87, _, _, _, _, _⟩) (v := ?_) rfl (by kernel_rfl) (by kernel_rfl) (by kernel_rfl) (fun _ _ _ h => h) (Or.inl ⟨by rfl, ?_⟩) hHeld ?_
                            rotate_left
                            · intro W hSW; obtain ⟨hSW0, hSW1⟩ := hSW; go_simp; first | done | with_reducible rfl
                            (try simp only [Act.put, List.setIfInBounds_toArray, List.set_cons_zero, List.set_cons_succ])
                            refine wpAnyH_take (i := 4) (oi := ⟨some 88, _, _, _, _, _⟩) (v := ?_) rfl (by kernel_rfl) (by kernel_rfl) (by kernel_rfl) (fun _ _ _ h => h) (Or.inl ⟨by rfl, ?_⟩) hHeld ?_
                            rotate_left
                            · intro W hSW; obtain ⟨hSW0, hSW1⟩ := hSW; go_simp; first | done | with_reducible rfl
                            (try simp only [Act.put, List.setIfInBounds_toArray, List.set_cons_zero, List.set_cons_succ])
                            refine wpAnyH_take (i := 5) (oi := ⟨some 89, _, _, _, _, _⟩) (v := ?_) rfl (by kernel_rfl) (by kernel_rfl) (by kernel_rfl) (fun _ _ _ h => h) (Or.inl ⟨by rfl, ?_⟩) hHeld ?_
                            rotate_left
                            · intro W hSW; obtain ⟨hSW0, hSW1⟩ := hSW; go_simp; first | done | with_reducible rfl
                            (try simp only [Act.put, List.setIfInBounds_toArray, List.set_cons_zero, List.set_cons_succ])
                            refine wpAnyH_take (i := 6) (oi := ⟨some 90, _, _, _, _, _⟩) (v := ?_) rfl (by kernel_rfl) (by kernel_rfl) (by kernel_rfl) (fun _ _ _ h => h) (Or.inl ⟨by rfl, ?_⟩) hHeld ?_
                            rotate_left
                            · intro W hSW; obtain ⟨hSW0, hSW1⟩ := hSW; go_simp; first | done | with_reducible rfl
                            (try simp only [Act.put, List.setIfInBounds_toArray, List.set_cons_zero, List.set_cons_succ])
                            refine wpAnyH_take (i := 7) (oi := ⟨some 91, _, _, _, _, _⟩) (v := ?_) rfl (by kernel_rfl) (by kernel_rfl) (by kernel_rfl) (fun _ _ _ h => h) (Or.inl ⟨by rfl, ?_⟩) hHeld ?_
                            rotate_left
                            · intro W hSW; obtain ⟨hSW0, hSW1⟩ := hSW; go_simp; first | done | with_reducible rfl
                            (try simp only [Act.put, List.setIfInBounds_toArray, List.set_cons_zero, List.set_cons_succ])
                            refine wpAnyH_take (i := 8) (oi := ⟨some 92, _, _, _, _, _⟩) (v := ?_) rfl (by kernel_rfl) (by kernel_rfl) (by kernel_rfl) (fun _ _ _ h => h) (Or.inl ⟨by rfl, ?_⟩) hHeld ?_
                            rotate_left
                            · intro W hSW; obtain ⟨hSW0, hSW1⟩ := hSW; go_simp; first | done | with_reducible rfl
                            (try simp only [Act.put, List.setIfInBounds_toArray, List.set_cons_zero, List.set_cons_succ])
                            refine wpAnyH_take (i := 9) (oi := ⟨some 93, _, _, _, _, _⟩) (v := ?_) rfl (by kernel_rfl) (by kernel_rfl) (by kernel_rfl) (fun _ _ _ h => h) (Or.inl ⟨by rfl, ?_⟩) hHeld ?_
                            rotate_left
                            · intro W hSW; obtain ⟨hSW0, hSW1⟩ := hSW; go_simp; first | done | with_reducible rfl
                            (try simp only [Act.put, List.setIfInBounds_toArray, List.set_cons_zero, List.set_cons_succ])
                            refine wpAnyH_take (i := 10) (oi := ⟨some 94, _, _, _, _, _⟩) (v := ?_) rfl (by kernel_rfl) (by kernel_rfl) (by kernel_rfl) (fun _ _ _ h => h) (Or.inl ⟨by rfl, ?_⟩) hHeld ?_
                            rotate_left
                            · intro W hSW; obtain ⟨hSW0, hSW1⟩ := hSW; go_simp; first | done | with_reducible rfl
                            (try simp only [Act.put, List.setIfInBounds_toArray, List.set_cons_zero, List.set_cons_succ])
                            refine wpAnyH_done (by kernel_rfl) ?_ _
                            refine NoPanic.normal ?_
                            clear hHeld
                            have ix := fun W => run_idxR (P := Tryd.prog) (sz := 64) Tryd.underlying110 (by kernel_rfl) g9 0 S1 S1 t htS1 .i64 W
                            have iy := fun W => run_idx (P := Tryd.prog) (sz := 1) Tryd.underlying111 (by kernel_rfl) g9 (0 + 64 * t) s hsx .i64 W
                            simp only [Nat.zero_add, Nat.one_mul] at ix iy
                            have g1 : 4 * (t : Int) = (p : Int) := by have := HPP.out; omega
                            have g1w : IntKind.i64.wrap (4 * (t : Int)) = (p : Int) := by rw [IntWalk.i64_in _ (by omega)]; exact g1
                            have g1x : IntKind.i64.wrap (p : Int) = (p : Int) := IntWalk.i64_in _ (by omega)
                            have g2 : (p : Int) + 4 = (p4 : Int) := by have := HP4.out; omega
                            have g2w : IntKind.i64.wrap ((p : Int) + 4) = (p4 : Int) := by rw [IntWalk.i64_in _ (by omega)]; exact g2
                            have g2x : IntKind.i64.wrap (p4 : Int) = (p4 : Int) := IntWalk.i64_in _ (by omega)
                            have g3 : IntKind.i64.wrap (G + V) = G + V := IntWalk.i64_in _ (by omega)
                            have hp4c : p4 ≤ c := by omega
                            have hcp : ¬ c = p := by have := HP4.out; omega
                            obtain ⟨MX, hMX⟩ : ∃ MX : Int, MX = max Px (G + V) := ⟨_, rfl⟩
                            have HMX := Lib.hid hMX
                            have mx1 : (if Px < G + V then G + V else Px) = MX := by rw [hMX]; split <;> omega
                            have mx2 : max Px (G + V) = MX := hMX.symm
                            clear hMX
                            have a_0 := q14.drew.drew
                            have c_0 : w6.drew.drew.cell? ⟨g9, 64 * t1 + r, none⟩ = some (.int .i64 V) := cV6
                            have q9_0 := q96.drew.drew
                            have q7_0 := q76.drew.drew
                            have bl_0 := bel6.drew.drew
                            have r_0 : Rd w6.drew.drew w6.drew.drew.heap.size (some ⟨b, off, none⟩) N (I64 l) := (hR6.below (Below.refl _ _).drew.drew).up (Nat.le_refl _)
                            have e_0 : w6.drew.drew.cell? ⟨g14, 1, none⟩ = some (.int .i64 (r : Int)) := c1
                            go_wp2_with fail
                            refine wp_region_noPanic ?_
                            refine wp_region_held_drew (S := fun W => Blk W g14 106 EX ∧ W.cell? ⟨g9, 64 * t1 + r, none⟩ = some (.int .i64 V) ∧ W.cell? ⟨g14, 1, none⟩ = some (.int .i64 (r : Int))) (by kernel_rfl) ⟨q14, cV6, c1⟩ (fun hHeld => ?_)
                            refine wpAnyH_take (i := 0) (oi := ⟨some 95, _, _, _, _, _⟩) (v := ?_) rfl (by kernel_rfl) (by kernel_rfl) (by kernel_rfl) (fun _ _ _ h => h) (Or.inl ⟨by rfl, ?_⟩) hHeld ?_
                            rotate_left
                            · intro W hSW; obtain ⟨hSW0, hSW1, hSW2⟩ := hSW; go_simp; first | done | with_reducible rfl
                            (try simp only [Act.put, List.setIfInBounds_toArray, List.set_cons_zero, List.set_cons_succ])
                            refine wpAnyH_take (i := 1) (oi := ⟨some 96, _, _, _, _, _⟩) (v := ?_) rfl (by kernel_rfl) (by kernel_rfl) (by kernel_rfl) (fun _ _ _ h => h) (Or.inl ⟨by rfl, ?_⟩) hHeld ?_
                            rotate_left
                            · intro W hSW; obtain ⟨hSW0, hSW1, hSW2⟩ := hSW; go_simp; first | done | with_reducible rfl
                            (try simp only [Act.put, List.setIfInBounds_toArray, List.set_cons_zero, List.set_cons_succ])
                            refine wpAnyH_take (i := 2) (oi := ⟨some 97, _, _, _, _, _⟩) (v := ?_) rfl (by kernel_rfl) (by kernel_rfl) (by kernel_rfl) (fun _ _ _ h => h) (Or.inl ⟨by rfl, ?_⟩) hHeld ?_
                            rotate_left
                            · intro W hSW; obtain ⟨hSW0, hSW1, hSW2⟩ := hSW; go_simp; first | done | with_reducible rfl
                            (try simp only [Act.put, List.setIfInBounds_toArray, List.set_cons_zero, List.set_cons_succ])
                            refine wpAnyH_take (i := 3) (oi := ⟨some 98, _, _, _, _, _⟩) (v := ?_) rfl (by kernel_rfl) (by kernel_rfl) (by kernel_rfl) (fun _ _ _ h => h) (Or.inl ⟨by rfl, ?_⟩) hHeld ?_
                            rotate_left
                            · intro W hSW; obtain ⟨hSW0, hSW1, hSW2⟩ := hSW; go_simp; first | done | with_reducible rfl
                            (try simp only [Act.put, List.setIfInBounds_toArray, List.set_cons_zero, List.set_cons_succ])
                            refine wpAnyH_take (i := 4) (oi := ⟨some 99, _, _, _, _, _⟩) (v := ?_) rfl (by kernel_rfl) (by kernel_rfl) (by kernel_rfl) (fun _ _ _ h => h) (Or.inl ⟨by rfl, ?_⟩) hHeld ?_
                            rotate_left
                            · intro W hSW; obtain ⟨hSW0, hSW1, hSW2⟩ := hSW; go_simp; first | done | with_reducible rfl
                            (try simp only [Act.put, List.setIfInBounds_toArray, List.set_cons_zero, List.set_cons_succ])
                            refine wpAnyH_take (i := 5) (oi := ⟨some 100, _, _, _, _, _⟩) (v := ?_) rfl (by kernel_rfl) (by kernel_rfl) (by kernel_rfl) (fun _ _ _ h => h) (Or.inl ⟨by rfl, ?_⟩) hHeld ?_
                            rotate_left
                            · intro W hSW; obtain ⟨hSW0, hSW1, hSW2⟩ := hSW; go_simp; first | done | with_reducible rfl
                            (try simp only [Act.put, List.setIfInBounds_toArray, List.set_cons_zero, List.set_cons_succ])
                            refine wpAnyH_take (i := 6) (oi := ⟨some 101, _, _, _, _, _⟩) (v := ?_) rfl (by kernel_rfl) (by kernel_rfl) (by kernel_rfl) (fun _ _ _ h => h) (Or.inl ⟨by rfl, ?_⟩) hHeld ?_
                            rotate_left
                            · intro W hSW; obtain ⟨hSW0, hSW1, hSW2⟩ := hSW; go_simp; first | done | with_reducible rfl
                            (try simp only [Act.put, List.setIfInBounds_toArray, List.set_cons_zero, List.set_cons_succ])
                            refine wpAnyH_take (i := 7) (oi := ⟨some 102, _, _, _, _, _⟩) (v := ?_) rfl (by kernel_rfl) (by kernel_rfl) (by kernel_rfl) (fun _ _ _ h => h) (Or.inl ⟨by rfl, ?_⟩) hHeld ?_
                            rotate_left
                            · intro W hSW; obtain ⟨hSW0, hSW1, hSW2⟩ := hSW; go_simp; first | done | with_reducible rfl
                            (try simp only [Act.put, List.setIfInBounds_toArray, List.set_cons_zero, List.set_cons_succ])
                            refine wpAnyH_take (i := 9) (oi := ⟨some 104, _, _, _, _, _⟩) (v := ?_) rfl (by kernel_rfl) (by kernel_rfl) (by kernel_rfl) (fun _ _ _ h => h) (Or.inl ⟨by rfl, ?_⟩) hHeld ?_
                            rotate_left
                            · intro W hSW; obtain ⟨hSW0, hSW1, hSW2⟩ := hSW; go_simp; first | done | with_reducible rfl
                            (try simp only [Act.put, List.setIfInBounds_toArray, List.set_cons_zero, List.set_cons_succ])
                            refine wpAnyH_take (i := 10) (oi := ⟨some 105, _, _, _, _, _⟩) (v := ?_) rfl (by kernel_rfl) (by kernel_rfl) (by kernel_rfl) (fun _ _ _ h => h) (Or.inl ⟨by rfl, ?_⟩) hHeld ?_
                            rotate_left
                            · intro W hSW; obtain ⟨hSW0, hSW1, hSW2⟩ := hSW; go_simp; first | done | with_reducible rfl
                            (try simp only [Act.put, List.setIfInBounds_toArray, List.set_cons_zero, List.set_cons_succ])
                            refine wpAnyH_take (i := 11) (oi := ⟨some 106, _, _, _, _, _⟩) (v := ?_) rfl (by kernel_rfl) (by kernel_rfl) (by kernel_rfl) (fun _ _ _ h => h) (Or.inl ⟨by rfl, ?_⟩) hHeld ?_
                            rotate_left
                            · intro W hSW; obtain ⟨hSW0, hSW1, hSW2⟩ := hSW; go_simp; first | done | with_reducible rfl
                            (try simp only [Act.put, List.setIfInBounds_toArray, List.set_cons_zero, List.set_cons_succ])
                            refine wpAnyH_take (i := 12) (oi := ⟨some 107, _, _, _, _, _⟩) (v := ?_) rfl (by kernel_rfl) (by kernel_rfl) (by kernel_rfl) (fun _ _ _ h => h) (Or.inl ⟨by rfl, ?_⟩) hHeld ?_
                            rotate_left
                            · intro W hSW; obtain ⟨hSW0, hSW1, hSW2⟩ := hSW; go_simp; first | done | with_reducible rfl
                            (try simp only [Act.put, List.setIfInBounds_toArray, List.set_cons_zero, List.set_cons_succ])
                            refine wpAnyH_take (i := 13) (oi := ⟨some 108, _, _, _, _, _⟩) (v := ?_) rfl (by kernel_rfl) (by kernel_rfl) (by kernel_rfl) (fun _ _ _ h => h) (Or.inl ⟨by rfl, ?_⟩) hHeld ?_
                            rotate_left
                            · intro W hSW; obtain ⟨hSW0, hSW1, hSW2⟩ := hSW; go_simp; first | done | with_reducible rfl
                            (try simp only [Act.put, List.setIfInBounds_toArray, List.set_cons_zero, List.set_cons_succ])
                            refine wpAnyH_take (i := 14) (oi := ⟨some 109, _, _, _, _, _⟩) (v := ?_) rfl (by kernel_rfl) (by kernel_rfl) (by kernel_rfl) (fun _ _ _ h => h) (Or.inl ⟨by rfl, ?_⟩) hHeld ?_
                            rotate_left
                            · intro W hSW; obtain ⟨hSW0, hSW1, hSW2⟩ := hSW; go_simp; first | done | with_reducible rfl
                            (try simp only [Act.put, List.setIfInBounds_toArray, List.set_cons_zero, List.set_cons_succ])
                            refine wpAnyH_take (i := 15) (oi := ⟨some 110, _, _, _, _, _⟩) (v := ?_) rfl (by kernel_rfl) (by kernel_rfl) (by kernel_rfl) (fun _ _ _ h => h) (Or.inl ⟨by rfl, ?_⟩) hHeld ?_
                            rotate_left
                            · intro W hSW; obtain ⟨hSW0, hSW1, hSW2⟩ := hSW; go_simp; first | done | with_reducible rfl
                            (try simp only [Act.put, List.setIfInBounds_toArray, List.set_cons_zero, List.set_cons_succ])
                            refine wpAnyH_take (i := 16) (oi := ⟨some 111, _, _, _, _, _⟩) (v := _) rfl (by kernel_rfl) (by kernel_rfl) (by kernel_rfl) (fun _ _ _ h => h) (yields_row (by rfl) 106 _ (by rfl) g14 (by rfl) 106 EX _ (fun W h => h.1) Tryd.underlying106 rfl iX.out) hHeld ?_
                            (try simp only [Act.put, List.setIfInBounds_toArray, List.set_cons_zero, List.set_cons_succ])
                            refine wpAnyH_take (i := 18) (oi := ⟨some 113, _, _, _, _, _⟩) (v := ?_) rfl (by kernel_rfl) (by kernel_rfl) (by kernel_rfl) (fun _ _ _ h => h) (Or.inl ⟨by rfl, ?_⟩) hHeld ?_
                            rotate_left
                            · intro W hSW; obtain ⟨hSW0, hSW1, hSW2⟩ := hSW; go_simp; first | done | with_reducible rfl
                            (try simp only [Act.put, List.setIfInBounds_toArray, List.set_cons_zero, List.set_cons_succ])
                            refine wpAnyH_take (i := 19) (oi := ⟨some 114, _, _, _, _, _⟩) (v := ?_) rfl (by kernel_rfl) (by kernel_rfl) (by kernel_rfl) (fun _ _ _ h => h) (Or.inl ⟨by rfl, ?_⟩) hHeld ?_
                            rotate_left
                            · intro W hSW; obtain ⟨hSW0, hSW1, hSW2⟩ := hSW; go_simp; first | done | with_reducible rfl
                            (try simp only [Act.put, List.setIfInBounds_toArray, List.set_cons_zero, List.set_cons_succ])
                            refine wpAnyH_take (i := 20) (oi := ⟨some 115, _, _, _, _, _⟩) (v := ?_) rfl (by kernel_rfl) (by kernel_rfl) (by kernel_rfl) (fun _ _ _ h => h) (Or.inl ⟨by rfl, ?_⟩) hHeld ?_
                            rotate_left
                            · intro W hSW; obtain ⟨hSW0, hSW1, hSW2⟩ := hSW; go_simp; first | done | with_reducible rfl
                            (try simp only [Act.put, List.setIfInBounds_toArray, List.set_cons_zero, List.set_cons_succ])
                            refine wpAnyH_take (i := 21) (oi := ⟨some 116, _, _, _, _, _⟩) (v := ?_) rfl (by kernel_rfl) (by kernel_rfl) (by kernel_rfl) (fun _ _ _ h => h) (Or.inl ⟨by rfl, ?_⟩) hHeld ?_
                            rotate_left
                            · intro W hSW; obtain ⟨hSW0, hSW1, hSW2⟩ := hSW; go_simp; first | done | with_reducible rfl
                            (try simp only [Act.put, List.setIfInBounds_toArray, List.set_cons_zero, List.set_cons_succ])
                            refine wpAnyH_take (i := 22) (oi := ⟨some 117, _, _, _, _, _⟩) (v := ?_) rfl (by kernel_rfl) (by kernel_rfl) (by kernel_rfl) (fun _ _ _ h => h) (Or.inl ⟨by rfl, ?_⟩) hHeld ?_
                            rotate_left
                            · intro W hSW; obtain ⟨hSW0, hSW1, hSW2⟩ := hSW; go_simp; first | done | with_reducible rfl
                            (try simp only [Act.put, List.setIfInBounds_toArray, List.set_cons_zero, List.set_cons_succ])
                            refine wpAnyH_take (i := 23) (oi := ⟨some 118, _, _, _, _, _⟩) (v := ?_) rfl (by kernel_rfl) (by kernel_rfl) (by kernel_rfl) (fun _ _ _ h => h) (Or.inl ⟨by rfl, ?_⟩) hHeld ?_
                            rotate_left
                            · intro W hSW; obtain ⟨hSW0, hSW1, hSW2⟩ := hSW; go_simp; first | done | with_reducible rfl
                            (try simp only [Act.put, List.setIfInBounds_toArray, List.set_cons_zero, List.set_cons_succ])
                            refine wpAnyH_take (i := 24) (oi := ⟨some 119, _, _, _, _, _⟩) (v := ?_) rfl (by kernel_rfl) (by kernel_rfl) (by kernel_rfl) (fun _ _ _ h => h) (Or.inl ⟨by rfl, ?_⟩) hHeld ?_
                            rotate_left
                            · intro W hSW; obtain ⟨hSW0, hSW1, hSW2⟩ := hSW; go_simp; first | done | with_reducible rfl
                            (try simp only [Act.put, List.setIfInBounds_toArray, List.set_cons_zero, List.set_cons_succ])
                            refine wpAnyH_take (i := 25) (oi := ⟨some 120, _, _, _, _, _⟩) (v := ?_) rfl (by kernel_rfl) (by kernel_rfl) (by kernel_rfl) (fun _ _ _ h => h) (Or.inl ⟨by rfl, ?_⟩) hHeld ?_
                            rotate_left
                            · intro W hSW; obtain ⟨hSW0, hSW1, hSW2⟩ := hSW; go_simp; first | done | with_reducible rfl
                            (try simp only [Act.put, List.setIfInBounds_toArray, List.set_cons_zero, List.set_cons_succ])
                            refine wpAnyH_take (i := 28) (oi := ⟨some 123, _, _, _, _, _⟩) (v := ?_) rfl (by kernel_rfl) (by kernel_rfl) (by kernel_rfl) (fun _ _ _ h => h) (Or.inl ⟨by rfl, ?_⟩) hHeld ?_
                            rotate_left
                            · intro W hSW; obtain ⟨hSW0, hSW1, hSW2⟩ := hSW; go_simp; first | done | with_reducible rfl
                            (try simp only [Act.put, List.setIfInBounds_toArray, List.set_cons_zero, List.set_cons_succ])
                            refine wpAnyH_ready (rs := [8, 17]) (by kernel_rfl) (by simp) ?_
                            refine AllReadyH.cons (o := ⟨some 103, _, _, _, _, _⟩) rfl (fun K hK => ?_) (AllReadyH.cons (o := ⟨some 112, _, _, _, _, _⟩) rfl (fun K hK => ?_) (AllReadyH.nil))
                            · have cP_0 : w6.drew.drew.cell? ⟨g9, 64 * t + s, none⟩ = some (.int .i64 Px) := cP6
                              go_simp
                              clear hHeld
                              refine hK.out _ _ ?_ (fun hHeld => ?_)
                              · exact ⟨a_0, c_0, e_0⟩
                              clear hK K
                              (try simp only [Act.put, List.setIfInBounds_toArray, List.set_cons_zero, List.set_cons_succ])
                              refine wpAnyH_ready (rs := [17]) (by kernel_rfl) (by simp) ?_
                              refine AllReadyH.cons (o := ⟨some 112, _, _, _, _, _⟩) rfl (fun K hK => ?_) (AllReadyH.nil)
                              go_simp
                              refine (CG.out _ r_0).mono ?_
                              rintro e W2 ⟨rfl, hb_2⟩
                              have a_2 := a_0.after hb_2
                              have c_2 : W2.cell? ⟨g9, 64 * t1 + r, none⟩ = some (.int .i64 V) := (hb_2.cell (p := ⟨g9, 64 * t1 + r, none⟩) q9_0.lt).trans c_0
                              have q9_2 := q9_0.after hb_2
                              have e_2 : W2.cell? ⟨g14, 1, none⟩ = some (.int .i64 (r : Int)) := (hb_2.cell (p := ⟨g14, 1, none⟩) a_0.lt).trans e_0
                              have q7_2 := q7_0.after hb_2
                              have bl_2 := bl_0.trans (hb_2.mono (Nat.le_of_lt q7_0.lt))
                              have r_2 := (r_0.below hb_2).up hb_2.size
                              clear hHeld
                              refine hK.out _ _ ?_ (fun hHeld => ?_)
                              · exact ⟨a_2, c_2, e_2⟩
                              clear hK K
                              (try simp only [Act.put, List.setIfInBounds_toArray, List.set_cons_zero, List.set_cons_succ])
                              refine wpAnyH_take (i := 26) (oi := ⟨some 121, _, _, _, _, _⟩) (v := ?_) rfl (by kernel_rfl) (by kernel_rfl) (by kernel_rfl) (fun _ _ _ h => h) (Or.inl ⟨by rfl, ?_⟩) hHeld ?_
                              rotate_left
                              · intro W hSW; obtain ⟨hSW0, hSW1, hSW2⟩ := hSW; go_simp; first | done | with_reducible rfl
                              (try simp only [Act.put, List.setIfInBounds_toArray, List.set_cons_zero, List.set_cons_succ])
                              refine wpAnyH_take (i := 27) (oi := ⟨some 122, _, _, _, _, _⟩) (v := ?_) rfl (by kernel_rfl) (by kernel_rfl) (by kernel_rfl) (fun _ _ _ h => h) (Or.inl ⟨by rfl, ?_⟩) hHeld ?_
                              rotate_left
                              · intro W hSW; obtain ⟨hSW0, hSW1, hSW2⟩ := hSW; go_simp; first | done | with_reducible rfl
                              (try simp only [Act.put, List.setIfInBounds_toArray, List.set_cons_zero, List.set_cons_succ])
                              refine wpAnyH_take (i := 29) (oi := ⟨some 124, _, _, _, _, _⟩) (v := ?_) rfl (by kernel_rfl) (by kernel_rfl) (by kernel_rfl) (fun _ _ _ h => h) (Or.inl ⟨by rfl, ?_⟩) hHeld ?_
                              rotate_left
                              · intro W hSW; obtain ⟨hSW0, hSW1, hSW2⟩ := hSW; go_simp; first | done | with_reducible rfl
                              (try simp only [Act.put, List.setIfInBounds_toArray, List.set_cons_zero, List.set_cons_succ])
                              refine wpAnyH_ready (rs := [30]) (by kernel_rfl) (by simp) ?_
                              refine AllReadyH.cons (o := ⟨none, _, _, _, _, _⟩) rfl (fun K hK => ?_) (AllReadyH.nil)
                              refine step_cell (by rfl) 3 _ _ (by rfl) g9 (64 * t + s) (.int .i64 MX) (by rfl) (by rfl) 111 bs q9_2 hbz info3one rfl ?_
                              intro W9 h9
                              have a_9 := h9.blk a_2 (by omega)
                              have e_9 := HCX.out W9 _ a_9
                              have c_9 : W9.cell? ⟨g9, 64 * t1 + r, none⟩ = some (.int .i64 V) := (h9.row.cell _).trans (by rw [Array.getElem?_setIfInBounds_ne (Ne.symm hne)]; exact (q9_2.cell _).symm.trans c_2)
                              clear hHeld
                              refine hK.out _ _ ?_ (fun hHeld => ?_)
                              · exact ⟨a_9, c_9, e_9⟩
                              clear hK K
                              (try simp only [Act.put, List.setIfInBounds_toArray, List.set_cons_zero, List.set_cons_succ])
                              refine wpAnyH_done (by kernel_rfl) ?_ _
                              refine NoPanic.normal ?_
                              clear hHeld
                              go_wp2
                              go_roundw
                              case rel =>
                                refine ⟨x + 1, by omega, by go_num, h9.blk q7_2 (by omega), bl_2.trans (h9.below (by omega)), _, h9.row, ?_⟩
                                rw [HPT.out, if_pos hVV, ← HMX.out]
                                exact HSET.out MX
                              case measure => simp [intOf] <;> omega
                            · go_simp
                              refine (CG.out _ r_0).mono ?_
                              rintro e W1 ⟨rfl, hb_1⟩
                              have a_1 := a_0.after hb_1
                              have c_1 : W1.cell? ⟨g9, 64 * t1 + r, none⟩ = some (.int .i64 V) := (hb_1.cell (p := ⟨g9, 64 * t1 + r, none⟩) q9_0.lt).trans c_0
                              have q9_1 := q9_0.after hb_1
                              have e_1 : W1.cell? ⟨g14, 1, none⟩ = some (.int .i64 (r : Int)) := (hb_1.cell (p := ⟨g14, 1, none⟩) a_0.lt).trans e_0
                              have q7_1 := q7_0.after hb_1
                              have bl_1 := bl_0.trans (hb_1.mono (Nat.le_of_lt q7_0.lt))
                              have r_1 := (r_0.below hb_1).up hb_1.size
                              clear hHeld
                              refine hK.out _ _ ?_ (fun hHeld => ?_)
                              · exact ⟨a_1, c_1, e_1⟩
                              clear hK K
                              (try simp only [Act.put, List.setIfInBounds_toArray, List.set_cons_zero, List.set_cons_succ])
                              refine wpAnyH_take (i := 26) (oi := ⟨some 121, _, _, _, _, _⟩) (v := ?_) rfl (by kernel_rfl) (by kernel_rfl) (by kernel_rfl) (fun _ _ _ h => h) (Or.inl ⟨by rfl, ?_⟩) hHeld ?_
                              rotate_left
                              · intro W hSW; obtain ⟨hSW0, hSW1, hSW2⟩ := hSW; go_simp; first | done | with_reducible rfl
                              (try simp only [Act.put, List.setIfInBounds_toArray, List.set_cons_zero, List.set_cons_succ])
                              refine wpAnyH_ready (rs := [8]) (by kernel_rfl) (by simp) ?_
                              refine AllReadyH.cons (o := ⟨some 103, _, _, _, _, _⟩) rfl (fun K hK => ?_) (AllReadyH.nil)
                              have cP_1 : W1.cell? ⟨g9, 64 * t + s, none⟩ = some (.int .i64 Px) := (hb_1.cell (p := ⟨g9, 64 * t + s, none⟩) q9_0.lt).trans (cP6)
                              go_simp
                              clear hHeld
                              refine hK.out _ _ ?_ (fun hHeld => ?_)
                              · exact ⟨a_1, c_1, e_1⟩
                              clear hK K
                              (try simp only [Act.put, List.setIfInBounds_toArray, List.set_cons_zero, List.set_cons_succ])
                              refine wpAnyH_take (i := 27) (oi := ⟨some 122, _, _, _, _, _⟩) (v := ?_) rfl (by kernel_rfl) (by kernel_rfl) (by kernel_rfl) (fun _ _ _ h => h) (Or.inl ⟨by rfl, ?_⟩) hHeld ?_
                              rotate_left
                              · intro W hSW; obtain ⟨hSW0, hSW1, hSW2⟩ := hSW; go_simp; first | done | with_reducible rfl
                              (try simp only [Act.put, List.setIfInBounds_toArray, List.set_cons_zero, List.set_cons_succ])
                              refine wpAnyH_take (i := 29) (oi := ⟨some 124, _, _, _, _, _⟩) (v := ?_) rfl (by kernel_rfl) (by kernel_rfl) (by kernel_rfl) (fun _ _ _ h => h) (Or.inl ⟨by rfl, ?_⟩) hHeld ?_
                              rotate_left
                              · intro W hSW; obtain ⟨hSW0, hSW1, hSW2⟩ := hSW; go_simp; first | done | with_reducible rfl
                              (try simp only [Act.put, List.setIfInBounds_toArray, List.set_cons_zero, List.set_cons_succ])
                              refine wpAnyH_ready (rs := [30]) (by kernel_rfl) (by simp) ?_
                              refine AllReadyH.cons (o := ⟨none, _, _, _, _, _⟩) rfl (fun K hK => ?_) (AllReadyH.nil)
                              refine step_cell (by rfl) 3 _ _ (by rfl) g9 (64 * t + s) (.int .i64 MX) (by rfl) (by rfl) 111 bs q9_1 hbz info3one rfl ?_
                              intro W9 h9
                              have a_9 := h9.blk a_1 (by omega)
                              have e_9 := HCX.out W9 _ a_9
                              have c_9 : W9.cell? ⟨g9, 64 * t1 + r, none⟩ = some (.int .i64 V) := (h9.row.cell _).trans (by rw [Array.getElem?_setIfInBounds_ne (Ne.symm hne)]; exact (q9_1.cell _).symm.trans c_1)
                              clear hHeld
                              refine hK.out _ _ ?_ (fun hHeld => ?_)
                              · exact ⟨a_9, c_9, e_9⟩
                              clear hK K
                              (try simp only [Act.put, List.setIfInBounds_toArray, List.set_cons_zero, List.set_cons_succ])
                              refine wpAnyH_done (by kernel_rfl) ?_ _
                              refine NoPanic.normal ?_
                              clear hHeld
                              go_wp2
                              go_roundw
                              case rel =>
                                refine ⟨x + 1, by omega, by go_num, h9.blk q7_1 (by omega), bl_1.trans (h9.below (by omega)), _, h9.row, ?_⟩
                                rw [HPT.out, if_pos hVV, ← HMX.out]
                                exact HSET.out MX
                              case measure => simp [intOf] <;> omega
                          · have dV : decide (-549755813888 < V) = false := by simp; omega
                            go_wp2_with fail
                            refine wp_region_noPanic ?_
                            refine wp_region_held_drew (S := fun W => W.cell? ⟨g14, 1, none⟩ = some (.int .i64 (r : Int)) ∧ W.cell? ⟨g9, 64 * t1 + r, none⟩ = some (.int .i64 V)) (by kernel_rfl) ⟨c1, cV6⟩ (fun hHeld => ?_)
                            refine wpAnyH_take (i := 0) (oi := ⟨some 84, _, _, _, _, _⟩) (v := ?_) rfl (by kernel_rfl) (by kernel_rfl) (by kernel_rfl) (fun _ _ _ h => h) (Or.inl ⟨by rfl, ?_⟩) hHeld ?_
                            rotate_left
                            · intro W hSW; obtain ⟨hSW0, hSW1⟩ := hSW; go_simp; first | done | with_reducible rfl
                            (try simp only [Act.put, List.setIfInBounds_toArray, List.set_cons_zero, List.set_cons_succ])
                            refine wpAnyH_take (i := 1) (oi := ⟨some 85, _, _, _, _, _⟩) (v := ?_) rfl (by kernel_rfl) (by kernel_rfl) (by kernel_rfl) (fun _ _ _ h => h) (Or.inl ⟨by rfl, ?_⟩) hHeld ?_
                            rotate_left
                            · intro W hSW; obtain ⟨hSW0, hSW1⟩ := hSW; go_simp; first | done | with_reducible rfl
                            (try simp only [Act.put, List.setIfInBounds_toArray, List.set_cons_zero, List.set_cons_succ])
                            refine wpAnyH_take (i := 2) (oi := ⟨some 86, _, _, _, _, _⟩) (v := ?_) rfl (by kernel_rfl) (by kernel_rfl) (by kernel_rfl) (fun _ _ _ h => h) (Or.inl ⟨by rfl, ?_⟩) hHeld ?_
                            rotate_left
                            · intro W hSW; obtain ⟨hSW0, hSW1⟩ := hSW; go_simp; first | done | with_reducible rfl
                            (try simp only [Act.put, List.setIfInBounds_toArray, List.set_cons_zero, List.set_cons_succ])
                            refine wpAnyH_take (i := 3) (oi := ⟨some 87, _, _, _, _, _⟩) (v := ?_) rfl (by kernel_rfl) (by kernel_rfl) (by kernel_rfl) (fun _ _ _ h => h) (Or.inl ⟨by rfl, ?_⟩) hHeld ?_
                            rotate_left
                            · intro W hSW; obtain ⟨hSW0, hSW1⟩ := hSW; go_simp; first | done | with_reducible rfl
                            (try simp only [Act.put, List.setIfInBounds_toArray, List.set_cons_zero, List.set_cons_succ])
                            refine wpAnyH_take (i := 4) (oi := ⟨some 88, _, _, _, _, _⟩) (v := ?_) rfl (by kernel_rfl) (by kernel_rfl) (by kernel_rfl) (fun _ _ _ h => h) (Or.inl ⟨by rfl, ?_⟩) hHeld ?_
                            rotate_left
                            · intro W hSW; obtain ⟨hSW0, hSW1⟩ := hSW; go_simp; first | done | with_reducible rfl
                            (try simp only [Act.put, List.setIfInBounds_toArray, List.set_cons_zero, List.set_cons_succ])
                            refine wpAnyH_take (i := 5) (oi := ⟨some 89, _, _, _, _, _⟩) (v := ?_) rfl (by kernel_rfl) (by kernel_rfl) (by kernel_rfl) (fun _ _ _ h => h) (Or.inl ⟨by rfl, ?_⟩) hHeld ?_
                            rotate_left
                            · intro W hSW; obtain ⟨hSW0, hSW1⟩ := hSW; go_simp; first | done | with_reducible rfl
                            (try simp only [Act.put, List.setIfInBounds_toArray, List.set_cons_zero, List.set_cons_succ])
                            refine wpAnyH_take (i := 6) (oi := ⟨some 90, _, _, _, _, _⟩) (v := ?_) rfl (by kernel_rfl) (by kernel_rfl) (by kernel_rfl) (fun _ _ _ h => h) (Or.inl ⟨by rfl, ?_⟩) hHeld ?_
                            rotate_left
                            · intro W hSW; obtain ⟨hSW0, hSW1⟩ := hSW; go_simp; first | done | with_reducible rfl
                            (try simp only [Act.put, List.setIfInBounds_toArray, List.set_cons_zero, List.set_cons_succ])
                            refine wpAnyH_take (i := 7) (oi := ⟨some 91, _, _, _, _, _⟩) (v := ?_) rfl (by kernel_rfl) (by kernel_rfl) (by kernel_rfl) (fun _ _ _ h => h) (Or.inl ⟨by rfl, ?_⟩) hHeld ?_
                            rotate_left
                            · intro W hSW; obtain ⟨hSW0, hSW1⟩ := hSW; go_simp; first | done | with_reducible rfl
                            (try simp only [Act.put, List.setIfInBounds_toArray, List.set_cons_zero, List.set_cons_succ])
                            refine wpAnyH_take (i := 8) (oi := ⟨some 92, _, _, _, _, _⟩) (v := ?_) rfl (by kernel_rfl) (by kernel_rfl) (by kernel_rfl) (fun _ _ _ h => h) (Or.inl ⟨by rfl, ?_⟩) hHeld ?_
                            rotate_left
                            · intro W hSW; obtain ⟨hSW0, hSW1⟩ := hSW; go_simp; first | done | with_reducible rfl
                            (try simp only [Act.put, List.setIfInBounds_toArray, List.set_cons_zero, List.set_cons_succ])
                            refine wpAnyH_take (i := 9) (oi := ⟨some 93, _, _, _, _, _⟩) (v := ?_) rfl (by kernel_rfl) (by kernel_rfl) (by kernel_rfl) (fun _ _ _ h => h) (Or.inl ⟨by rfl, ?_⟩) hHeld ?_
                            rotate_left
                            · intro W hSW; obtain ⟨hSW0, hSW1⟩ := hSW; go_simp; first | done | with_reducible rfl
                            (try simp only [Act.put, List.setIfInBounds_toArray, List.set_cons_zero, List.set_cons_succ])
                            refine wpAnyH_take (i := 10) (oi := ⟨some 94, _, _, _, _, _⟩) (v := ?_) rfl (by kernel_rfl) (by kernel_rfl) (by kernel_rfl) (fun _ _ _ h => h) (Or.inl ⟨by rfl, ?_⟩) hHeld ?_
                            rotate_left
                            · intro W hSW; obtain ⟨hSW0, hSW1⟩ := hSW; go_simp; first | done | with_reducible rfl
                            (try simp only [Act.put, List.setIfInBounds_toArray, List.set_cons_zero, List.set_cons_succ])
                            refine wpAnyH_done (by kernel_rfl) ?_ _
                            refine NoPanic.normal ?_
                            clear hHeld
                            go_wp2
                            go_roundw
                            case rel => exact ⟨x + 1, by omega, by go_num, q76, bel6.drew, bs, q96, HBS.out.1, HBS.out.2.1, by rw [HPT.out, if_neg (by omega)]; exact HBS.out.2.2⟩
                            case measure => simp [intOf] <;> omega
                        · go_wp2_with (first | (refine at_load_mid rfl 106 _ rfl g7 (14 * s + 7 * x) rfl EX _ hrange Tryd.underlying106 rfl iX.out ?_) | (refine at_alloc rfl 106 rfl (C7 0 0 0 0 0 0 0) ZR7_eq ?_; intro w5 h5) | (refine at_store rfl 106 _ _ rfl wr.heap.size EX rfl rfl 106 (C7 0 0 0 0 0 0 0) h5.row iX.out zX.out oX.out ?_; intro w6 h6))
                          have b6 := h5.bel.trans (h6.below (Nat.le_refl _))
                          have c1 := HCX.out w6 _ h6.row
                          have q14 := h6.row
                          have q76 := q7.after b6
                          have q96 := q9.after b6
                          have cV6 : w6.cell? ⟨g9, 64 * t1 + r, none⟩ = some (.int .i64 V) := (b6.cell (p := ⟨g9, 64 * t1 + r, none⟩) hq9).trans hcV
                          have cP6 : w6.cell? ⟨g9, 64 * t + s, none⟩ = some (.int .i64 Px) := (b6.cell (p := ⟨g9, 64 * t + s, none⟩) hq9).trans hcP
                          have hR6 := (hRr.below b6).up b6.size
                          have bel6 : Below g7 w w6 := bel.trans (b6.mono (Nat.le_of_lt q7.lt))
                          have h914 : g9 < wr.heap.size := hq9
                          have h7r : g7 < wr.heap.size := q7.lt
                          generalize wr.heap.size = g14 at *
                          clear h5 h6 b6 hrange hcV hcP hRr q7 q9 bel
                          by_cases hVV : -549755813888 < V
                          · have dV : decide (-549755813888 < V) = true := by simp; exact hVV
                            go_wp2_with fail
                            refine wp_region_noPanic ?_
                            refine wp_region_held_drew (S := fun W => W.cell? ⟨g14, 1, none⟩ = some (.int .i64 (r : Int)) ∧ W.cell? ⟨g9, 64 * t1 + r, none⟩ = some (.int .i64 V)) (by kernel_rfl) ⟨c1, cV6⟩ (fun hHeld => ?_)
                            refine wpAnyH_take (i := 0) (oi := ⟨some 84, _, _, _, _, _⟩) (v := ?_) rfl (by kernel_rfl) (by kernel_rfl) (by kernel_rfl) (fun _ _ _ h => h) (Or.inl ⟨by rfl, ?_⟩) hHeld ?_
                            rotate_left
                            · intro W hSW; obtain ⟨hSW0, hSW1⟩ := hSW; go_simp; first | done | with_reducible rfl
                            (try simp only [Act.put, List.setIfInBounds_toArray, List.set_cons_zero, List.set_cons_succ])
                            refine wpAnyH_take (i := 1) (oi := ⟨some 85, _, _, _, _, _⟩) (v := ?_) rfl (by kernel_rfl) (by kernel_rfl) (by kernel_rfl) (fun _ _ _ h => h) (Or.inl ⟨by rfl, ?_⟩) hHeld ?_
                            rotate_left
                            · intro W hSW; obtain ⟨hSW0, hSW1⟩ := hSW; go_simp; first | done | with_reducible rfl
                            (try simp only [Act.put, List.setIfInBounds_toArray, List.set_cons_zero, List.set_cons_succ])
                            refine wpAnyH_take (i := 2) (oi := ⟨some 86, _, _, _, _, _⟩) (v := ?_) rfl (by kernel_rfl) (by kernel_rfl) (by kernel_rfl) (fun _ _ _ h => h) (Or.inl ⟨by rfl, ?_⟩) hHeld ?_
                            rotate_left
                            · intro W hSW; obtain ⟨hSW0, hSW1⟩ := hSW; go_simp; first | done | with_reducible rfl
                            (try simp only [Act.put, List.setIfInBounds_toArray, List.set_cons_zero, List.set_cons_succ])
                            refine wpAnyH_take (i := 3) (oi := ⟨some 87, _, _, _, _, _⟩) (v := ?_) rfl (by kernel_rfl) (by kernel_rfl) (by kernel_rfl) (fun _ _ _ h => h) (Or.inl ⟨by rfl, ?_⟩) hHeld ?_
                            rotate_left
                            · intro W hSW; obtain ⟨hSW0, hSW1⟩ := hSW; go_simp; first | done | with_reducible rfl
                            (try simp only [Act.put, List.setIfInBounds_toArray, List.set_cons_zero, List.set_cons_succ])
                            refine wpAnyH_take (i := 4) (oi := ⟨some 88, _, _, _, _, _⟩) (v := ?_) rfl (by kernel_rfl) (by kernel_rfl) (by kernel_rfl) (fun _ _ _ h => h) (Or.inl ⟨by rfl, ?_⟩) hHeld ?_
                            rotate_left
                            · intro W hSW; obtain ⟨hSW0, hSW1⟩ := hSW; go_simp; first | done | with_reducible rfl
                            (try simp only [Act.put, List.setIfInBounds_toArray, List.set_cons_zero, List.set_cons_succ])
                            refine wpAnyH_take (i := 5) (oi := ⟨some 89, _, _, _, _, _⟩) (v := ?_) rfl (by kernel_rfl) (by kernel_rfl) (by kernel_rfl) (fun _ _ _ h => h) (Or.inl ⟨by rfl, ?_⟩) hHeld ?_
                            rotate_left
                            · intro W hSW; obtain ⟨hSW0, hSW1⟩ := hSW; go_simp; first | done | with_reducible rfl
                            (try simp only [Act.put, List.setIfInBounds_toArray, List.set_cons_zero, List.set_cons_succ])
                            refine wpAnyH_take (i := 6) (oi := ⟨some 90, _, _, _, _, _⟩) (v := ?_) rfl (by kernel_rfl) (by kernel_rfl) (by kernel_rfl) (fun _ _ _ h => h) (Or.inl ⟨by rfl, ?_⟩) hHeld ?_
                            rotate_left
                            · intro W hSW; obtain ⟨hSW0, hSW1⟩ := hSW; go_simp; first | done | with_reducible rfl
                            (try simp only [Act.put, List.setIfInBounds_toArray, List.set_cons_zero, List.set_cons_succ])
                            refine wpAnyH_take (i := 7) (oi := ⟨some 91, _, _, _, _, _⟩) (v := ?_) rfl (by kernel_rfl) (by kernel_rfl) (by kernel_rfl) (fun _ _ _ h => h) (Or.inl ⟨by rfl, ?_⟩) hHeld ?_
                            rotate_left
                            · intro W hSW; obtain ⟨hSW0, hSW1⟩ := hSW; go_simp; first | done | with_reducible rfl
                            (try simp only [Act.put, List.setIfInBounds_toArray, List.set_cons_zero, List.set_cons_succ])
                            refine wpAnyH_take (i := 8) (oi := ⟨some 92, _, _, _, _, _⟩) (v := ?_) rfl (by kernel_rfl) (by kernel_rfl) (by kernel_rfl) (fun _ _ _ h => h) (Or.inl ⟨by rfl, ?_⟩) hHeld ?_
                            rotate_left
                            · intro W hSW; obtain ⟨hSW0, hSW1⟩ := hSW; go_simp; first | done | with_reducible rfl
                            (try simp only [Act.put, List.setIfInBounds_toArray, List.set_cons_zero, List.set_cons_succ])
                            refine wpAnyH_take (i := 9) (oi := ⟨some 93, _, _, _, _, _⟩) (v := ?_) rfl (by kernel_rfl) (by kernel_rfl) (by kernel_rfl) (fun _ _ _ h => h) (Or.inl ⟨by rfl, ?_⟩) hHeld ?_
                            rotate_left
                            · intro W hSW; obtain ⟨hSW0, hSW1⟩ := hSW; go_simp; first | done | with_reducible rfl
                            (try simp only [Act.put, List.setIfInBounds_toArray, List.set_cons_zero, List.set_cons_succ])
                            refine wpAnyH_take (i := 10) (oi := ⟨some 94, _, _, _, _, _⟩) (v := ?_) rfl (by kernel_rfl) (by kernel_rfl) (by kernel_rfl) (fun _ _ _ h => h) (Or.inl ⟨by rfl, ?_⟩) hHeld ?_
                            rotate_left
                            · intro W hSW; obtain ⟨hSW0, hSW1⟩ := hSW; go_simp; first | done | with_reducible rfl
                            (try simp only [Act.put, List.setIfInBounds_toArray, List.set_cons_zero, List.set_cons_succ])
                            refine wpAnyH_done (by kernel_rfl) ?_ _
                            refine NoPanic.normal ?_
                            clear hHeld
                            have ix := fun W => run_idxR (P := Tryd.prog) (sz := 64) Tryd.underlying110 (by kernel_rfl) g9 0 S1 S1 t htS1 .i64 W
                            have iy := fun W => run_idx (P := Tryd.prog) (sz := 1) Tryd.underlying111 (by kernel_rfl) g9 (0 + 64 * t) s hsx .i64 W
                            simp only [Nat.zero_add, Nat.one_mul] at ix iy
                            have g1 : 4 * (t : Int) = (p : Int) := by have := HPP.out; omega
                            have g1w : IntKind.i64.wrap (4 * (t : Int)) = (p : Int) := by rw [IntWalk.i64_in _ (by omega)]; exact g1
                            have g1x : IntKind.i64.wrap (p : Int) = (p : Int) := IntWalk.i64_in _ (by omega)
                            have g2 : (p : Int) + 4 = (p4 : Int) := by have := HP4.out; omega
                            have g2w : IntKind.i64.wrap ((p : Int) + 4) = (p4 : Int) := by rw [IntWalk.i64_in _ (by omega)]; exact g2
                            have g2x : IntKind.i64.wrap (p4 : Int) = (p4 : Int) := IntWalk.i64_in _ (by omega)
                            have g3 : IntKind.i64.wrap (G + V) = G + V := IntWalk.i64_in _ (by omega)
                            have hp4c : p4 ≤ c := by omega
                            have hcp : ¬ c = p := by have := HP4.out; omega
                            obtain ⟨MX, hMX⟩ : ∃ MX : Int, MX = max Px (G + V) := ⟨_, rfl⟩
                            have HMX := Lib.hid hMX
                            have mx1 : (if Px < G + V then G + V else Px) = MX := by rw [hMX]; split <;> omega
                            have mx2 : max Px (G + V) = MX := hMX.symm
                            clear hMX
                            have a_0 := q14.drew.drew
                            have c_0 : w6.drew.drew.cell? ⟨g9, 64 * t1 + r, none⟩ = some (.int .i64 V) := cV6
                            have q9_0 := q96.drew.drew
                            have q7_0 := q76.drew.drew
                            have bl_0 := bel6.drew.drew
                            have r_0 : Rd w6.drew.drew w6.drew.drew.heap.size (some ⟨b, off, none⟩) N (I64 l) := (hR6.below (Below.refl _ _).drew.drew).up (Nat.le_refl _)
                            have e_0 : w6.drew.drew.cell? ⟨g14, 1, none⟩ = some (.int .i64 (r : Int)) := c1
                            go_wp2_with fail
                            refine wp_region_noPanic ?_
                            refine wp_region_held_drew (S := fun W => Blk W g14 106 EX ∧ W.cell? ⟨g9, 64 * t1 + r, none⟩ = some (.int .i64 V) ∧ W.cell? ⟨g14, 1, none⟩ = some (.int .i64 (r : Int))) (by kernel_rfl) ⟨q14, cV6, c1⟩ (fun hHeld => ?_)
                            refine wpAnyH_take (i := 0) (oi := ⟨some 95, _, _, _, _, _⟩) (v := ?_) rfl (by kernel_rfl) (by kernel_rfl) (by kernel_rfl) (fun _ _ _ h => h) (Or.inl ⟨by rfl, ?_⟩) hHeld ?_
                            rotate_left
                            · intro W hSW; obtain ⟨hSW0, hSW1, hSW2⟩ := hSW; go_simp; first | done | with_reducible rfl
                            (try simp only [Act.put, List.setIfInBounds_toArray, List.set_cons_zero, List.set_cons_succ])
                            refine wpAnyH_take (i := 1) (oi := ⟨some 96, _, _, _, _, _⟩) (v := ?_) rfl (by kernel_rfl) (by kernel_rfl) (by kernel_rfl) (fun _ _ _ h => h) (Or.inl ⟨by rfl, ?_⟩) hHeld ?_
                            rotate_left
                            · intro W hSW; obtain ⟨hSW0, hSW1, hSW2⟩ := hSW; go_simp; first | done | with_reducible rfl
                            (try simp only [Act.put, List.setIfInBounds_toArray, List.set_cons_zero, List.set_cons_succ])
                            refine wpAnyH_take (i := 2) (oi := ⟨some 97, _, _, _, _, _⟩) (v := ?_) rfl (by kernel_rfl) (by kernel_rfl) (by kernel_rfl) (fun _ _ _ h => h) (Or.inl ⟨by rfl, ?_⟩) hHeld ?_
                            rotate_left
                            · intro W hSW; obtain ⟨hSW0, hSW1, hSW2⟩ := hSW; go_simp; first | done | with_reducible rfl
                            (try simp only [Act.put, List.setIfInBounds_toArray, List.set_cons_zero, List.set_cons_succ])
                            refine wpAnyH_take (i := 3) (oi := ⟨some 98, _, _, _, _, _⟩) (v := ?_) rfl (by kernel_rfl) (by kernel_rfl) (by kernel_rfl) (fun _ _ _ h => h) (Or.inl ⟨by rfl, ?_⟩) hHeld ?_
                            rotate_left
                            · intro W hSW; obtain ⟨hSW0, hSW1, hSW2⟩ := hSW; go_simp; first | done | with_reducible rfl
                            (try simp only [Act.put, List.setIfInBounds_toArray, List.set_cons_zero, List.set_cons_succ])
                            refine wpAnyH_take (i := 4) (oi := ⟨some 99, _, _, _, _, _⟩) (v := ?_) rfl (by kernel_rfl) (by kernel_rfl) (by kernel_rfl) (fun _ _ _ h => h) (Or.inl ⟨by rfl, ?_⟩) hHeld ?_
                            rotate_left
                            · intro W hSW; obtain ⟨hSW0, hSW1, hSW2⟩ := hSW; go_simp; first | done | with_reducible rfl
                            (try simp only [Act.put, List.setIfInBounds_toArray, List.set_cons_zero, List.set_cons_succ])
                            refine wpAnyH_take (i := 5) (oi := ⟨some 100, _, _, _, _, _⟩) (v := ?_) rfl (by kernel_rfl) (by kernel_rfl) (by kernel_rfl) (fun _ _ _ h => h) (Or.inl ⟨by rfl, ?_⟩) hHeld ?_
                            rotate_left
                            · intro W hSW; obtain ⟨hSW0, hSW1, hSW2⟩ := hSW; go_simp; first | done | with_reducible rfl
                            (try simp only [Act.put, List.setIfInBounds_toArray, List.set_cons_zero, List.set_cons_succ])
                            refine wpAnyH_take (i := 6) (oi := ⟨some 101, _, _, _, _, _⟩) (v := ?_) rfl (by kernel_rfl) (by kernel_rfl) (by kernel_rfl) (fun _ _ _ h => h) (Or.inl ⟨by rfl, ?_⟩) hHeld ?_
                            rotate_left
                            · intro W hSW; obtain ⟨hSW0, hSW1, hSW2⟩ := hSW; go_simp; first | done | with_reducible rfl
                            (try simp only [Act.put, List.setIfInBounds_toArray, List.set_cons_zero, List.set_cons_succ])
                            refine wpAnyH_take (i := 7) (oi := ⟨some 102, _, _, _, _, _⟩) (v := ?_) rfl (by kernel_rfl) (by kernel_rfl) (by kernel_rfl) (fun _ _ _ h => h) (Or.inl ⟨by rfl, ?_⟩) hHeld ?_
                            rotate_left
                            · intro W hSW; obtain ⟨hSW0, hSW1, hSW2⟩ := hSW; go_simp; first | done | with_reducible rfl
                            (try simp only [Act.put, List.setIfInBounds_toArray, List.set_cons_zero, List.set_cons_succ])
                            refine wpAnyH_take (i := 9) (oi := ⟨some 104, _, _, _, _, _⟩) (v := ?_) rfl (by kernel_rfl) (by kernel_rfl) (by kernel_rfl) (fun _ _ _ h => h) (Or.inl ⟨by rfl, ?_⟩) hHeld ?_
                            rotate_left
                            · intro W hSW; obtain ⟨hSW0, hSW1, hSW2⟩ := hSW; go_simp; first | done | with_reducible rfl
                            (try simp only [Act.put, List.setIfInBounds_toArray, List.set_cons_zero, List.set_cons_succ])
                            refine wpAnyH_take (i := 10) (oi := ⟨some 105, _, _, _, _, _⟩) (v := ?_) rfl (by kernel_rfl) (by kernel_rfl) (by kernel_rfl) (fun _ _ _ h => h) (Or.inl ⟨by rfl, ?_⟩) hHeld ?_
                            rotate_left
                            · intro W hSW; obtain ⟨hSW0, hSW1, hSW2⟩ := hSW; go_simp; first | done | with_reducible rfl
                            (try simp only [Act.put, List.setIfInBounds_toArray, List.set_cons_zero, List.set_cons_succ])
                            refine wpAnyH_take (i := 11) (oi := ⟨some 106, _, _, _, _, _⟩) (v := ?_) rfl (by kernel_rfl) (by kernel_rfl) (by kernel_rfl) (fun _ _ _ h => h) (Or.inl ⟨by rfl, ?_⟩) hHeld ?_
                            rotate_left
                            · intro W hSW; obtain ⟨hSW0, hSW1, hSW2⟩ := hSW; go_simp; first | done | with_reducible rfl
                            (try simp only [Act.put, List.setIfInBounds_toArray, List.set_cons_zero, List.set_cons_succ])
                            refine wpAnyH_take (i := 12) (oi := ⟨some 107, _, _, _, _, _⟩) (v := ?_) rfl (by kernel_rfl) (by kernel_rfl) (by kernel_rfl) (fun _ _ _ h => h) (Or.inl ⟨by rfl, ?_⟩) hHeld ?_
                            rotate_left
                            · intro W hSW; obtain ⟨hSW0, hSW1, hSW2⟩ := hSW; go_simp; first | done | with_reducible rfl
                            (try simp only [Act.put, List.setIfInBounds_toArray, List.set_cons_zero, List.set_cons_succ])
                            refine wpAnyH_take (i := 13) (oi := ⟨some 108, _, _, _, _, _⟩) (v := ?_) rfl (by kernel_rfl) (by kernel_rfl) (by kernel_rfl) (fun _ _ _ h => h) (Or.inl ⟨by rfl, ?_⟩) hHeld ?_
                            rotate_left
                            · intro W hSW; obtain ⟨hSW0, hSW1, hSW2⟩ := hSW; go_simp; first | done | with_reducible rfl
                            (try simp only [Act.put, List.setIfInBounds_toArray, List.set_cons_zero, List.set_cons_succ])
                            refine wpAnyH_take (i := 14) (oi := ⟨some 109, _, _, _, _, _⟩) (v := ?_) rfl (by kernel_rfl) (by kernel_rfl) (by kernel_rfl) (fun _ _ _ h => h) (Or.inl ⟨by rfl, ?_⟩) hHeld ?_
                            rotate_left
                            · intro W hSW; obtain ⟨hSW0, hSW1, hSW2⟩ := hSW; go_simp; first | done | with_reducible rfl
                            (try simp only [Act.put, List.setIfInBounds_toArray, List.set_cons_zero, List.set_cons_succ])
                            refine wpAnyH_take (i := 15) (oi := ⟨some 110, _, _, _, _, _⟩) (v := ?_) rfl (by kernel_rfl) (by kernel_rfl) (by kernel_rfl) (fun _ _ _ h => h) (Or.inl ⟨by rfl, ?_⟩) hHeld ?_
                            rotate_left
                            · intro W hSW; obtain ⟨hSW0, hSW1, hSW2⟩ := hSW; go_simp; first | done | with_reducible rfl
                            (try simp only [Act.put, List.setIfInBounds_toArray, List.set_cons_zero, List.set_cons_succ])
                            refine wpAnyH_take (i := 16) (oi := ⟨some 111, _, _, _, _, _⟩) (v := _) rfl (by kernel_rfl) (by kernel_rfl) (by kernel_rfl) (fun _ _ _ h => h) (yields_row (by rfl) 106 _ (by rfl) g14 (by rfl) 106 EX _ (fun W h => h.1) Tryd.underlying106 rfl iX.out) hHeld ?_
                            (try simp only [Act.put, List.setIfInBounds_toArray, List.set_cons_zero, List.set_cons_succ])
                            refine wpAnyH_take (i := 18) (oi := ⟨some 113, _, _, _, _, _⟩) (v := ?_) rfl (by kernel_rfl) (by kernel_rfl) (by kernel_rfl) (fun _ _ _ h => h) (Or.inl ⟨by rfl, ?_⟩) hHeld ?_
                            rotate_left
                            · intro W hSW; obtain ⟨hSW0, hSW1, hSW2⟩ := hSW; go_simp; first | done | with_reducible rfl
                            (try simp only [Act.put, List.setIfInBounds_toArray, List.set_cons_zero, List.set_cons_succ])
                            refine wpAnyH_take (i := 19) (oi := ⟨some 114, _, _, _, _, _⟩) (v := ?_) rfl (by kernel_rfl) (by kernel_rfl) (by kernel_rfl) (fun _ _ _ h => h) (Or.inl ⟨by rfl, ?_⟩) hHeld ?_
                            rotate_left
                            · intro W hSW; obtain ⟨hSW0, hSW1, hSW2⟩ := hSW; go_simp; first | done | with_reducible rfl
                            (try simp only [Act.put, List.setIfInBounds_toArray, List.set_cons_zero, List.set_cons_succ])
                            refine wpAnyH_take (i := 20) (oi := ⟨some 115, _, _, _, _, _⟩) (v := ?_) rfl (by kernel_rfl) (by kernel_rfl) (by kernel_rfl) (fun _ _ _ h => h) (Or.inl ⟨by rfl, ?_⟩) hHeld ?_
                            rotate_left
                            · intro W hSW; obtain ⟨hSW0, hSW1, hSW2⟩ := hSW; go_simp; first | done | with_reducible rfl
                            (try simp only [Act.put, List.setIfInBounds_toArray, List.set_cons_zero, List.set_cons_succ])
                            refine wpAnyH_take (i := 21) (oi := ⟨some 116, _, _, _, _, _⟩) (v := ?_) rfl (by kernel_rfl) (by kernel_rfl) (by kernel_rfl) (fun _ _ _ h => h) (Or.inl ⟨by rfl, ?_⟩) hHeld ?_
                            rotate_left
                            · intro W hSW; obtain ⟨hSW0, hSW1, hSW2⟩ := hSW; go_simp; first | done | with_reducible rfl
                            (try simp only [Act.put, List.setIfInBounds_toArray, List.set_cons_zero, List.set_cons_succ])
                            refine wpAnyH_take (i := 22) (oi := ⟨some 117, _, _, _, _, _⟩) (v := ?_) rfl (by kernel_rfl) (by kernel_rfl) (by kernel_rfl) (fun _ _ _ h => h) (Or.inl ⟨by rfl, ?_⟩) hHeld ?_
                            rotate_left
                            · intro W hSW; obtain ⟨hSW0, hSW1, hSW2⟩ := hSW; go_simp; first | done | with_reducible rfl
                            (try simp only [Act.put, List.setIfInBounds_toArray, List.set_cons_zero, List.set_cons_succ])
                            refine wpAnyH_take (i := 23) (oi := ⟨some 118, _, _, _, _, _⟩) (v := ?_) rfl (by kernel_rfl) (by kernel_rfl) (by kernel_rfl) (fun _ _ _ h => h) (Or.inl ⟨by rfl, ?_⟩) hHeld ?_
                            rotate_left
                            · intro W hSW; obtain ⟨hSW0, hSW1, hSW2⟩ := hSW; go_simp; first | done | with_reducible rfl
                            (try simp only [Act.put, List.setIfInBounds_toArray, List.set_cons_zero, List.set_cons_succ])
                            refine wpAnyH_take (i := 24) (oi := ⟨some 119, _, _, _, _, _⟩) (v := ?_) rfl (by kernel_rfl) (by kernel_rfl) (by kernel_rfl) (fun _ _ _ h => h) (Or.inl ⟨by rfl, ?_⟩) hHeld ?_
                            rotate_left
                            · intro W hSW; obtain ⟨hSW0, hSW1, hSW2⟩ := hSW; go_simp; first | done | with_reducible rfl
                            (try simp only [Act.put, List.setIfInBounds_toArray, List.set_cons_zero, List.set_cons_succ])
                            refine wpAnyH_take (i := 25) (oi := ⟨some 120, _, _, _, _, _⟩) (v := ?_) rfl (by kernel_rfl) (by kernel_rfl) (by kernel_rfl) (fun _ _ _ h => h) (Or.inl ⟨by rfl, ?_⟩) hHeld ?_
                            rotate_left
                            · intro W hSW; obtain ⟨hSW0, hSW1, hSW2⟩ := hSW; go_simp; first | done | with_reducible rfl
                            (try simp only [Act.put, List.setIfInBounds_toArray, List.set_cons_zero, List.set_cons_succ])
                            refine wpAnyH_take (i := 28) (oi := ⟨some 123, _, _, _, _, _⟩) (v := ?_) rfl (by kernel_rfl) (by kernel_rfl) (by kernel_rfl) (fun _ _ _ h => h) (Or.inl ⟨by rfl, ?_⟩) hHeld ?_
                            rotate_left
                            · intro W hSW; obtain ⟨hSW0, hSW1, hSW2⟩ := hSW; go_simp; first | done | with_reducible rfl
                            (try simp only [Act.put, List.setIfInBounds_toArray, List.set_cons_zero, List.set_cons_succ])
                            refine wpAnyH_ready (rs := [8, 17]) (by kernel_rfl) (by simp) ?_
                            refine AllReadyH.cons (o := ⟨some 103, _, _, _, _, _⟩) rfl (fun K hK => ?_) (AllReadyH.cons (o := ⟨some 112, _, _, _, _, _⟩) rfl (fun K hK => ?_) (AllReadyH.nil))
                            · have cP_0 : w6.drew.drew.cell? ⟨g9, 64 * t + s, none⟩ = some (.int .i64 Px) := cP6
                              go_simp
                              clear hHeld
                              refine hK.out _ _ ?_ (fun hHeld => ?_)
                              · exact ⟨a_0, c_0, e_0⟩
                              clear hK K
                              (try simp only [Act.put, List.setIfInBounds_toArray, List.set_cons_zero, List.set_cons_succ])
                              refine wpAnyH_ready (rs := [17]) (by kernel_rfl) (by simp) ?_
                              refine AllReadyH.cons (o := ⟨some 112, _, _, _, _, _⟩) rfl (fun K hK => ?_) (AllReadyH.nil)
                              go_simp
                              refine (CG.out _ r_0).mono ?_
                              rintro e W2 ⟨rfl, hb_2⟩
                              have a_2 := a_0.after hb_2
                              have c_2 : W2.cell? ⟨g9, 64 * t1 + r, none⟩ = some (.int .i64 V) := (hb_2.cell (p := ⟨g9, 64 * t1 + r, none⟩) q9_0.lt).trans c_0
                              have q9_2 := q9_0.after hb_2
                              have e_2 : W2.cell? ⟨g14, 1, none⟩ = some (.int .i64 (r : Int)) := (hb_2.cell (p := ⟨g14, 1, none⟩) a_0.lt).trans e_0
                              have q7_2 := q7_0.after hb_2
                              have bl_2 := bl_0.trans (hb_2.mono (Nat.le_of_lt q7_0.lt))
                              have r_2 := (r_0.below hb_2).up hb_2.size
                              clear hHeld
                              refine hK.out _ _ ?_ (fun hHeld => ?_)
                              · exact ⟨a_2, c_2, e_2⟩
                              clear hK K
                              (try simp only [Act.put, List.setIfInBounds_toArray, List.set_cons_zero, List.set_cons_succ])
                              refine wpAnyH_take (i := 26) (oi := ⟨some 121, _, _, _, _, _⟩) (v := ?_) rfl (by kernel_rfl) (by kernel_rfl) (by kernel_rfl) (fun _ _ _ h => h) (Or.inl ⟨by rfl, ?_⟩) hHeld ?_
                              rotate_left
                              · intro W hSW; obtain ⟨hSW0, hSW1, hSW2⟩ := hSW; go_simp; first | done | with_reducible rfl
                              (try simp only [Act.put, List.setIfInBounds_toArray, List.set_cons_zero, List.set_cons_succ])
                              refine wpAnyH_take (i := 27) (oi := ⟨some 122, _, _, _, _, _⟩) (v := ?_) rfl (by kernel_rfl) (by kernel_rfl) (by kernel_rfl) (fun _ _ _ h => h) (Or.inl ⟨by rfl, ?_⟩) hHeld ?_
                              rotate_left
                              · intro W hSW; obtain ⟨hSW0, hSW1, hSW2⟩ := hSW; go_simp; first | done | with_reducible rfl
                              (try simp only [Act.put, List.setIfInBounds_toArray, List.set_cons_zero, List.set_cons_succ])
                              refine wpAnyH_take (i := 29) (oi := ⟨some 124, _, _, _, _, _⟩) (v := ?_) rfl (by kernel_rfl) (by kernel_rfl) (by kernel_rfl) (fun _ _ _ h => h) (Or.inl ⟨by rfl, ?_⟩) hHeld ?_
                              rotate_left
                              · intro W hSW; obtain ⟨hSW0, hSW1, hSW2⟩ := hSW; go_simp; first | done | with_reducible rfl
                              (try simp only [Act.put, List.setIfInBounds_toArray, List.set_cons_zero, List.set_cons_succ])
                              refine wpAnyH_ready (rs := [30]) (by kernel_rfl) (by simp) ?_
                              refine AllReadyH.cons (o := ⟨none, _, _, _, _, _⟩) rfl (fun K hK => ?_) (AllReadyH.nil)
                              refine step_cell (by rfl) 3 _ _ (by rfl) g9 (64 * t + s) (.int .i64 MX) (by rfl) (by rfl) 111 bs q9_2 hbz info3one rfl ?_
                              intro W9 h9
                              have a_9 := h9.blk a_2 (by omega)
                              have e_9 := HCX.out W9 _ a_9
                              have c_9 : W9.cell? ⟨g9, 64 * t1 + r, none⟩ = some (.int .i64 V) := (h9.row.cell _).trans (by rw [Array.getElem?_setIfInBounds_ne (Ne.symm hne)]; exact (q9_2.cell _).symm.trans c_2)
                              clear hHeld
                              refine hK.out _ _ ?_ (fun hHeld => ?_)
                              · exact ⟨a_9, c_9, e_9⟩
                              clear hK K
                              (try simp only [Act.put, List.setIfInBounds_toArray, List.set_cons_zero, List.set_cons_succ])
                              refine wpAnyH_done (by kernel_rfl) ?_ _
                              refine NoPanic.normal ?_
                              clear hHeld
                              go_wp2
                              go_roundw
                              case rel =>
                                refine ⟨x + 1, by omega, by go_num, h9.blk q7_2 (by omega), bl_2.trans (h9.below (by omega)), _, h9.row, ?_⟩
                                rw [HPT.out, if_pos hVV, ← HMX.out]
                                exact HSET.out MX
                              case measure => simp [intOf] <;> omega
                            · go_simp
                              refine (CG.out _ r_0).mono ?_
                              rintro e W1 ⟨rfl, hb_1⟩
                              have a_1 := a_0.after hb_1
                              have c_1 : W1.cell? ⟨g9, 64 * t1 + r, none⟩ = some (.int .i64 V) := (hb_1.cell (p := ⟨g9, 64 * t1 + r, none⟩) q9_0.lt).trans c_0
                              have q9_1 := q9_0.after hb_1
                              have e_1 : W1.cell? ⟨g14, 1, none⟩ = some (.int .i64 (r : Int)) := (hb_1.cell (p := ⟨g14, 1, none⟩) a_0.lt).trans e_0
                              have q7_1 := q7_0.after hb_1
                              have bl_1 := bl_0.trans (hb_1.mono (Nat.le_of_lt q7_0.lt))
                              have r_1 := (r_0.below hb_1).up hb_1.size
                              clear hHeld
                              refine hK.out _ _ ?_ (fun hHeld => ?_)
                              · exact ⟨a_1, c_1, e_1⟩
                              clear hK K
                              (try simp only [Act.put, List.setIfInBounds_toArray, List.set_cons_zero, List.set_cons_succ])
                              refine wpAnyH_take (i := 26) (oi := ⟨some 121, _, _, _, _, _⟩) (v := ?_) rfl (by kernel_rfl) (by kernel_rfl) (by kernel_rfl) (fun _ _ _ h => h) (Or.inl ⟨by rfl, ?_⟩) hHeld ?_
                              rotate_left
                              · intro W hSW; obtain ⟨hSW0, hSW1, hSW2⟩ := hSW; go_simp; first | done | with_reducible rfl
                              (try simp only [Act.put, List.setIfInBounds_toArray, List.set_cons_zero, List.set_cons_succ])
                              refine wpAnyH_ready (rs := [8]) (by kernel_rfl) (by simp) ?_
                              refine AllReadyH.cons (o := ⟨some 103, _, _, _, _, _⟩) rfl (fun K hK => ?_) (AllReadyH.nil)
                              have cP_1 : W1.cell? ⟨g9, 64 * t + s, none⟩ = some (.int .i64 Px) := (hb_1.cell (p := ⟨g9, 64 * t + s, none⟩) q9_0.lt).trans (cP6)
                              go_simp
                              clear hHeld
                              refine hK.out _ _ ?_ (fun hHeld => ?_)
                              · exact ⟨a_1, c_1, e_1⟩
                              clear hK K
                              (try simp only [Act.put, List.setIfInBounds_toArray, List.set_cons_zero, List.set_cons_succ])
                              refine wpAnyH_take (i := 27) (oi := ⟨some 122, _, _, _, _, _⟩) (v := ?_) rfl (by kernel_rfl) (by kernel_rfl) (by kernel_rfl) (fun _ _ _ h => h) (Or.inl ⟨by rfl, ?_⟩) hHeld ?_
                              rotate_left
                              · intro W hSW; obtain ⟨hSW0, hSW1, hSW2⟩ := hSW; go_simp; first | done | with_reducible rfl
                              (try simp only [Act.put, List.setIfInBounds_toArray, List.set_cons_zero, List.set_cons_succ])
                              refine wpAnyH_take (i := 29) (oi := ⟨some 124, _, _, _, _, _⟩) (v := ?_) rfl (by kernel_rfl) (by kernel_rfl) (by kernel_rfl) (fun _ _ _ h => h) (Or.inl ⟨by rfl, ?_⟩) hHeld ?_
                              rotate_left
                              · intro W hSW; obtain ⟨hSW0, hSW1, hSW2⟩ := hSW; go_simp; first | done | with_reducible rfl
                              (try simp only [Act.put, List.setIfInBounds_toArray, List.set_cons_zero, List.set_cons_succ])
                              refine wpAnyH_ready (rs := [30]) (by kernel_rfl) (by simp) ?_
                              refine AllReadyH.cons (o := ⟨none, _, _, _, _, _⟩) rfl (fun K hK => ?_) (AllReadyH.nil)
                              refine step_cell (by rfl) 3 _ _ (by rfl) g9 (64 * t + s) (.int .i64 MX) (by rfl) (by rfl) 111 bs q9_1 hbz info3one rfl ?_
                              intro W9 h9
                              have a_9 := h9.blk a_1 (by omega)
                              have e_9 := HCX.out W9 _ a_9
                              have c_9 : W9.cell? ⟨g9, 64 * t1 + r, none⟩ = some (.int .i64 V) := (h9.row.cell _).trans (by rw [Array.getElem?_setIfInBounds_ne (Ne.symm hne)]; exact (q9_1.cell _).symm.trans c_1)
                              clear hHeld
                              refine hK.out _ _ ?_ (fun hHeld => ?_)
                              · exact ⟨a_9, c_9, e_9⟩
                              clear hK K
                              (try simp only [Act.put, List.setIfInBounds_toArray, List.set_cons_zero, List.set_cons_succ])
                              refine wpAnyH_done (by kernel_rfl) ?_ _
                              refine NoPanic.normal ?_
                              clear hHeld
                              go_wp2
                              go_roundw
                              case rel =>
                                refine ⟨x + 1, by omega, by go_num, h9.blk q7_1 (by omega), bl_1.trans (h9.below (by omega)), _, h9.row, ?_⟩
                                rw [HPT.out, if_pos hVV, ← HMX.out]
                                exact HSET.out MX
                              case measure => simp [intOf] <;> omega
                          · have dV : decide (-549755813888 < V) = false := by simp; omega
                            go_wp2_with fail
                            refine wp_region_noPanic ?_
                            refine wp_region_held_drew (S := fun W => W.cell? ⟨g14, 1, none⟩ = some (.int .i64 (r : Int)) ∧ W.cell? ⟨g9, 64 * t1 + r, none⟩ = some (.int .i64 V)) (by kernel_rfl) ⟨c1, cV6⟩ (fun hHeld => ?_)
                            refine wpAnyH_take (i := 0) (oi := ⟨some 84, _, _, _, _, _⟩) (v := ?_) rfl (by kernel_rfl) (by kernel_rfl) (by kernel_rfl) (fun _ _ _ h => h) (Or.inl ⟨by rfl, ?_⟩) hHeld ?_
                            rotate_left
                            · intro W hSW; obtain ⟨hSW0, hSW1⟩ := hSW; go_simp; first | done | with_reducible rfl
                            (try simp only [Act.put, List.setIfInBounds_toArray, List.set_cons_zero, List.set_cons_succ])
                            refine wpAnyH_take (i := 1) (oi := ⟨some 85, _, _, _, _, _⟩) (v := ?_) rfl (by kernel_rfl) (by kernel_rfl) (by kernel_rfl) (fun _ _ _ h => h) (Or.inl ⟨by rfl, ?_⟩) hHeld ?_
                            rotate_left
                            · intro W hSW; obtain ⟨hSW0, hSW1⟩ := hSW; go_simp; first | done | with_reducible rfl
                            (try simp only [Act.put, List.setIfInBounds_toArray, List.set_cons_zero, List.set_cons_succ])
                            refine wpAnyH_take (i := 2) (oi := ⟨some 86, _, _, _, _, _⟩) (v := ?_) rfl (by kernel_rfl) (by kernel_rfl) (by kernel_rfl) (fun _ _ _ h => h) (Or.inl ⟨by rfl, ?_⟩) hHeld ?_
                            rotate_left
                            · intro W hSW; obtain ⟨hSW0, hSW1⟩ := hSW; go_simp; first | done | with_reducible rfl
                            (try simp only [Act.put, List.setIfInBounds_toArray, List.set_cons_zero, List.set_cons_succ])
                            refine wpAnyH_take (i := 3) (oi := ⟨some 87, _, _, _, _, _⟩) (v := ?_) rfl (by kernel_rfl) (by kernel_rfl) (by kernel_rfl) (fun _ _ _ h => h) (Or.inl ⟨by rfl, ?_⟩) hHeld ?_
                            rotate_left
                            · intro W hSW; obtain ⟨hSW0, hSW1⟩ := hSW; go_simp; first | done | with_reducible rfl
                            (try simp only [Act.put, List.setIfInBounds_toArray, List.set_cons_zero, List.set_cons_succ])
                            refine wpAnyH_take (i := 4) (oi := ⟨some 88, _, _, _, _, _⟩) (v := ?_) rfl (by kernel_rfl) (by kernel_rfl) (by kernel_rfl) (fun _ _ _ h => h) (Or.inl ⟨by rfl, ?_⟩) hHeld ?_
                            rotate_left
                            · intro W hSW; obtain ⟨hSW0, hSW1⟩ := hSW; go_simp; first | done | with_reducible rfl
                            (try simp only [Act.put, List.setIfInBounds_toArray, List.set_cons_zero, List.set_cons_succ])
                            refine wpAnyH_take (i := 5) (oi := ⟨some 89, _, _, _, _, _⟩) (v := ?_) rfl (by kernel_rfl) (by kernel_rfl) (by kernel_rfl) (fun _ _ _ h => h) (Or.inl ⟨by rfl, ?_⟩) hHeld ?_
                            rotate_left
                            · intro W hSW; obtain ⟨hSW0, hSW1⟩ := hSW; go_simp; first | done | with_reducible rfl
                            (try simp only [Act.put, List.setIfInBounds_toArray, List.set_cons_zero, List.set_cons_succ])
                            refine wpAnyH_take (i := 6) (oi := ⟨some 90, _, _, _, _, _⟩) (v := ?_) rfl (by kernel_rfl) (by kernel_rfl) (by kernel_rfl) (fun _ _ _ h => h) (Or.inl ⟨by rfl, ?_⟩) hHeld ?_
                            rotate_left
                            · intro W hSW; obtain ⟨hSW0, hSW1⟩ := hSW; go_simp; first | done | with_reducible rfl
                            (try simp only [Act.put, List.setIfInBounds_toArray, List.set_cons_zero, List.set_cons_succ])
                            refine wpAnyH_take (i := 7) (oi := ⟨some 91, _, _, _, _, _⟩) (v := ?_) rfl (by kernel_rfl) (by kernel_rfl) (by kernel_rfl) (fun _ _ _ h => h) (Or.inl ⟨by rfl, ?_⟩) hHeld ?_
                            rotate_left
                            · intro W hSW; obtain ⟨hSW0, hSW1⟩ := hSW; go_simp; first | done | with_reducible rfl
                            (try simp only [Act.put, List.setIfInBounds_toArray, List.set_cons_zero, List.set_cons_succ])
                            refine wpAnyH_take (i := 8) (oi := ⟨some 92, _, _, _, _, _⟩) (v := ?_) rfl (by kernel_rfl) (by kernel_rfl) (by kernel_rfl) (fun _ _ _ h => h) (Or.inl ⟨by rfl, ?_⟩) hHeld ?_
                            rotate_left
                            · intro W hSW; obtain ⟨hSW0, hSW1⟩ := hSW; go_simp; first | done | with_reducible rfl
                            (try simp only [Act.put, List.setIfInBounds_toArray, List.set_cons_zero, List.set_cons_succ])
                            refine wpAnyH_take (i := 9) (oi := ⟨some 93, _, _, _, _, _⟩) (v := ?_) rfl (by kernel_rfl) (by kernel_rfl) (by kernel_rfl) (fun _ _ _ h => h) (Or.inl ⟨by rfl, ?_⟩) hHeld ?_
                            rotate_left
                            · intro W hSW; obtain ⟨hSW0, hSW1⟩ := hSW; go_simp; first | done | with_reducible rfl
                            (try simp only [Act.put, List.setIfInBounds_toArray, List.set_cons_zero, List.set_cons_succ])
                            refine wpAnyH_take (i := 10) (oi := ⟨some 94, _, _, _, _, _⟩) (v := ?_) rfl (by kernel_rfl) (by kernel_rfl) (by kernel_rfl) (fun _ _ _ h => h) (Or.inl ⟨by rfl, ?_⟩) hHeld ?_
                            rotate_left
                            · intro W hSW; obtain ⟨hSW0, hSW1⟩ := hSW; go_simp; first | done | with_reducible rfl
                            (try simp only [Act.put, List.setIfInBounds_toArray, List.set_cons_zero, List.set_cons_succ])
                            refine wpAnyH_done (by kernel_rfl) ?_ _
                            refine NoPanic.normal ?_
                            clear hHeld
                            go_wp2
                            go_roundw
                            case rel => exact ⟨x + 1, by omega, by go_num, q76, bel6.drew, bs, q96, HBS.out.1, HBS.out.2.1, by rw [HPT.out, if_neg (by omega)]; exact HBS.out.2.2⟩
                            case measure => simp [intOf] <;> omega
                    · obtain rfl : x = 2 := by omega
                      go_wp2
                      go_roundw
                      case rel =>
                        refine ⟨s + 1, by omega, by go_num, q7, bel, bs, q9, HBS.out.1, fun s' hs' => ?_⟩
                        by_cases h1 : s' = s
                        · subst h1
                          rw [← rv_step l n S t s' HS.out htS]
                          exact HBS.out.2.2
                        · exact HBS.out.2.1 s' (by omega)
                      case measure => simp [intOf] <;> omega
                · go_wp2
                  go_roundw
                  case rel =>
                    refine ⟨m + 1, by omega, ?_, q7, bel, bs, q9, ?_⟩
                    · have := HMM.out
                      have e : (t : Int) - 1 = (S : Int) - 1 - ((m + 1 : Nat) : Int) := by omega
                      rw [← e]
                    · rw [HT.out.2]
                      exact HBS.out.1.next (fun s' hs' => HBS.out.2 s' (by omega))
                  case measure => simp [intOf] <;> omega
            · obtain rfl : S = m := by omega
              have et : (S : Int) - 1 - (S : Int) = -1 := by omega
              rw [et]
              have d0 : decide ((0 : Int) ≤ -1) = false := by decide
              have HRW : Hid (∀ t, t ≤ n → ∀ s, s < 64 → bs[64 * t + s]? = some (.int .i64 (Cv.mb l (n - t) t s))) := fun t ht s hs => by
                have := HBS.out.2 t (by omega) (by omega) s hs
                rw [HS.out, rv_at HIN.out n hn t s ht hs] at this
                exact this
              have HST := Lib.hid (wst_lt (fq l n) (fq_bit l n))
              have HWL := Lib.hid (wls_all l n)
              have HMB := Lib.hid (mb_in HIN.out)
              have HGN := Lib.hid (gn_in HIN.out)
              have h7B := q7.lt
              have h9B := q9.lt
              have hRB := (hr.below bel).up (B' := wr.heap.size) (Nat.le_of_lt h7B)
              obtain ⟨wB, rfl⟩ : ∃ wB : World, wB = wr := ⟨_, rfl⟩
              clear et hlt hm HBS
              go_wp2
              go_loopw [15, 16, 17] (fun o st i wr => ∃ k : Nat, k ≤ n ∧ i = .int .i64 k ∧ st = .int .i64 (wst (fq l n) k : Nat) ∧ ∃ A1 c1, o = .slice A1 k c1 ∧ Own wr wB.heap.size 5 A1 k c1 (U8 (wls (fq l n) k)) ∧ Below wB.heap.size wB wr) (fun _ _ i _ => n - (intOf i).toNat)
              case atStart => exact ⟨0, Nat.zero_le _, rfl, rfl, none, 0, rfl, Own.nil _ _ _, Below.refl _ _⟩
              case round =>
                obtain ⟨k, hk, rfl, rfl, A1, c1, rfl, hown, hbel⟩ := hrel
                have hsz := hbel.size
                have q7r := q7.after hbel
                have q9r := q9.after hbel
                by_cases hlt : k < n
                · have hs1 := HST.out k
                  have HS2 : Hid (wst (fq l n) (k + 1) = Cv.nx (wst (fq l n) k) (fq l n k (wst (fq l n) k))) := rfl
                  have HL2 : Hid (wls (fq l n) (k + 1) = wls (fq l n) k ++ [fq l n k (wst (fq l n) k)]) := rfl
                  have HFQ : Hid (fq l n k (wst (fq l n) k) = if Cv.gn l k (wst (fq l n) k) 0 + Cv.mb l (n - 1 - k) (k + 1) (Cv.nx (wst (fq l n) k) 0) < Cv.gn l k (wst (fq l n) k) 1 + Cv.mb l (n - 1 - k) (k + 1) (Cv.nx (wst (fq l n) k) 1) then 1 else 0) := rfl
                  generalize hls : wls (fq l n) k = lk at *
                  generalize wst (fq l n) k = s1 at *
                  generalize fq l n k s1 = y at *
                  have hr0 := Cv.nx_lt s1 0 hs1 (by omega)
                  have hM : Cv.mb l (n - k) k s1 = max (Cv.gn l k s1 0 + Cv.mb l (n - 1 - k) (k + 1) (Cv.nx s1 0)) (Cv.gn l k s1 1 + Cv.mb l (n - 1 - k) (k + 1) (Cv.nx s1 1)) := by
                    rw [show n - k = n - 1 - k + 1 by omega]
                    rfl
                  have hcM : wr.cell? ⟨g9, 64 * k + s1, none⟩ = some (.int .i64 (Cv.mb l (n - k) k s1)) := (q9r.cell _).trans (HRW.out k hk s1 hs1)
                  obtain ⟨k1, hk1⟩ : ∃ k1, k1 = k + 1 := ⟨_, rfl⟩
                  have hcV : wr.cell? ⟨g9, 64 * k1 + Cv.nx s1 0, none⟩ = some (.int .i64 (Cv.mb l (n - 1 - k) (k + 1) (Cv.nx s1 0))) := by
                    have hw := HRW.out (k + 1) (by omega) (Cv.nx s1 0) hr0
                    rw [show n - (k + 1) = n - 1 - k by omega, ← hk1] at hw
                    rw [← hk1]
                    exact (q9r.cell (64 * k1 + Cv.nx s1 0)).trans hw
                  have hV0 := HMB.out (n - 1 - k) (k + 1) (Cv.nx s1 0)
                  have hV1 := HMB.out (n - 1 - k) (k + 1) (Cv.nx s1 1)
                  have hG0 := HGN.out k s1 0
                  have hG1 := HGN.out k s1 1
                  have hrange0 : wr.rangeAt g7 (14 * s1) (E7 s1 0).toList := by
                    have := q7r.range _ _ (HEP.out s1 0 hs1 (by omega))
                    rw [Nat.mul_zero, Nat.add_zero] at this
                    exact this
                  have HR1 : Hid (∀ W, Blk W g7 108 E → W.rangeAt g7 (14 * s1 + 7) (E7 s1 1).toList) := fun W h => h.range _ _ (HEP.out s1 1 hs1 (by omega))
                  have iX : Hid ((Tryd.prog.info? 106).map (·.size) = some (E7 s1 0).size) := infoR7
                  have oX := Lib.hid (E7_one s1 0)
                  have zX : Hid ((C7 0 0 0 0 0 0 0).size = (E7 s1 0).size) := rfl
                  have iY : Hid ((Tryd.prog.info? 106).map (·.size) = some (E7 s1 1).size) := infoR7
                  have oY := Lib.hid (E7_one s1 1)
                  have zY := Lib.hid ((E7_size s1 0).trans (E7_size s1 1).symm)
                  have HC0 : Hid (∀ W g, Blk W g 106 (E7 s1 0) → W.cell? ⟨g, 1, none⟩ = some (.int .i64 (Cv.nx s1 0 : Nat)) ∧ W.cell? ⟨g, 2, none⟩ = some (.int .u8 0)) := fun W g h => ⟨h.cell 1, h.cell 2⟩
                  have HC1 : Hid (∀ W g, Blk W g 106 (E7 s1 1) → W.cell? ⟨g, 1, none⟩ = some (.int .i64 (Cv.nx s1 1 : Nat)) ∧ W.cell? ⟨g, 2, none⟩ = some (.int .u8 1)) := fun W g h => ⟨h.cell 1, h.cell 2⟩
                  obtain ⟨p, hp⟩ : ∃ p, p = 4 * k := ⟨_, rfl⟩
                  obtain ⟨p4, hp4⟩ : ∃ p4, p4 = p + 4 := ⟨_, rfl⟩
                  have CG := Lib.hid (fun W hR => HCG.out W k p p4 s1 0 hR hp hp4 (by omega))
                  have g1 : 4 * (k : Int) = (p : Int) := by omega
                  have g1w : IntKind.i64.wrap (4 * (k : Int)) = (p : Int) := by rw [IntWalk.i64_in _ (by omega)]; exact g1
                  have g1x : IntKind.i64.wrap (p : Int) = (p : Int) := IntWalk.i64_in _ (by omega)
                  have g2 : (p : Int) + 4 = (p4 : Int) := by omega
                  have g2w : IntKind.i64.wrap ((p : Int) + 4) = (p4 : Int) := by rw [IntWalk.i64_in _ (by omega)]; exact g2
                  have g2x : IntKind.i64.wrap (p4 : Int) = (p4 : Int) := IntWalk.i64_in _ (by omega)
                  have hpp4 : p ≤ p4 := by omega
                  have hp4c : p4 ≤ c := by omega
                  have hcp : ¬ c = p := by omega
                  have f1 : (k : Int) + 1 = (k1 : Int) := by omega
                  have f1w : IntKind.i64.wrap ((k : Int) + 1) = (k1 : Int) := by rw [IntWalk.i64_in _ (by omega)]; exact f1
                  have f1x : IntKind.i64.wrap (k1 : Int) = (k1 : Int) := IntWalk.i64_in _ (by omega)
                  have f2 : (-1099511627776 : Int).tdiv 2 = -549755813888 := by decide
                  have f2' : (-1099511627776 : Int) / 2 = -549755813888 := by decide
                  have f2w : IntKind.i64.wrap (-549755813888) = -549755813888 := by decide
                  have hk1S : k1 < S1 := by omega
                  have hkS : k < S1 := by omega
                  have ia := fun W => run_idx (P := Tryd.prog) (sz := 14) Tryd.underlying108 (by kernel_rfl) g7 0 s1 hs1 .i64 W
                  have ib := fun W => run_idx (P := Tryd.prog) (sz := 7) Tryd.underlying107 (by kernel_rfl) g7 (0 + 14 * s1) 0 (by omega) .i64 W
                  have ib1 := fun W => run_idx (P := Tryd.prog) (sz := 7) Tryd.underlying107 (by kernel_rfl) g7 (0 + 14 * s1) 1 (by omega) .i64 W
                  have ic := fun W => run_idxR (P := Tryd.prog) (sz := 64) Tryd.underlying110 (by kernel_rfl) g9 0 S1 S1 k1 hk1S .i64 W
                  have id := fun W => run_idx (P := Tryd.prog) (sz := 1) Tryd.underlying111 (by kernel_rfl) g9 (0 + 64 * k1) (Cv.nx s1 0) hr0 .i64 W
                  have ie := fun W => run_idxR (P := Tryd.prog) (sz := 64) Tryd.underlying110 (by kernel_rfl) g9 0 S1 S1 k hkS .i64 W
                  have ig := fun W => run_idx (P := Tryd.prog) (sz := 1) Tryd.underlying111 (by kernel_rfl) g9 (0 + 64 * k) s1 hs1 .i64 W
                  have e0 : ((0 : Nat) : Int) = 0 := rfl
                  have e1 : ((1 : Nat) : Int) = 1 := rfl
                  simp only [Nat.zero_add, Nat.one_mul, Nat.mul_zero, Nat.mul_one, Nat.add_zero, e0, e1] at ia ib ib1 ic id ie ig
                  clear e0 e1 hk1 hp hp4
                  generalize Cv.mb l (n - k) k s1 = M at *
                  generalize Cv.gn l k s1 0 = G0 at *
                  generalize Cv.gn l k s1 1 = G1 at *
                  generalize Cv.mb l (n - 1 - k) (k + 1) (Cv.nx s1 0) = V0 at *
                  generalize Cv.mb l (n - 1 - k) (k + 1) (Cv.nx s1 1) = V1 at *
                  obtain ⟨hV00, hV01⟩ := hV0
                  obtain ⟨hG00, hG01⟩ := hG0
                  have hV0l : -1000000 ≤ V0 := by omega
                  have hV0u : V0 ≤ 1000000 := by omega
                  have dV : decide (V0 ≤ -549755813888) = false := by simp; omega
                  have g3 : IntKind.i64.wrap (G0 + V0) = G0 + V0 := IntWalk.i64_in _ (by omega)
                  have HQ : Hid ((y = 1 ∧ (G0 + V0 != M) = true) ∨ (y = 0 ∧ (G0 + V0 != M) = false)) := by
                    have hf := HFQ.out
                    by_cases hcc : G0 + V0 < G1 + V1
                    · rw [if_pos hcc] at hf
                      exact .inl ⟨hf, by simp; omega⟩
                    · rw [if_neg hcc] at hf
                      exact .inr ⟨hf, by simp; omega⟩
                  clear hM HFQ hV1 hG1 hV00 hV01
                  have hlk := Lib.hid hls
                  clear hls
                  generalize E7 s1 0 = X0 at *
                  generalize E7 s1 1 = X1 at *
                  generalize hre0 : Cv.nx s1 0 = r0 at *
                  generalize hre1 : Cv.nx s1 1 = r1 at *
                  have HE0 := Lib.hid hre0
                  have HE1 := Lib.hid hre1
                  clear hre0 hre1
                  have hRr := (hRB.below hbel).up (B' := wr.heap.size) hsz
                  have h9r := q9r.lt
                  have h7r := q7r.lt
                  go_wp2_with (first | (refine at_load_mid rfl 106 _ rfl g7 (14 * s1) rfl X0 _ hrange0 Tryd.underlying106 rfl iX.out ?_) | (refine at_alloc rfl 106 rfl (C7 0 0 0 0 0 0 0) ZR7_eq ?_; intro w5 h5) | (refine at_store rfl 106 _ _ rfl wr.heap.size X0 rfl rfl 106 (C7 0 0 0 0 0 0 0) h5.row iX.out zX.out oX.out ?_; intro w6 h6))
                  have b6 := h5.bel.trans (h6.below (Nat.le_refl _))
                  have a_0 : Blk w6.drew wr.heap.size 106 X0 := h6.row.drew
                  have q7_0 := (q7r.after b6).drew
                  have c_0 : w6.drew.cell? ⟨g9, 64 * k1 + r0, none⟩ = some (.int .i64 V0) := (b6.cell (p := ⟨g9, 64 * k1 + r0, none⟩) h9r).trans hcV
                  have m_0 : w6.drew.cell? ⟨g9, 64 * k + s1, none⟩ = some (.int .i64 M) := (b6.cell (p := ⟨g9, 64 * k + s1, none⟩) h9r).trans hcM
                  have r_0 : Rd w6.drew w6.drew.heap.size (some ⟨b, off, none⟩) N (I64 l) := ((hRr.below b6).up b6.size).below (Below.refl _ _).drew
                  have bl_0 : Below wr.heap.size wr w6.drew := b6.drew
                  have e_0 := (HC0.out _ _ a_0).1
                  generalize hg18 : wr.heap.size = g18 at *
                  have HG18 := Lib.hid hg18
                  clear h5 h6 b6 hrange0 hcV hcM hg18
                  rcases HQ.out with ⟨hy, hM⟩ | ⟨hy, hM⟩
                  · subst hy
                    go_wp2_with fail
                    refine wp_region_noPanic ?_
                    refine wp_region_held_drew (S := fun W => Blk W g18 106 X0 ∧ W.cell? ⟨g9, 64 * k1 + r0, none⟩ = some (.int .i64 V0) ∧ W.cell? ⟨g9, 64 * k + s1, none⟩ = some (.int .i64 M) ∧ W.cell? ⟨g18, 1, none⟩ = some (.int .i64 (r0 : Int))) (by kernel_rfl) ⟨a_0, c_0, m_0, e_0⟩ (fun hHeld => ?_)
                    refine wpAnyH_take (i := 0) (oi := ⟨some 134, _, _, _, _, _⟩) (v := ?_) rfl (by kernel_rfl) (by kernel_rfl) (by kernel_rfl) (fun _ _ _ h => h) (Or.inl ⟨by rfl, ?_⟩) hHeld ?_
                    rotate_left
                    · intro W hSW; obtain ⟨hSW0, hSW1, hSW2, hSW3⟩ := hSW; go_simp; first | done | with_reducible rfl
                    (try simp only [Act.put, List.setIfInBounds_toArray, List.set_cons_zero, List.set_cons_succ])
                    refine wpAnyH_take (i := 1) (oi := ⟨some 135, _, _, _, _, _⟩) (v := ?_) rfl (by kernel_rfl) (by kernel_rfl) (by kernel_rfl) (fun _ _ _ h => h) (Or.inl ⟨by rfl, ?_⟩) hHeld ?_
                    rotate_left
                    · intro W hSW; obtain ⟨hSW0, hSW1, hSW2, hSW3⟩ := hSW; go_simp; first | done | with_reducible rfl
                    (try simp only [Act.put, List.setIfInBounds_toArray, List.set_cons_zero, List.set_cons_succ])
                    refine wpAnyH_take (i := 2) (oi := ⟨some 136, _, _, _, _, _⟩) (v := ?_) rfl (by kernel_rfl) (by kernel_rfl) (by kernel_rfl) (fun _ _ _ h => h) (Or.inl ⟨by rfl, ?_⟩) hHeld ?_
                    rotate_left
                    · intro W hSW; obtain ⟨hSW0, hSW1, hSW2, hSW3⟩ := hSW; go_simp; first | done | with_reducible rfl
                    (try simp only [Act.put, List.setIfInBounds_toArray, List.set_cons_zero, List.set_cons_succ])
                    refine wpAnyH_take (i := 3) (oi := ⟨some 137, _, _, _, _, _⟩) (v := ?_) rfl (by kernel_rfl) (by kernel_rfl) (by kernel_rfl) (fun _ _ _ h => h) (Or.inl ⟨by rfl, ?_⟩) hHeld ?_
                    rotate_left
                    · intro W hSW; obtain ⟨hSW0, hSW1, hSW2, hSW3⟩ := hSW; go_simp; first | done | with_reducible rfl
                    (try simp only [Act.put, List.setIfInBounds_toArray, List.set_cons_zero, List.set_cons_succ])
                    refine wpAnyH_take (i := 4) (oi := ⟨some 138, _, _, _, _, _⟩) (v := ?_) rfl (by kernel_rfl) (by kernel_rfl) (by kernel_rfl) (fun _ _ _ h => h) (Or.inl ⟨by rfl, ?_⟩) hHeld ?_
                    rotate_left
                    · intro W hSW; obtain ⟨hSW0, hSW1, hSW2, hSW3⟩ := hSW; go_simp; first | done | with_reducible rfl
                    (try simp only [Act.put, List.setIfInBounds_toArray, List.set_cons_zero, List.set_cons_succ])
                    refine wpAnyH_take (i := 5) (oi := ⟨some 139, _, _, _, _, _⟩) (v := ?_) rfl (by kernel_rfl) (by kernel_rfl) (by kernel_rfl) (fun _ _ _ h => h) (Or.inl ⟨by rfl, ?_⟩) hHeld ?_
                    rotate_left
                    · intro W hSW; obtain ⟨hSW0, hSW1, hSW2, hSW3⟩ := hSW; go_simp; first | done | with_reducible rfl
                    (try simp only [Act.put, List.setIfInBounds_toArray, List.set_cons_zero, List.set_cons_succ])
                    refine wpAnyH_take (i := 6) (oi := ⟨some 140, _, _, _, _, _⟩) (v := ?_) rfl (by kernel_rfl) (by kernel_rfl) (by kernel_rfl) (fun _ _ _ h => h) (Or.inl ⟨by rfl, ?_⟩) hHeld ?_
                    rotate_left
                    · intro W hSW; obtain ⟨hSW0, hSW1, hSW2, hSW3⟩ := hSW; go_simp; first | done | with_reducible rfl
                    (try simp only [Act.put, List.setIfInBounds_toArray, List.set_cons_zero, List.set_cons_succ])
                    refine wpAnyH_take (i := 7) (oi := ⟨some 141, _, _, _, _, _⟩) (v := ?_) rfl (by kernel_rfl) (by kernel_rfl) (by kernel_rfl) (fun _ _ _ h => h) (Or.inl ⟨by rfl, ?_⟩) hHeld ?_
                    rotate_left
                    · intro W hSW; obtain ⟨hSW0, hSW1, hSW2, hSW3⟩ := hSW; go_simp; first | done | with_reducible rfl
                    (try simp only [Act.put, List.setIfInBounds_toArray, List.set_cons_zero, List.set_cons_succ])
                    refine wpAnyH_take (i := 8) (oi := ⟨some 142, _, _, _, _, _⟩) (v := ?_) rfl (by kernel_rfl) (by kernel_rfl) (by kernel_rfl) (fun _ _ _ h => h) (Or.inl ⟨by rfl, ?_⟩) hHeld ?_
                    rotate_left
                    · intro W hSW; obtain ⟨hSW0, hSW1, hSW2, hSW3⟩ := hSW; go_simp; first | done | with_reducible rfl
                    (try simp only [Act.put, List.setIfInBounds_toArray, List.set_cons_zero, List.set_cons_succ])
                    refine wpAnyH_take (i := 9) (oi := ⟨some 143, _, _, _, _, _⟩) (v := ?_) rfl (by kernel_rfl) (by kernel_rfl) (by kernel_rfl) (fun _ _ _ h => h) (Or.inl ⟨by rfl, ?_⟩) hHeld ?_
                    rotate_left
                    · intro W hSW; obtain ⟨hSW0, hSW1, hSW2, hSW3⟩ := hSW; go_simp; first | done | with_reducible rfl
                    (try simp only [Act.put, List.setIfInBounds_toArray, List.set_cons_zero, List.set_cons_succ])
                    refine wpAnyH_take (i := 10) (oi := ⟨some 144, _, _, _, _, _⟩) (v := ?_) rfl (by kernel_rfl) (by kernel_rfl) (by kernel_rfl) (fun _ _ _ h => h) (Or.inl ⟨by rfl, ?_⟩) hHeld ?_
                    rotate_left
                    · intro W hSW; obtain ⟨hSW0, hSW1, hSW2, hSW3⟩ := hSW; go_simp; first | done | with_reducible rfl
                    (try simp only [Act.put, List.setIfInBounds_toArray, List.set_cons_zero, List.set_cons_succ])
                    refine wpAnyH_take (i := 11) (oi := ⟨some 145, _, _, _, _, _⟩) (v := ?_) rfl (by kernel_rfl) (by kernel_rfl) (by kernel_rfl) (fun _ _ _ h => h) (Or.inl ⟨by rfl, ?_⟩) hHeld ?_
                    rotate_left
                    · intro W hSW; obtain ⟨hSW0, hSW1, hSW2, hSW3⟩ := hSW; go_simp; first | done | with_reducible rfl
                    (try simp only [Act.put, List.setIfInBounds_toArray, List.set_cons_zero, List.set_cons_succ])
                    refine wpAnyH_take (i := 12) (oi := ⟨some 146, _, _, _, _, _⟩) (v := ?_) rfl (by kernel_rfl) (by kernel_rfl) (by kernel_rfl) (fun _ _ _ h => h) (Or.inl ⟨by rfl, ?_⟩) hHeld ?_
                    rotate_left
                    · intro W hSW; obtain ⟨hSW0, hSW1, hSW2, hSW3⟩ := hSW; go_simp; first | done | with_reducible rfl
                    (try simp only [Act.put, List.setIfInBounds_toArray, List.set_cons_zero, List.set_cons_succ])
                    refine wpAnyH_take (i := 13) (oi := ⟨some 147, _, _, _, _, _⟩) (v := ?_) rfl (by kernel_rfl) (by kernel_rfl) (by kernel_rfl) (fun _ _ _ h => h) (Or.inl ⟨by rfl, ?_⟩) hHeld ?_
                    rotate_left
                    · intro W hSW; obtain ⟨hSW0, hSW1, hSW2, hSW3⟩ := hSW; go_simp; first | done | with_reducible rfl
                    (try simp only [Act.put, List.setIfInBounds_toArray, List.set_cons_zero, List.set_cons_succ])
                    refine wpAnyH_take (i := 14) (oi := ⟨some 148, _, _, _, _, _⟩) (v := ?_) rfl (by kernel_rfl) (by kernel_rfl) (by kernel_rfl) (fun _ _ _ h => h) (Or.inl ⟨by rfl, ?_⟩) hHeld ?_
                    rotate_left
                    · intro W hSW; obtain ⟨hSW0, hSW1, hSW2, hSW3⟩ := hSW; go_simp; first | done | with_reducible rfl
                    (try simp only [Act.put, List.setIfInBounds_toArray, List.set_cons_zero, List.set_cons_succ])
                    refine wpAnyH_take (i := 15) (oi := ⟨some 149, _, _, _, _, _⟩) (v := ?_) rfl (by kernel_rfl) (by kernel_rfl) (by kernel_rfl) (fun _ _ _ h => h) (Or.inl ⟨by rfl, ?_⟩) hHeld ?_
                    rotate_left
                    · intro W hSW; obtain ⟨hSW0, hSW1, hSW2, hSW3⟩ := hSW; go_simp; first | done | with_reducible rfl
                    (try simp only [Act.put, List.setIfInBounds_toArray, List.set_cons_zero, List.set_cons_succ])
                    refine wpAnyH_take (i := 16) (oi := ⟨some 150, _, _, _, _, _⟩) (v := ?_) rfl (by kernel_rfl) (by kernel_rfl) (by kernel_rfl) (fun _ _ _ h => h) (Or.inl ⟨by rfl, ?_⟩) hHeld ?_
                    rotate_left
                    · intro W hSW; obtain ⟨hSW0, hSW1, hSW2, hSW3⟩ := hSW; go_simp; first | done | with_reducible rfl
                    (try simp only [Act.put, List.setIfInBounds_toArray, List.set_cons_zero, List.set_cons_succ])
                    refine wpAnyH_take (i := 17) (oi := ⟨some 151, _, _, _, _, _⟩) (v := ?_) rfl (by kernel_rfl) (by kernel_rfl) (by kernel_rfl) (fun _ _ _ h => h) (Or.inl ⟨by rfl, ?_⟩) hHeld ?_
                    rotate_left
                    · intro W hSW; obtain ⟨hSW0, hSW1, hSW2, hSW3⟩ := hSW; go_simp; first | done | with_reducible rfl
                    (try simp only [Act.put, List.setIfInBounds_toArray, List.set_cons_zero, List.set_cons_succ])
                    refine wpAnyH_take (i := 18) (oi := ⟨some 152, _, _, _, _, _⟩) (v := ?_) rfl (by kernel_rfl) (by kernel_rfl) (by kernel_rfl) (fun _ _ _ h => h) (Or.inl ⟨by rfl, ?_⟩) hHeld ?_
                    rotate_left
                    · intro W hSW; obtain ⟨hSW0, hSW1, hSW2, hSW3⟩ := hSW; go_simp; first | done | with_reducible rfl
                    (try simp only [Act.put, List.setIfInBounds_toArray, List.set_cons_zero, List.set_cons_succ])
                    refine wpAnyH_take (i := 19) (oi := ⟨some 153, _, _, _, _, _⟩) (v := _) rfl (by kernel_rfl) (by kernel_rfl) (by kernel_rfl) (fun _ _ _ h => h) (yields_row (by rfl) 106 _ (by rfl) g18 (by rfl) 106 X0 _ (fun W h => h.1) Tryd.underlying106 rfl iX.out) hHeld ?_
                    (try simp only [Act.put, List.setIfInBounds_toArray, List.set_cons_zero, List.set_cons_succ])
                    refine wpAnyH_take (i := 21) (oi := ⟨some 155, _, _, _, _, _⟩) (v := ?_) rfl (by kernel_rfl) (by kernel_rfl) (by kernel_rfl) (fun _ _ _ h => h) (Or.inl ⟨by rfl, ?_⟩) hHeld ?_
                    rotate_left
                    · intro W hSW; obtain ⟨hSW0, hSW1, hSW2, hSW3⟩ := hSW; go_simp; first | done | with_reducible rfl
                    (try simp only [Act.put, List.setIfInBounds_toArray, List.set_cons_zero, List.set_cons_succ])
                    refine wpAnyH_take (i := 22) (oi := ⟨some 156, _, _, _, _, _⟩) (v := ?_) rfl (by kernel_rfl) (by kernel_rfl) (by kernel_rfl) (fun _ _ _ h => h) (Or.inl ⟨by rfl, ?_⟩) hHeld ?_
                    rotate_left
                    · intro W hSW; obtain ⟨hSW0, hSW1, hSW2, hSW3⟩ := hSW; go_simp; first | done | with_reducible rfl
                    (try simp only [Act.put, List.setIfInBounds_toArray, List.set_cons_zero, List.set_cons_succ])
                    refine wpAnyH_take (i := 23) (oi := ⟨some 157, _, _, _, _, _⟩) (v := ?_) rfl (by kernel_rfl) (by kernel_rfl) (by kernel_rfl) (fun _ _ _ h => h) (Or.inl ⟨by rfl, ?_⟩) hHeld ?_
                    rotate_left
                    · intro W hSW; obtain ⟨hSW0, hSW1, hSW2, hSW3⟩ := hSW; go_simp; first | done | with_reducible rfl
                    (try simp only [Act.put, List.setIfInBounds_toArray, List.set_cons_zero, List.set_cons_succ])
                    refine wpAnyH_take (i := 24) (oi := ⟨some 158, _, _, _, _, _⟩) (v := ?_) rfl (by kernel_rfl) (by kernel_rfl) (by kernel_rfl) (fun _ _ _ h => h) (Or.inl ⟨by rfl, ?_⟩) hHeld ?_
                    rotate_left
                    · intro W hSW; obtain ⟨hSW0, hSW1, hSW2, hSW3⟩ := hSW; go_simp; first | done | with_reducible rfl
                    (try simp only [Act.put, List.setIfInBounds_toArray, List.set_cons_zero, List.set_cons_succ])
                    refine wpAnyH_take (i := 25) (oi := ⟨some 159, _, _, _, _, _⟩) (v := ?_) rfl (by kernel_rfl) (by kernel_rfl) (by kernel_rfl) (fun _ _ _ h => h) (Or.inl ⟨by rfl, ?_⟩) hHeld ?_
                    rotate_left
                    · intro W hSW; obtain ⟨hSW0, hSW1, hSW2, hSW3⟩ := hSW; go_simp; first | done | with_reducible rfl
                    (try simp only [Act.put, List.setIfInBounds_toArray, List.set_cons_zero, List.set_cons_succ])
                    refine wpAnyH_take (i := 26) (oi := ⟨some 160, _, _, _, _, _⟩) (v := ?_) rfl (by kernel_rfl) (by kernel_rfl) (by kernel_rfl) (fun _ _ _ h => h) (Or.inl ⟨by rfl, ?_⟩) hHeld ?_
                    rotate_left
                    · intro W hSW; obtain ⟨hSW0, hSW1, hSW2, hSW3⟩ := hSW; go_simp; first | done | with_reducible rfl
                    (try simp only [Act.put, List.setIfInBounds_toArray, List.set_cons_zero, List.set_cons_succ])
                    refine wpAnyH_take (i := 27) (oi := ⟨some 161, _, _, _, _, _⟩) (v := ?_) rfl (by kernel_rfl) (by kernel_rfl) (by kernel_rfl) (fun _ _ _ h => h) (Or.inl ⟨by rfl, ?_⟩) hHeld ?_
                    rotate_left
                    · intro W hSW; obtain ⟨hSW0, hSW1, hSW2, hSW3⟩ := hSW; go_simp; first | done | with_reducible rfl
                    (try simp only [Act.put, List.setIfInBounds_toArray, List.set_cons_zero, List.set_cons_succ])
                    refine wpAnyH_take (i := 28) (oi := ⟨some 162, _, _, _, _, _⟩) (v := ?_) rfl (by kernel_rfl) (by kernel_rfl) (by kernel_rfl) (fun _ _ _ h => h) (Or.inl ⟨by rfl, ?_⟩) hHeld ?_
                    rotate_left
                    · intro W hSW; obtain ⟨hSW0, hSW1, hSW2, hSW3⟩ := hSW; go_simp; first | done | with_reducible rfl
                    (try simp only [Act.put, List.setIfInBounds_toArray, List.set_cons_zero, List.set_cons_succ])
                    refine wpAnyH_take (i := 30) (oi := ⟨some 164, _, _, _, _, _⟩) (v := ?_) rfl (by kernel_rfl) (by kernel_rfl) (by kernel_rfl) (fun _ _ _ h => h) (Or.inl ⟨by rfl, ?_⟩) hHeld ?_
                    rotate_left
                    · intro W hSW; obtain ⟨hSW0, hSW1, hSW2, hSW3⟩ := hSW; go_simp; first | done | with_reducible rfl
                    (try simp only [Act.put, List.setIfInBounds_toArray, List.set_cons_zero, List.set_cons_succ])
                    refine wpAnyH_take (i := 31) (oi := ⟨some 165, _, _, _, _, _⟩) (v := ?_) rfl (by kernel_rfl) (by kernel_rfl) (by kernel_rfl) (fun _ _ _ h => h) (Or.inl ⟨by rfl, ?_⟩) hHeld ?_
                    rotate_left
                    · intro W hSW; obtain ⟨hSW0, hSW1, hSW2, hSW3⟩ := hSW; go_simp; first | done | with_reducible rfl
                    (try simp only [Act.put, List.setIfInBounds_toArray, List.set_cons_zero, List.set_cons_succ])
                    refine wpAnyH_take (i := 32) (oi := ⟨some 166, _, _, _, _, _⟩) (v := ?_) rfl (by kernel_rfl) (by kernel_rfl) (by kernel_rfl) (fun _ _ _ h => h) (Or.inl ⟨by rfl, ?_⟩) hHeld ?_
                    rotate_left
                    · intro W hSW; obtain ⟨hSW0, hSW1, hSW2, hSW3⟩ := hSW; go_simp; first | done | with_reducible rfl
                    (try simp only [Act.put, List.setIfInBounds_toArray, List.set_cons_zero, List.set_cons_succ])
                    refine wpAnyH_take (i := 33) (oi := ⟨some 167, _, _, _, _, _⟩) (v := ?_) rfl (by kernel_rfl) (by kernel_rfl) (by kernel_rfl) (fun _ _ _ h => h) (Or.inl ⟨by rfl, ?_⟩) hHeld ?_
                    rotate_left
                    · intro W hSW; obtain ⟨hSW0, hSW1, hSW2, hSW3⟩ := hSW; go_simp; first | done | with_reducible rfl
                    (try simp only [Act.put, List.setIfInBounds_toArray, List.set_cons_zero, List.set_cons_succ])
                    refine wpAnyH_take (i := 34) (oi := ⟨some 168, _, _, _, _, _⟩) (v := ?_) rfl (by kernel_rfl) (by kernel_rfl) (by kernel_rfl) (fun _ _ _ h => h) (Or.inl ⟨by rfl, ?_⟩) hHeld ?_
                    rotate_left
                    · intro W hSW; obtain ⟨hSW0, hSW1, hSW2, hSW3⟩ := hSW; go_simp; first | done | with_reducible rfl
                    (try simp only [Act.put, List.setIfInBounds_toArray, List.set_cons_zero, List.set_cons_succ])
                    refine wpAnyH_take (i := 35) (oi := ⟨some 169, _, _, _, _, _⟩) (v := ?_) rfl (by kernel_rfl) (by kernel_rfl) (by kernel_rfl) (fun _ _ _ h => h) (Or.inl ⟨by rfl, ?_⟩) hHeld ?_
                    rotate_left
                    · intro W hSW; obtain ⟨hSW0, hSW1, hSW2, hSW3⟩ := hSW; go_simp; first | done | with_reducible rfl
                    (try simp only [Act.put, List.setIfInBounds_toArray, List.set_cons_zero, List.set_cons_succ])
                    refine wpAnyH_ready (rs := [20]) (by kernel_rfl) (by simp) ?_
                    refine AllReadyH.cons (o := ⟨some 154, _, _, _, _, _⟩) rfl (fun K hK => ?_) (AllReadyH.nil)
                    go_simp
                    refine (CG.out _ r_0).mono ?_
                    rintro e W1 ⟨rfl, hb_1⟩
                    have a_1 := a_0.after hb_1
                    have e_1 := (HC0.out _ _ a_1).1
                    have q7_1 := q7_0.after hb_1
                    have hl9 : g9 < w6.drew.heap.size := Nat.lt_trans h9r a_0.lt
                    have c_1 : W1.cell? ⟨g9, 64 * k1 + r0, none⟩ = some (.int .i64 V0) := (hb_1.cell (p := ⟨g9, 64 * k1 + r0, none⟩) hl9).trans c_0
                    have m_1 : W1.cell? ⟨g9, 64 * k + s1, none⟩ = some (.int .i64 M) := (hb_1.cell (p := ⟨g9, 64 * k + s1, none⟩) hl9).trans m_0
                    have bl_1 : Below g18 wr W1 := bl_0.trans (hb_1.mono (Nat.le_of_lt a_0.lt))
                    clear hHeld
                    refine hK.out _ _ ?_ (fun hHeld => ?_)
                    · exact ⟨a_1, c_1, m_1, e_1⟩
                    clear hK K
                    (try simp only [Act.put, List.setIfInBounds_toArray, List.set_cons_zero, List.set_cons_succ])
                    refine wpAnyH_take (i := 29) (oi := ⟨some 163, _, _, _, _, _⟩) (v := ?_) rfl (by kernel_rfl) (by kernel_rfl) (by kernel_rfl) (fun _ _ _ h => h) (Or.inl ⟨by rfl, ?_⟩) hHeld ?_
                    rotate_left
                    · intro W hSW; obtain ⟨hSW0, hSW1, hSW2, hSW3⟩ := hSW; go_simp; first | done | with_reducible rfl
                    (try simp only [Act.put, List.setIfInBounds_toArray, List.set_cons_zero, List.set_cons_succ])
                    refine wpAnyH_take (i := 36) (oi := ⟨some 170, _, _, _, _, _⟩) (v := ?_) rfl (by kernel_rfl) (by kernel_rfl) (by kernel_rfl) (fun _ _ _ h => h) (Or.inl ⟨by rfl, ?_⟩) hHeld ?_
                    rotate_left
                    · intro W hSW; obtain ⟨hSW0, hSW1, hSW2, hSW3⟩ := hSW; go_simp; first | done | with_reducible rfl
                    (try simp only [Act.put, List.setIfInBounds_toArray, List.set_cons_zero, List.set_cons_succ])
                    refine wpAnyH_take (i := 37) (oi := ⟨some 171, _, _, _, _, _⟩) (v := ?_) rfl (by kernel_rfl) (by kernel_rfl) (by kernel_rfl) (fun _ _ _ h => h) (Or.inl ⟨by rfl, ?_⟩) hHeld ?_
                    rotate_left
                    · intro W hSW; obtain ⟨hSW0, hSW1, hSW2, hSW3⟩ := hSW; go_simp; first | done | with_reducible rfl
                    (try simp only [Act.put, List.setIfInBounds_toArray, List.set_cons_zero, List.set_cons_succ])
                    refine wpAnyH_done (by kernel_rfl) ?_ _
                    refine NoPanic.normal ?_
                    clear hHeld
                    have hrange1 := HR1.out _ q7_1
                    go_upto_region 37 with (first | (refine at_load_mid rfl 106 _ rfl g7 (14 * s1 + 7) rfl X1 _ hrange1 Tryd.underlying106 rfl iY.out ?_) | (refine at_store rfl 106 _ _ rfl g18 X1 rfl rfl 106 X0 a_1 iY.out zY.out oY.out ?_; intro w7 h7))
                    have a7 := h7.row
                    have b7 : Below g18 wr w7 := bl_1.trans (h7.below (Nat.le_refl _))
                    have cy := (HC1.out w7 _ a7).2
                    have own7 := hown.below (b7 : Below g18 wr w7) (by rw [HG18.out]; exact Nat.le_refl _)
                    have bw7 : Below wB.heap.size wB w7 := hbel.trans (b7.mono hsz)
                    have hown18 : (Value.slice A1 k c1).ownBlock ≠ some g18 := fun hq => absurd (hown.block g18 hq).2 (by rw [HG18.out]; exact Nat.lt_irrefl _)
                    go_wp2_with (at_builtin; refine app8 _ rfl _ _ rfl wB.heap.size _ _ _ _ 1 _ rfl rfl own7 rfl (by omega) bw7.size ?_; intro A3 c3 w3 hown3 hgrow3; have cz := (HC1.out w3 _ (Blk.grown a7 hgrow3 hown18)).1)
                    go_roundw
                    case rel =>
                      refine ⟨k + 1, by omega, by go_num, by rw [HS2.out, HE1.out], A3, c3, rfl, ?_, bw7.grown hgrow3 bw7.size (fun j hj => (own7.block j hj).1)⟩
                      rw [HL2.out]
                      exact hown3
                    case measure => simp [intOf] <;> omega
                  · subst hy
                    go_wp2_with fail
                    refine wp_region_noPanic ?_
                    refine wp_region_held_drew (S := fun W => Blk W g18 106 X0 ∧ W.cell? ⟨g9, 64 * k1 + r0, none⟩ = some (.int .i64 V0) ∧ W.cell? ⟨g9, 64 * k + s1, none⟩ = some (.int .i64 M) ∧ W.cell? ⟨g18, 1, none⟩ = some (.int .i64 (r0 : Int))) (by kernel_rfl) ⟨a_0, c_0, m_0, e_0⟩ (fun hHeld => ?_)
                    refine wpAnyH_take (i := 0) (oi := ⟨some 134, _, _, _, _, _⟩) (v := ?_) rfl (by kernel_rfl) (by kernel_rfl) (by kernel_rfl) (fun _ _ _ h => h) (Or.inl ⟨by rfl, ?_⟩) hHeld ?_
                    rotate_left
                    · intro W hSW; obtain ⟨hSW0, hSW1, hSW2, hSW3⟩ := hSW; go_simp; first | done | with_reducible rfl
                    (try simp only [Act.put, List.setIfInBounds_toArray, List.set_cons_zero, List.set_cons_succ])
                    refine wpAnyH_take (i := 1) (oi := ⟨some 135, _, _, _, _, _⟩) (v := ?_) rfl (by kernel_rfl) (by kernel_rfl) (by kernel_rfl) (fun _ _ _ h => h) (Or.inl ⟨by rfl, ?_⟩) hHeld ?_
                    rotate_left
                    · intro W hSW; obtain ⟨hSW0, hSW1, hSW2, hSW3⟩ := hSW; go_simp; first | done | with_reducible rfl
                    (try simp only [Act.put, List.setIfInBounds_toArray, List.set_cons_zero, List.set_cons_succ])
                    refine wpAnyH_take (i := 2) (oi := ⟨some 136, _, _, _, _, _⟩) (v := ?_) rfl (by kernel_rfl) (by kernel_rfl) (by kernel_rfl) (fun _ _ _ h => h) (Or.inl ⟨by rfl, ?_⟩) hHeld ?_
                    rotate_left
                    · intro W hSW; obtain ⟨hSW0, hSW1, hSW2, hSW3⟩ := hSW; go_simp; first | done | with_reducible rfl
                    (try simp only [Act.put, List.setIfInBounds_toArray, List.set_cons_zero, List.set_cons_succ])
                    refine wpAnyH_take (i := 3) (oi := ⟨some 137, _, _, _, _, _⟩) (v := ?_) rfl (by kernel_rfl) (by kernel_rfl) (by kernel_rfl) (fun _ _ _ h => h) (Or.inl ⟨by rfl, ?_⟩) hHeld ?_
                    rotate_left
                    · intro W hSW; obtain ⟨hSW0, hSW1, hSW2, hSW3⟩ := hSW; go_simp; first | done | with_reducible rfl
                    (try simp only [Act.put, List.setIfInBounds_toArray, List.set_cons_zero, List.set_cons_succ])
                    refine wpAnyH_take (i := 4) (oi := ⟨some 138, _, _, _, _, _⟩) (v := ?_) rfl (by kernel_rfl) (by kernel_rfl) (by kernel_rfl) (fun _ _ _ h => h) (Or.inl ⟨by rfl, ?_⟩) hHeld ?_
                    rotate_left
                    · intro W hSW; obtain ⟨hSW0, hSW1, hSW2, hSW3⟩ := hSW; go_simp; first | done | with_reducible rfl
                    (try simp only [Act.put, List.setIfInBounds_toArray, List.set_cons_zero, List.set_cons_succ])
                    refine wpAnyH_take (i := 5) (oi := ⟨some 139, _, _, _, _, _⟩) (v := ?_) rfl (by kernel_rfl) (by kernel_rfl) (by kernel_rfl) (fun _ _ _ h => h) (Or.inl ⟨by rfl, ?_⟩) hHeld ?_
                    rotate_left
                    · intro W hSW; obtain ⟨hSW0, hSW1, hSW2, hSW3⟩ := hSW; go_simp; first | done | with_reducible rfl
                    (try simp only [Act.put, List.setIfInBounds_toArray, List.set_cons_zero, List.set_cons_succ])
                    refine wpAnyH_take (i := 6) (oi := ⟨some 140, _, _, _, _, _⟩) (v := ?_) rfl (by kernel_rfl) (by kernel_rfl) (by kernel_rfl) (fun _ _ _ h => h) (Or.inl ⟨by rfl, ?_⟩) hHeld ?_
                    rotate_left
                    · intro W hSW; obtain ⟨hSW0, hSW1, hSW2, hSW3⟩ := hSW; go_simp; first | done | with_reducible rfl
                    (try simp only [Act.put, List.setIfInBounds_toArray, List.set_cons_zero, List.set_cons_succ])
                    refine wpAnyH_take (i := 7) (oi := ⟨some 141, _, _, _, _, _⟩) (v := ?_) rfl (by kernel_rfl) (by kernel_rfl) (by kernel_rfl) (fun _ _ _ h => h) (Or.inl ⟨by rfl, ?_⟩) hHeld ?_
                    rotate_left
                    · intro W hSW; obtain ⟨hSW0, hSW1, hSW2, hSW3⟩ := hSW; go_simp; first | done | with_reducible rfl
                    (try simp only [Act.put, List.setIfInBounds_toArray, List.set_cons_zero, List.set_cons_succ])
                    refine wpAnyH_take (i := 8) (oi := ⟨some 142, _, _, _, _, _⟩) (v := ?_) rfl (by kernel_rfl) (by kernel_rfl) (by kernel_rfl) (fun _ _ _ h => h) (Or.inl ⟨by rfl, ?_⟩) hHeld ?_
                    rotate_left
                    · intro W hSW; obtain ⟨hSW0, hSW1, hSW2, hSW3⟩ := hSW; go_simp; first | done | with_reducible rfl
                    (try simp only [Act.put, List.setIfInBounds_toArray, List.set_cons_zero, List.set_cons_succ])
                    refine wpAnyH_take (i := 9) (oi := ⟨some 143, _, _, _, _, _⟩) (v := ?_) rfl (by kernel_rfl) (by kernel_rfl) (by kernel_rfl) (fun _ _ _ h => h) (Or.inl ⟨by rfl, ?_⟩) hHeld ?_
                    rotate_left
                    · intro W hSW; obtain ⟨hSW0, hSW1, hSW2, hSW3⟩ := hSW; go_simp; first | done | with_reducible rfl
                    (try simp only [Act.put, List.setIfInBounds_toArray, List.set_cons_zero, List.set_cons_succ])
                    refine wpAnyH_take (i := 10) (oi := ⟨some 144, _, _, _, _, _⟩) (v := ?_) rfl (by kernel_rfl) (by kernel_rfl) (by kernel_rfl) (fun _ _ _ h => h) (Or.inl ⟨by rfl, ?_⟩) hHeld ?_
                    rotate_left
                    · intro W hSW; obtain ⟨hSW0, hSW1, hSW2, hSW3⟩ := hSW; go_simp; first | done | with_reducible rfl
                    (try simp only [Act.put, List.setIfInBounds_toArray, List.set_cons_zero, List.set_cons_succ])
                    refine wpAnyH_take (i := 11) (oi := ⟨some 145, _, _, _, _, _⟩) (v := ?_) rfl (by kernel_rfl) (by kernel_rfl) (by kernel_rfl) (fun _ _ _ h => h) (Or.inl ⟨by rfl, ?_⟩) hHeld ?_
                    rotate_left
                    · intro W hSW; obtain ⟨hSW0, hSW1, hSW2, hSW3⟩ := hSW; go_simp; first | done | with_reducible rfl
                    (try simp only [Act.put, List.setIfInBounds_toArray, List.set_cons_zero, List.set_cons_succ])
                    refine wpAnyH_take (i := 12) (oi := ⟨some 146, _, _, _, _, _⟩) (v := ?_) rfl (by kernel_rfl) (by kernel_rfl) (by kernel_rfl) (fun _ _ _ h => h) (Or.inl ⟨by rfl, ?_⟩) hHeld ?_
                    rotate_left
                    · intro W hSW; obtain ⟨hSW0, hSW1, hSW2, hSW3⟩ := hSW; go_simp; first | done | with_reducible rfl
                    (try simp only [Act.put, List.setIfInBounds_toArray, List.set_cons_zero, List.set_cons_succ])
                    refine wpAnyH_take (i := 13) (oi := ⟨some 147, _, _, _, _, _⟩) (v := ?_) rfl (by kernel_rfl) (by kernel_rfl) (by kernel_rfl) (fun _ _ _ h => h) (Or.inl ⟨by rfl, ?_⟩) hHeld ?_
                    rotate_left
                    · intro W hSW; obtain ⟨hSW0, hSW1, hSW2, hSW3⟩ := hSW; go_simp; first | done | with_reducible rfl
                    (try simp only [Act.put, List.setIfInBounds_toArray, List.set_cons_zero, List.set_cons_succ])
                    refine wpAnyH_take (i := 14) (oi := ⟨some 148, _, _, _, _, _⟩) (v := ?_) rfl (by kernel_rfl) (by kernel_rfl) (by kernel_rfl) (fun _ _ _ h => h) (Or.inl ⟨by rfl, ?_⟩) hHeld ?_
                    rotate_left
                    · intro W hSW; obtain ⟨hSW0, hSW1, hSW2, hSW3⟩ := hSW; go_simp; first | done | with_reducible rfl
                    (try simp only [Act.put, List.setIfInBounds_toArray, List.set_cons_zero, List.set_cons_succ])
                    refine wpAnyH_take (i := 15) (oi := ⟨some 149, _, _, _, _, _⟩) (v := ?_) rfl (by kernel_rfl) (by kernel_rfl) (by kernel_rfl) (fun _ _ _ h => h) (Or.inl ⟨by rfl, ?_⟩) hHeld ?_
                    rotate_left
                    · intro W hSW; obtain ⟨hSW0, hSW1, hSW2, hSW3⟩ := hSW; go_simp; first | done | with_reducible rfl
                    (try simp only [Act.put, List.setIfInBounds_toArray, List.set_cons_zero, List.set_cons_succ])
                    refine wpAnyH_take (i := 16) (oi := ⟨some 150, _, _, _, _, _⟩) (v := ?_) rfl (by kernel_rfl) (by kernel_rfl) (by kernel_rfl) (fun _ _ _ h => h) (Or.inl ⟨by rfl, ?_⟩) hHeld ?_
                    rotate_left
                    · intro W hSW; obtain ⟨hSW0, hSW1, hSW2, hSW3⟩ := hSW; go_simp; first | done | with_reducible rfl
                    (try simp only [Act.put, List.setIfInBounds_toArray, List.set_cons_zero, List.set_cons_succ])
                    refine wpAnyH_take (i := 17) (oi := ⟨some 151, _, _, _, _, _⟩) (v := ?_) rfl (by kernel_rfl) (by kernel_rfl) (by kernel_rfl) (fun _ _ _ h => h) (Or.inl ⟨by rfl, ?_⟩) hHeld ?_
                    rotate_left
                    · intro W hSW; obtain ⟨hSW0, hSW1, hSW2, hSW3⟩ := hSW; go_simp; first | done | with_reducible rfl
                    (try simp only [Act.put, List.setIfInBounds_toArray, List.set_cons_zero, List.set_cons_succ])
                    refine wpAnyH_take (i := 18) (oi := ⟨some 152, _, _, _, _, _⟩) (v := ?_) rfl (by kernel_rfl) (by kernel_rfl) (by kernel_rfl) (fun _ _ _ h => h) (Or.inl ⟨by rfl, ?_⟩) hHeld ?_
                    rotate_left
                    · intro W hSW; obtain ⟨hSW0, hSW1, hSW2, hSW3⟩ := hSW; go_simp; first | done | with_reducible rfl
                    (try simp only [Act.put, List.setIfInBounds_toArray, List.set_cons_zero, List.set_cons_succ])
                    refine wpAnyH_take (i := 19) (oi := ⟨some 153, _, _, _, _, _⟩) (v := _) rfl (by kernel_rfl) (by kernel_rfl) (by kernel_rfl) (fun _ _ _ h => h) (yields_row (by rfl) 106 _ (by rfl) g18 (by rfl) 106 X0 _ (fun W h => h.1) Tryd.underlying106 rfl iX.out) hHeld ?_
                    (try simp only [Act.put, List.setIfInBounds_toArray, List.set_cons_zero, List.set_cons_succ])
                    refine wpAnyH_take (i := 21) (oi := ⟨some 155, _, _, _, _, _⟩) (v := ?_) rfl (by kernel_rfl) (by kernel_rfl) (by kernel_rfl) (fun _ _ _ h => h) (Or.inl ⟨by rfl, ?_⟩) hHeld ?_
                    rotate_left
                    · intro W hSW; obtain ⟨hSW0, hSW1, hSW2, hSW3⟩ := hSW; go_simp; first | done | with_reducible rfl
                    (try simp only [Act.put, List.setIfInBounds_toArray, List.set_cons_zero, List.set_cons_succ])
                    refine wpAnyH_take (i := 22) (oi := ⟨some 156, _, _, _, _, _⟩) (v := ?_) rfl (by kernel_rfl) (by kernel_rfl) (by kernel_rfl) (fun _ _ _ h => h) (Or.inl ⟨by rfl, ?_⟩) hHeld ?_
                    rotate_left
                    · intro W hSW; obtain ⟨hSW0, hSW1, hSW2, hSW3⟩ := hSW; go_simp; first | done | with_reducible rfl
                    (try simp only [Act.put, List.setIfInBounds_toArray, List.set_cons_zero, List.set_cons_succ])
                    refine wpAnyH_take (i := 23) (oi := ⟨some 157, _, _, _, _, _⟩) (v := ?_) rfl (by kernel_rfl) (by kernel_rfl) (by kernel_rfl) (fun _ _ _ h => h) (Or.inl ⟨by rfl, ?_⟩) hHeld ?_
                    rotate_left
                    · intro W hSW; obtain ⟨hSW0, hSW1, hSW2, hSW3⟩ := hSW; go_simp; first | done | with_reducible rfl
                    (try simp only [Act.put, List.setIfInBounds_toArray, List.set_cons_zero, List.set_cons_succ])
                    refine wpAnyH_take (i := 24) (oi := ⟨some 158, _, _, _, _, _⟩) (v := ?_) rfl (by kernel_rfl) (by kernel_rfl) (by kernel_rfl) (fun _ _ _ h => h) (Or.inl ⟨by rfl, ?_⟩) hHeld ?_
                    rotate_left
                    · intro W hSW; obtain ⟨hSW0, hSW1, hSW2, hSW3⟩ := hSW; go_simp; first | done | with_reducible rfl
                    (try simp only [Act.put, List.setIfInBounds_toArray, List.set_cons_zero, List.set_cons_succ])
                    refine wpAnyH_take (i := 25) (oi := ⟨some 159, _, _, _, _, _⟩) (v := ?_) rfl (by kernel_rfl) (by kernel_rfl) (by kernel_rfl) (fun _ _ _ h => h) (Or.inl ⟨by rfl, ?_⟩) hHeld ?_
                    rotate_left
                    · intro W hSW; obtain ⟨hSW0, hSW1, hSW2, hSW3⟩ := hSW; go_simp; first | done | with_reducible rfl
                    (try simp only [Act.put, List.setIfInBounds_toArray, List.set_cons_zero, List.set_cons_succ])
                    refine wpAnyH_take (i := 26) (oi := ⟨some 160, _, _, _, _, _⟩) (v := ?_) rfl (by kernel_rfl) (by kernel_rfl) (by kernel_rfl) (fun _ _ _ h => h) (Or.inl ⟨by rfl, ?_⟩) hHeld ?_
                    rotate_left
                    · intro W hSW; obtain ⟨hSW0, hSW1, hSW2, hSW3⟩ := hSW; go_simp; first | done | with_reducible rfl
                    (try simp only [Act.put, List.setIfInBounds_toArray, List.set_cons_zero, List.set_cons_succ])
                    refine wpAnyH_take (i := 27) (oi := ⟨some 161, _, _, _, _, _⟩) (v := ?_) rfl (by kernel_rfl) (by kernel_rfl) (by kernel_rfl) (fun _ _ _ h => h) (Or.inl ⟨by rfl, ?_⟩) hHeld ?_
                    rotate_left
                    · intro W hSW; obtain ⟨hSW0, hSW1, hSW2, hSW3⟩ := hSW; go_simp; first | done | with_reducible rfl
                    (try simp only [Act.put, List.setIfInBounds_toArray, List.set_cons_zero, List.set_cons_succ])
                    refine wpAnyH_take (i := 28) (oi := ⟨some 162, _, _, _, _, _⟩) (v := ?_) rfl (by kernel_rfl) (by kernel_rfl) (by kernel_rfl) (fun _ _ _ h => h) (Or.inl ⟨by rfl, ?_⟩) hHeld ?_
                    rotate_left
                    · intro W hSW; obtain ⟨hSW0, hSW1, hSW2, hSW3⟩ := hSW; go_simp; first | done | with_reducible rfl
                    (try simp only [Act.put, List.setIfInBounds_toArray, List.set_cons_zero, List.set_cons_succ])
                    refine wpAnyH_take (i := 30) (oi := ⟨some 164, _, _, _, _, _⟩) (v := ?_) rfl (by kernel_rfl) (by kernel_rfl) (by kernel_rfl) (fun _ _ _ h => h) (Or.inl ⟨by rfl, ?_⟩) hHeld ?_
                    rotate_left
                    · intro W hSW; obtain ⟨hSW0, hSW1, hSW2, hSW3⟩ := hSW; go_simp; first | done | with_reducible rfl
                    (try simp only [Act.put, List.setIfInBounds_toArray, List.set_cons_zero, List.set_cons_succ])
                    refine wpAnyH_take (i := 31) (oi := ⟨some 165, _, _, _, _, _⟩) (v := ?_) rfl (by kernel_rfl) (by kernel_rfl) (by kernel_rfl) (fun _ _ _ h => h) (Or.inl ⟨by rfl, ?_⟩) hHeld ?_
                    rotate_left
                    · intro W hSW; obtain ⟨hSW0, hSW1, hSW2, hSW3⟩ := hSW; go_simp; first | done | with_reducible rfl
                    (try simp only [Act.put, List.setIfInBounds_toArray, List.set_cons_zero, List.set_cons_succ])
                    refine wpAnyH_take (i := 32) (oi := ⟨some 166, _, _, _, _, _⟩) (v := ?_) rfl (by kernel_rfl) (by kernel_rfl) (by kernel_rfl) (fun _ _ _ h => h) (Or.inl ⟨by rfl, ?_⟩) hHeld ?_
                    rotate_left
                    · intro W hSW; obtain ⟨hSW0, hSW1, hSW2, hSW3⟩ := hSW; go_simp; first | done | with_reducible rfl
                    (try simp only [Act.put, List.setIfInBounds_toArray, List.set_cons_zero, List.set_cons_succ])
                    refine wpAnyH_take (i := 33) (oi := ⟨some 167, _, _, _, _, _⟩) (v := ?_) rfl (by kernel_rfl) (by kernel_rfl) (by kernel_rfl) (fun _ _ _ h => h) (Or.inl ⟨by rfl, ?_⟩) hHeld ?_
                    rotate_left
                    · intro W hSW; obtain ⟨hSW0, hSW1, hSW2, hSW3⟩ := hSW; go_simp; first | done | with_reducible rfl
                    (try simp only [Act.put, List.setIfInBounds_toArray, List.set_cons_zero, List.set_cons_succ])
                    refine wpAnyH_take (i := 34) (oi := ⟨some 168, _, _, _, _, _⟩) (v := ?_) rfl (by kernel_rfl) (by kernel_rfl) (by kernel_rfl) (fun _ _ _ h => h) (Or.inl ⟨by rfl, ?_⟩) hHeld ?_
                    rotate_left
                    · intro W hSW; obtain ⟨hSW0, hSW1, hSW2, hSW3⟩ := hSW; go_simp; first | done | with_reducible rfl
                    (try simp only [Act.put, List.setIfInBounds_toArray, List.set_cons_zero, List.set_cons_succ])
                    refine wpAnyH_take (i := 35) (oi := ⟨some 169, _, _, _, _, _⟩) (v := ?_) rfl (by kernel_rfl) (by kernel_rfl) (by kernel_rfl) (fun _ _ _ h => h) (Or.inl ⟨by rfl, ?_⟩) hHeld ?_
                    rotate_left
                    · intro W hSW; obtain ⟨hSW0, hSW1, hSW2, hSW3⟩ := hSW; go_simp; first | done | with_reducible rfl
                    (try simp only [Act.put, List.setIfInBounds_toArray, List.set_cons_zero, List.set_cons_succ])
                    refine wpAnyH_ready (rs := [20]) (by kernel_rfl) (by simp) ?_
                    refine AllReadyH.cons (o := ⟨some 154, _, _, _, _, _⟩) rfl (fun K hK => ?_) (AllReadyH.nil)
                    go_simp
                    refine (CG.out _ r_0).mono ?_
                    rintro e W1 ⟨rfl, hb_1⟩
                    have a_1 := a_0.after hb_1
                    have e_1 := (HC0.out _ _ a_1).1
                    have q7_1 := q7_0.after hb_1
                    have hl9 : g9 < w6.drew.heap.size := Nat.lt_trans h9r a_0.lt
                    have c_1 : W1.cell? ⟨g9, 64 * k1 + r0, none⟩ = some (.int .i64 V0) := (hb_1.cell (p := ⟨g9, 64 * k1 + r0, none⟩) hl9).trans c_0
                    have m_1 : W1.cell? ⟨g9, 64 * k + s1, none⟩ = some (.int .i64 M) := (hb_1.cell (p := ⟨g9, 64 * k + s1, none⟩) hl9).trans m_0
                    have bl_1 : Below g18 wr W1 := bl_0.trans (hb_1.mono (Nat.le_of_lt a_0.lt))
                    clear hHeld
                    refine hK.out _ _ ?_ (fun hHeld => ?_)
                    · exact ⟨a_1, c_1, m_1, e_1⟩
                    clear hK K
                    (try simp only [Act.put, List.setIfInBounds_toArray, List.set_cons_zero, List.set_cons_succ])
                    refine wpAnyH_take (i := 29) (oi := ⟨some 163, _, _, _, _, _⟩) (v := ?_) rfl (by kernel_rfl) (by kernel_rfl) (by kernel_rfl) (fun _ _ _ h => h) (Or.inl ⟨by rfl, ?_⟩) hHeld ?_
                    rotate_left
                    · intro W hSW; obtain ⟨hSW0, hSW1, hSW2, hSW3⟩ := hSW; go_simp; first | done | with_reducible rfl
                    (try simp only [Act.put, List.setIfInBounds_toArray, List.set_cons_zero, List.set_cons_succ])
                    refine wpAnyH_take (i := 36) (oi := ⟨some 170, _, _, _, _, _⟩) (v := ?_) rfl (by kernel_rfl) (by kernel_rfl) (by kernel_rfl) (fun _ _ _ h => h) (Or.inl ⟨by rfl, ?_⟩) hHeld ?_
                    rotate_left
                    · intro W hSW; obtain ⟨hSW0, hSW1, hSW2, hSW3⟩ := hSW; go_simp; first | done | with_reducible rfl
                    (try simp only [Act.put, List.setIfInBounds_toArray, List.set_cons_zero, List.set_cons_succ])
                    refine wpAnyH_take (i := 37) (oi := ⟨some 171, _, _, _, _, _⟩) (v := ?_) rfl (by kernel_rfl) (by kernel_rfl) (by kernel_rfl) (fun _ _ _ h => h) (Or.inl ⟨by rfl, ?_⟩) hHeld ?_
                    rotate_left
                    · intro W hSW; obtain ⟨hSW0, hSW1, hSW2, hSW3⟩ := hSW; go_simp; first | done | with_reducible rfl
                    (try simp only [Act.put, List.setIfInBounds_toArray, List.set_cons_zero, List.set_cons_succ])
                    refine wpAnyH_done (by kernel_rfl) ?_ _
                    refine NoPanic.normal ?_
                    clear hHeld
                    have cy := (HC0.out W1 _ a_1).2
                    have own7 := hown.below (bl_1 : Below g18 wr W1) (by rw [HG18.out]; exact Nat.le_refl _)
                    have bw7 : Below wB.heap.size wB W1 := hbel.trans (bl_1.mono hsz)
                    have hown18 : (Value.slice A1 k c1).ownBlock ≠ some g18 := fun hq => absurd (hown.block g18 hq).2 (by rw [HG18.out]; exact Nat.lt_irrefl _)
                    go_wp2_with (at_builtin; refine app8 _ rfl _ _ rfl wB.heap.size _ _ _ _ 0 _ rfl rfl own7 rfl (by omega) bw7.size ?_; intro A3 c3 w3 hown3 hgrow3; have cz := (HC0.out w3 _ (Blk.grown a_1 hgrow3 hown18)).1)
                    go_roundw
                    case rel =>
                      refine ⟨k + 1, by omega, by go_num, by rw [HS2.out, HE0.out], A3, c3, rfl, ?_, bw7.grown hgrow3 bw7.size (fun j hj => (own7.block j hj).1)⟩
                      rw [HL2.out]
                      exact hown3
                    case measure => simp [intOf] <;> omega
                · obtain rfl : n = k := by omega
                  have hcv : wr.cell? ⟨g9, 0, none⟩ = some (.int .i64 (Cv.mb l n 0 0)) := (q9r.cell 0).trans (HRW.out 0 (Nat.zero_le _) 0 (by omega))
                  have ix := fun W => run_idxR (P := Tryd.prog) (sz := 64) Tryd.underlying110 (by kernel_rfl) g9 0 S1 S1 0 (by omega) .i64 W
                  have iy := fun W => run_idx (P := Tryd.prog) (sz := 1) Tryd.underlying111 (by kernel_rfl) g9 0 0 (by omega) .i64 W
                  have e0 : ((0 : Nat) : Int) = 0 := rfl
                  simp only [Nat.zero_add, Nat.mul_zero, Nat.add_zero, e0] at ix iy
                  clear e0
                  generalize Cv.mb l n 0 0 = v at *
                  go_wp2_with fail
                  refine wp_region_noPanic ?_
                  refine wp_region_held_drew (S := fun W => W.cell? ⟨g9, 0, none⟩ = some (.int .i64 v)) (by kernel_rfl) hcv (fun hHeld => ?_)
                  refine wpAnyH_take (i := 0) (oi := ⟨some 183, _, _, _, _, _⟩) (v := ?_) rfl (by kernel_rfl) (by kernel_rfl) (by kernel_rfl) (fun _ _ _ h => h) (Or.inl ⟨by rfl, ?_⟩) hHeld ?_
                  rotate_left
                  · intro W hSW; have hSW0 := hSW; go_simp; first | done | with_reducible rfl
                  (try simp only [Act.put, List.setIfInBounds_toArray, List.set_cons_zero, List.set_cons_succ])
                  refine wpAnyH_take (i := 1) (oi := ⟨some 184, _, _, _, _, _⟩) (v := ?_) rfl (by kernel_rfl) (by kernel_rfl) (by kernel_rfl) (fun _ _ _ h => h) (Or.inl ⟨by rfl, ?_⟩) hHeld ?_
                  rotate_left
                  · intro W hSW; have hSW0 := hSW; go_simp; first | done | with_reducible rfl
                  (try simp only [Act.put, List.setIfInBounds_toArray, List.set_cons_zero, List.set_cons_succ])
                  refine wpAnyH_take (i := 2) (oi := ⟨some 185, _, _, _, _, _⟩) (v := ?_) rfl (by kernel_rfl) (by kernel_rfl) (by kernel_rfl) (fun _ _ _ h => h) (Or.inl ⟨by rfl, ?_⟩) hHeld ?_
                  rotate_left
                  · intro W hSW; have hSW0 := hSW; go_simp; first | done | with_reducible rfl
                  (try simp only [Act.put, List.setIfInBounds_toArray, List.set_cons_zero, List.set_cons_succ])
                  refine wpAnyH_take (i := 3) (oi := ⟨some 186, _, _, _, _, _⟩) (v := ?_) rfl (by kernel_rfl) (by kernel_rfl) (by kernel_rfl) (fun _ _ _ h => h) (Or.inl ⟨by rfl, ?_⟩) hHeld ?_
                  rotate_left
                  · intro W hSW; have hSW0 := hSW; go_simp; first | done | with_reducible rfl
                  (try simp only [Act.put, List.setIfInBounds_toArray, List.set_cons_zero, List.set_cons_succ])
                  refine wpAnyH_take (i := 4) (oi := ⟨some 187, _, _, _, _, _⟩) (v := ?_) rfl (by kernel_rfl) (by kernel_rfl) (by kernel_rfl) (fun _ _ _ h => h) (Or.inl ⟨by rfl, ?_⟩) hHeld ?_
                  rotate_left
                  · intro W hSW; have hSW0 := hSW; go_simp; first | done | with_reducible rfl
                  (try simp only [Act.put, List.setIfInBounds_toArray, List.set_cons_zero, List.set_cons_succ])
                  refine wpAnyH_take (i := 5) (oi := ⟨some 2, _, _, _, _, _⟩) (v := ?_) rfl (by kernel_rfl) (by kernel_rfl) (by kernel_rfl) (fun _ _ _ h => h) (Or.inl ⟨by rfl, ?_⟩) hHeld ?_
                  rotate_left
                  · intro W hSW; have hSW0 := hSW; go_simp; first | done | with_reducible rfl
                  (try simp only [Act.put, List.setIfInBounds_toArray, List.set_cons_zero, List.set_cons_succ])
                  refine wpAnyH_take (i := 6) (oi := ⟨some 3, _, _, _, _, _⟩) (v := ?_) rfl (by kernel_rfl) (by kernel_rfl) (by kernel_rfl) (fun _ _ _ h => h) (Or.inl ⟨by rfl, ?_⟩) hHeld ?_
                  rotate_left
                  · intro W hSW; have hSW0 := hSW; go_simp; first | done | with_reducible rfl
                  (try simp only [Act.put, List.setIfInBounds_toArray, List.set_cons_zero, List.set_cons_succ])
                  refine wpAnyH_done (by kernel_rfl) ?_ _
                  refine NoPanic.normal ?_
                  go_wp2
                  go_ret2
                  refine ⟨A1, n, c1, rfl, ?_, ?_⟩
                  · rw [HG.out, ← HWL.out]; exact (hown.below (B := wr.heap.size) (Below.refl _ _).drew (Nat.le_refl _)).down (Nat.le_of_lt h7B)
                  · rw [HG.out]; exact (bel.trans (hbel.mono (Nat.le_of_lt h7B))).drew
end Go.Proofs.YtknfpdlomgllhaaDoor
