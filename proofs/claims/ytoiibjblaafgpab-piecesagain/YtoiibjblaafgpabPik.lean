/-
  The walk of PiecesAgain.
-/
import Derived.Test.YtoiibjblaafgpabPij
namespace Go.Proofs.Ytoiibjblaafgpab
open Go.RowKit
set_option linter.unusedVariables false
set_option linter.unusedSimpArgs false
set_option maxRecDepth 100000

/-- What a joiner has in the midst of texts that come whole, behind one that needn't. -/
def Half2 (k : Nat) (half bs : List Nat) (bad : Nat) : Prop := bad ≤ 1 ∧ ((k = 0 ∧ half.length ≤ 65000 ∧ (0 < half.length → bad = 0)) ∨ (0 < k ∧ half = hf bs k))
set_option maxHeartbeats 4000000 in
/-- PiecesAgain: the walk. -/
theorem piecesAgain (A : Option Addr) (n0 c0 : Nat) (zs : List Int) (x : Int) (w : World) (hz : Rd w w.heap.size A n0 (I64 zs)) (hn0 : n0 ≤ 9223372036854775807) :
    Calls Try.prog 5 #[.slice A n0 c0, .int .i64 x] w fun e w' => e = .returned (.bool true) ∧ Below w.heap.size w w' := by
  obtain ⟨u, hu, hu2⟩ := wrap_u64 x
  have CX := Lib.hid (fun W => textC 5 299 299 W (by omega) (by decide))
  have CT := Lib.hid splitsC
  have CN := Lib.hid pNew
  go_enter Try.func5, Try.ntmps5
  go_upto_region 4 with (first
    | (go_at_call 11; refine (CN.out _).mono ?_; rintro e w1 ⟨rfl, j1, b1⟩)
    | (go_at_call 12; refine (CT.out _).mono ?_; rintro e w2 ⟨rfl, b2⟩))
  obtain ⟨g, hg⟩ : ∃ g, g = w.heap.size := ⟨_, rfl⟩
  have HG := Lib.hid hg
  rw [← hg] at j1
  rw [← hg]
  have j2 := j1.after b2
  have b12 := Below.then_ b1 b2
  clear j1 b1 b2 CN CT hg
  go_upto_region 5 with (first
    | (go_at_call 8; refine (CX.out _).mono ?_; rintro e w3 ⟨tx, A3, rfl, htl, htb, o3, hA3, b3⟩; have CR := Lib.hid (refSplit34 A3 299 299 tx w3 o3.rd (fun e => absurd e hA3) (by omega) (by omega) (by omega) o3.spot); rw [htl] at CR)
    | (go_at_call 10; refine CR.out.mono ?_; rintro e w4 ⟨A6, c6, rfl, m4, b4⟩))
  have b34 := Below.then_ b3 b4
  have b14 := Below.then_ b12 b34
  have j4 := j2.after b34
  have hgl : g < w2.heap.size := j2.lt g rfl
  have HR1 : Hid (∀ k, (w3.heap.size ≤ k ∧ k < w4.heap.size) → k < w4.heap.size ∧ ¬ k = g) := fun k hk => by have := b3.size; omega
  have hJ0 : Hid (JL w4 w4 (fun k => k = g) g (tx.take (63 * 0)) 0) := by
    have := JL.start j4
    rw [show tx.take (63 * 0) = [] from by simp]
    exact this
  have e5 : lst 299 + 1 = 5 := by decide
  rw [htl, e5] at m4
  rw [e5]
  have HM4 := Lib.hid m4
  have HTL := Lib.hid htl
  have HB14 := Lib.hid b14
  have HGW : Hid (w.heap.size ≤ g) := by rw [HG.out]; exact Nat.le_refl _
  obtain ⟨n, hn, hn2⟩ : ∃ n : Nat, n ≤ 4 ∧ (u : Int) % 5 = (n : Int) := ⟨u % 5, by omega, by omega⟩
  have hn3 : IntKind.i64.wrap (n : Int) = (n : Int) := IntWalk.i64_in _ (by omega)
  have hu5 : IntKind.u64.wrap 5 = 5 := by decide
  clear o3 hA3 htb htl b3 b4 b34 b12 b14 j2 j4 m4 CX e5 hgl
  go_wp2_with fail
  clear hn2
  go_loopw [8] (fun s8 wr => ∃ i : Nat, s8 = .int .i64 (i : Int) ∧ i ≤ n ∧ Hid (JL w4 wr (fun k => k = g) g (tx.take (63 * i)) 0)) (fun s8 _ => n - (intOf s8).toNat)
  case atStart => exact ⟨0, rfl, by omega, hJ0⟩
  case round =>
    clear hJ0
    obtain ⟨i, rfl, hi, HJ⟩ := hrel
    by_cases hlt : i < n
    · have d1 : decide ((i : Int) < (n : Int)) = true := by simp; omega
      have hi5 : i < 5 := by omega
      have hi4 : i < 4 := by omega
      obtain ⟨b, off, B, d, hA, hbR, kc, ob, hB⟩ := HM4.out.get i hi5
      subst hA
      rw [show (msgs tx).getD i [] = mg tx i from msk_get _ _ i (by rw [HTL.out]; exact hi5)] at kc ob
      have hb2 := HR1.out b hbR
      have kc' := (World.cell?_of_block (w := w4) (w' := wr) (a := ⟨b, off + i, none⟩) (HJ.out.kr.block b hb2.1 hb2.2)).trans kc
      have hl4 : lst tx.length = 4 := by rw [HTL.out]; decide
      have CTk := jlStep (T := 0) (A := none) (n := 0) (c := 0) (k := 0) i HJ.out HR1.out B d ob hB (by omega) (by omega) (by rw [HTL.out]; omega) (.inr rfl)
      rw [show decide (i = lst tx.length) = false by simp; omega] at CTk
      have e0 : (0 + if i = 0 ∧ 0 < (tx.take (63 * i)).length then 1 else 0) = 0 := by
        rw [if_neg]
        rintro ⟨h0, h1⟩
        rw [h0] at h1; simp at h1
      rw [e0] at CTk
      have HC := Lib.hid CTk
      obtain ⟨ml, hml⟩ : ∃ ml, ml = (mg tx i).length := ⟨_, rfl⟩
      rw [← hml] at kc' HC
      have f1 : (i : Int) < 5 := by omega
      have hi1 : i + 1 ≤ n := by omega
      clear CTk kc ob hml e0 hl4
      go_wp2_with (go_at_call 13; refine HC.out.mono ?_; rintro e w8 h8; rw [if_neg (by simp)] at h8; obtain ⟨rfl, j8⟩ := h8)
      go_roundw
      case rel => first | exact ⟨i + 1, by go_num, hi1, j8⟩ | ((repeat apply Exists.intro); exact ⟨⟨i + 1, by go_num, hi1, j8⟩, rfl⟩)
      case measure => simp [intOf] <;> omega
    · have d1 : decide ((i : Int) < (n : Int)) = false := by simp; omega
      obtain ⟨P1, hj1, hP1⟩ := HJ.out.jt
      have hhl : (tx.take (63 * i)).length ≤ 65000 := by rw [List.length_take]; omega
      have bw1 : Below w.heap.size w wr := HB14.out.trans (HJ.out.kr.below (fun k hk => by have : k = g := hk; rw [this]; exact HGW.out) HB14.out.size)
      have hPw : ∀ k, P1 k → w.heap.size ≤ k := fun k hk => by
        rcases hP1 k hk with e | e
        · rw [e]; exact HGW.out
        · exact Nat.le_trans HB14.out.size e
      have HJ1 : Hid (∃ P half bad, JT wr P g half bad ∧ (∀ k, P k → w.heap.size ≤ k) ∧ Half2 0 half [] bad) := ⟨P1, _, 0, hj1, hPw, by omega, .inl ⟨rfl, hhl, fun _ => rfl⟩⟩
      have HBW := Lib.hid bw1
      clear hj1 hP1 hPw HJ HM4 HR1 hhl bw1
      go_wp2
      obtain ⟨wo, rfl⟩ : ∃ wo : World, wo = wr := ⟨_, rfl⟩
      go_loopw [9] (fun s9 wr => ∃ q : Nat, s9 = .int .i64 (q : Int) ∧ q ≤ 8 ∧ Hid (∃ P half bad, JT wr P g half bad ∧ (∀ k, P k → w.heap.size ≤ k) ∧ Half2 0 half [] bad) ∧ Hid (Below w.heap.size w wr)) (fun s9 _ => 8 - (intOf s9).toNat)
      case atStart => exact ⟨0, rfl, by omega, HJ1, HBW⟩
      case round =>
        clear HJ1 HBW
        obtain ⟨q, rfl, hq, HJ, HB⟩ := hrel
        by_cases hgo : q < n0 ∧ q < 8
        · obtain ⟨hq0, hq8⟩ := hgo
          have d2 : decide ((q : Int) < (n0 : Int)) = true := by simp; omega
          have d3 : decide ((q : Int) < 8) = true := by simp; omega
          obtain ⟨b, off, hA, hb, hcell⟩ := (hz.below HB.out).cell64 q hq0
          subst hA
          generalize zs.getD q 0 = z at *
          obtain ⟨m, hm3, hm4⟩ : ∃ m : Nat, m < 300 ∧ ((z % 18446744073709551616) % 300) = (m : Int) := ⟨((z % 18446744073709551616) % 300).toNat, by omega, by omega⟩
          have CX := Lib.hid (textC q z m wr (by omega) hm4)
          have f1 : (q : Int) < (n0 : Int) := by omega
          have w8q : IntKind.u8.wrap (q : Int) = (q : Int) := IntWalk.u8_in _ (by omega)
          clear hm4
          go_upto_region 14 with (go_at_call 8; refine CX.out.mono ?_; rintro e w10 ⟨bs, A10, rfl, htl, htb, o10, hA10, b10⟩)
          have CS := pSplit A10 m m bs w10 o10.rd (fun e => absurd e hA10) (Nat.le_refl _) (by omega) (by omega)
          obtain ⟨L1, hL1⟩ : ∃ L1, L1 = lst bs.length + 1 := ⟨_, rfl⟩
          have HL1 := Lib.hid hL1.symm
          have hL1b : L1 ≤ 100 := by rw [hL1, htl]; unfold lst; omega
          rw [← hL1] at CS
          have HCS := Lib.hid CS
          have HBSL := Lib.hid htl
          clear CS hL1 htl CX htb
          go_upto_region 17 with (go_at_call 9; refine HCS.out.mono ?_; rintro e w11 ⟨A11, c11, rfl, m11, b11⟩)
          rw [HL1.out] at m11
          obtain ⟨P, half, bad, hj, hPw, hh2⟩ := HJ.out
          have b1011 := Below.then_ b10 b11
          have hj11 := hj.after b1011
          have hPl : ∀ k, P k → k < wr.heap.size := hj.lt
          have HR : Hid (∀ k, (wr.heap.size ≤ k ∧ k < w11.heap.size) → k < w11.heap.size ∧ ¬ P k) := fun k hk => ⟨hk.2, fun hp => by have := hPl k hp; omega⟩
          have HM := Lib.hid (m11.mono (R' := fun k => wr.heap.size ≤ k ∧ k < w11.heap.size) (fun k hk => ⟨Nat.le_trans b10.size hk.1, hk.2⟩))
          have hot : Own w11 0 5 A10 m m (U8 bs) := (o10.below b11 (Nat.le_refl _)).down (Nat.zero_le _)
          have HOT : Hid (Own w11 0 5 A10 m m (U8 bs) ∧ ∀ k, blk A10 = some k → wr.heap.size ≤ k ∧ k < w11.heap.size) := ⟨hot, fun k hk => by have := o10.blkLt k hk; have := b11.size; omega⟩
          have HJ0 : Hid (∃ hk bk, JL w11 w11 P g hk bk ∧ Half2 0 hk bs bk) := ⟨half, bad, JL.start hj11, by
            obtain ⟨h1, h2⟩ := hh2
            refine ⟨h1, .inl ?_⟩
            rcases h2 with h2 | h2
            · exact h2
            · omega⟩
          have HBW : Hid (Below w.heap.size w w11) := HB.out.trans (b1011.mono HB.out.size)
          have HPW := Lib.hid hPw
          obtain ⟨s, hs⟩ : ∃ s, s = str bs := ⟨_, rfl⟩
          have HSS := Lib.hid hs
          have ts1 : (s.toList != s.toList) = false := by simp
          clear hs hot m11 b10 b11 b1011 hj hj11 hPl hPw hh2 HCS o10 hA10 hcell HJ
          go_wp2_with fail
          obtain ⟨wp, rfl⟩ : ∃ wp : World, wp = wr := ⟨_, rfl⟩
          go_loopw [13] (fun s13 wr => ∃ k : Nat, s13 = .int .i64 (k : Int) ∧ k ≤ L1 ∧ Hid (∃ hk bk, JL w11 wr P g hk bk ∧ Half2 k hk bs bk)) (fun s13 _ => L1 - (intOf s13).toNat)
          case atStart => exact ⟨0, rfl, by omega, HJ0⟩
          case round =>
            clear HJ0
            obtain ⟨k, rfl, hk, HJ⟩ := hrel
            by_cases hlt2 : k < L1
            · have d4 : decide ((k : Int) < (L1 : Int)) = true := by simp; omega
              obtain ⟨hf1, bf1, HJ1, hh1, hh2⟩ := HJ.out
              obtain ⟨b', off', B, d, hA, hbR, kc, ob, hB⟩ := HM.out.get k hlt2
              subst hA
              rw [show (msgs bs).getD k [] = mg bs k from msk_get _ _ k (by rw [HL1.out]; exact hlt2)] at kc ob
              have hb2 := HR.out b' hbR
              have kc' := (World.cell?_of_block (w := w11) (w' := wr) (a := ⟨b', off' + k, none⟩) (HJ1.kr.block b' hb2.1 hb2.2)).trans kc
              have hkl : k ≤ lst bs.length := by have := HL1.out; omega
              have CTk := jlStep (T := 0) (A := none) (n := 0) (c := 0) (k := 0) k HJ1 HR.out B d ob hB hkl (by omega) (by rw [HBSL.out]; omega) (by
                rcases hh2 with ⟨e1, e2, _⟩ | ⟨e1, e2⟩
                · exact .inl ⟨e1, e2⟩
                · exact .inr (by rw [e2, hf_lt _ _ hkl]))
              have hbad : bf1 + (if k = 0 ∧ 0 < hf1.length then 1 else 0) ≤ 1 := by
                split
                · rename_i hx
                  rcases hh2 with ⟨e1, e2, e3⟩ | ⟨e1, e2⟩
                  · have := e3 hx.2; omega
                  · omega
                · omega
              generalize bf1 + (if k = 0 ∧ 0 < hf1.length then 1 else 0) = bad2 at *
              have eL : (L1 : Int) - 1 = ((L1 - 1 : Nat) : Int) := by omega
              obtain ⟨l0, hl0⟩ : ∃ l0, l0 = L1 - 1 := ⟨_, rfl⟩
              have wL : IntKind.i64.wrap ((L1 : Int) - 1) = (l0 : Int) := by rw [eL, ← hl0]; exact IntWalk.i64_in _ (by omega)
              have eL' : (L1 : Int) - 1 = (l0 : Int) := by omega
              obtain ⟨ml, hml⟩ : ∃ ml, ml = (mg bs k).length := ⟨_, rfl⟩
              rw [← hml] at kc' CTk
              have f2 : (k : Int) < (L1 : Int) := by omega
              have HI1 := Lib.hid (show k + 1 ≤ L1 by omega)
              have HBAD := Lib.hid hbad
              by_cases hlast : k = lst bs.length
              · rw [decide_eq_true hlast] at CTk
                have ht : ((k : Int) == (l0 : Int)) = true := by have := HL1.out; simp; omega
                have HCC := Lib.hid CTk
                have HHF : Hid (hf bs (k + 1) = []) := by unfold Hid; rw [hlast, hf_end]
                clear CTk hlast hml hl0 kc ob eL hh1 hh2 hbad
                go_wp2_with (go_at_call 13; refine HCC.out.mono ?_; rintro e w13 h13; rw [if_pos rfl] at h13; obtain ⟨⟨A9, c9, rfl, o9⟩, j9⟩ := h13; have kx : (convert 22 9 (.slice A9 bs.length c9)).run Try.prog w13 = .ok (.string s) w13 := by { rw [HSS.out]; exact o9.conv _ (Below.refl _ _) }; have kt : (convert 22 9 (.slice A10 m m)).run Try.prog w13 = .ok (.string s) w13 := by { rw [HSS.out]; exact (HOT.out.1.heap (fun k hk => j9.same _ HR.out k (HOT.out.2 k hk))).conv _ (Below.refl _ _) })
                go_roundw
                case rel => exact ⟨k + 1, by go_num, HI1.out, _, _, j9, HBAD.out, .inr ⟨by omega, HHF.out.symm⟩⟩
                case measure => simp [intOf] <;> omega
              · rw [decide_eq_false hlast] at CTk
                have ht : ((k : Int) == (l0 : Int)) = false := by have := HL1.out; simp; omega
                have HCC := Lib.hid CTk
                have HHF : Hid (hf bs (k + 1) = bs.take (63 * (k + 1))) := hf_lt _ _ (by omega)
                clear CTk hlast hml hl0 kc ob eL hh1 hh2 hbad
                go_wp2_with (go_at_call 13; refine HCC.out.mono ?_; rintro e w13 h13; rw [if_neg (by simp)] at h13; obtain ⟨rfl, j9⟩ := h13)
                go_roundw
                case rel => exact ⟨k + 1, by go_num, HI1.out, _, _, j9, HBAD.out, .inr ⟨by omega, HHF.out.symm⟩⟩
                case measure => simp [intOf] <;> omega
            · have d4 : decide ((k : Int) < (L1 : Int)) = false := by simp; omega
              obtain ⟨hf1, bf1, HJ1, hh1, hh2⟩ := HJ.out
              have hf0 : hf1 = [] := by
                rcases hh2 with ⟨e1, _⟩ | ⟨e1, e2⟩
                · have := HL1.out; omega
                · rw [e2, show k = lst bs.length + 1 by have := HL1.out; omega, hf_end]
              subst hf0
              obtain ⟨P2, hj2, hP2⟩ := HJ1.jt
              have HJN : Hid (∃ P half bad, JT wr P g half bad ∧ (∀ k, P k → w.heap.size ≤ k) ∧ Half2 0 half [] bad) := ⟨P2, [], bf1, hj2, fun k hk => by
                rcases hP2 k hk with e | e
                · exact HPW.out k e
                · exact Nat.le_trans HBW.out.size e, hh1, .inl ⟨rfl, by simp, fun h => absurd h (by simp)⟩⟩
              have HBN : Hid (Below w.heap.size w wr) := HBW.out.trans (HJ1.kr.below HPW.out HBW.out.size)
              clear hj2 hP2 HJ1 HJ hh1 hh2
              go_wp2
              go_roundw
              case rel => first | exact ⟨q + 1, by go_num, by omega, HJN, HBN⟩ | ((repeat apply Exists.intro); exact ⟨⟨q + 1, by go_num, by omega, HJN, HBN⟩, rfl⟩)
              case measure => simp [intOf] <;> omega
        · obtain ⟨P, half, bad, hj, hPw, hh1, hh2⟩ := HJ.out
          have CB := Lib.hid (jBad wr P g bad half hj)
          have d5 : decide ((bad : Int) ≤ 1) = true := by simp; omega
          have d5' : decide (bad ≤ 1) = true := by simp; omega
          clear hj hPw hh1 hh2 HJ
          by_cases h1 : q < n0
          · have d2 : decide ((q : Int) < (n0 : Int)) = true := by simp; omega
            have d3 : decide ((q : Int) < 8) = false := by simp; omega
            clear hgo
            go_wp2_with (go_at_call 15; refine CB.out.mono ?_; rintro e w' ⟨rfl, rfl⟩)
            go_ret
            exact ⟨by first | rfl | (rw [d5]; rfl), HB.out⟩
          · have d2 : decide ((q : Int) < (n0 : Int)) = false := by simp; omega
            clear hgo
            go_wp2_with (go_at_call 15; refine CB.out.mono ?_; rintro e w' ⟨rfl, rfl⟩)
            go_ret
            exact ⟨by first | rfl | (rw [d5]; rfl), HB.out⟩
end Go.Proofs.Ytoiibjblaafgpab
