/-
  The walk of ViterbiMends.
-/
import Derived.Test.YtlnjealhiikmeabDoorVi
import Derived.Test.YtlnjealhiikmeabDoorRt
namespace Go.Proofs.YtlnjealhiikmeabDoor
open Go.RowKit
set_option linter.unusedVariables false
set_option linter.unusedSimpArgs false

theorem trn_bit1 {l : List Nat} (h : ∀ x ∈ l, x ≤ 1) (at_ : List Int) : ∀ x ∈ Bm.trn l at_, x ≤ 1 := fun x hx => by
  have := Bm.trn_lt 1 (by omega) l at_ (fun y hy => by have := h y hy; omega) x hx
  omega
theorem cnt_one (q : Nat → Bool) (p : Nat) (h : ∀ i, q i = true → i = p) : ∀ k, Bm.cnt q k ≤ 1 ∧ (k ≤ p → Bm.cnt q k = 0)
  | 0 => by simp [Bm.cnt]
  | k + 1 => by
    obtain ⟨h1, h2⟩ := cnt_one q p h k
    unfold Bm.cnt
    by_cases hq : q k = true
    · have e := h k hq
      rw [if_pos hq, h2 (by omega)]
      exact ⟨by omega, by omega⟩
    · rw [if_neg hq]
      exact ⟨by omega, fun hk => by have := h2 (by omega); omega⟩
theorem ap_turn (c t : List Nat) (p : Nat) (h : c.length = t.length) : Bm.ap c (Bm.trn t [(p : Int)]) ≤ Bm.ap c t + 1 := by
  have h1 := Bm.ap_tri c t (Bm.trn t [(p : Int)]) h
  have h2 : Bm.ap t (Bm.trn t [(p : Int)]) ≤ 1 := by
    refine (cnt_one _ p (fun i hi => ?_) _).1
    by_cases hl : i < t.length
    · rw [Bm.trn_getD t _ i hl] at hi
      by_cases hp : (p : Int) = (i : Int)
      · omega
      · exfalso
        have e : Bm.tgl (t.getD i 0) [(p : Int)] i = t.getD i 0 := by
          show (if (p : Int) = (i : Int) then t.getD i 0 ^^^ 1 else t.getD i 0) = _
          rw [if_neg hp]
        rw [e] at hi
        simp at hi
    · exfalso
      rw [Bm.getD_ge t _ _ (by omega), Bm.getD_ge _ _ _ (by rw [Bm.trn_length]; omega)] at hi
      simp at hi
  omega

set_option maxHeartbeats 600000 in
set_option maxRecDepth 100000 in
/-- ViterbiMends. -/
theorem walkViterbiMends (A B : Option Addr) (na ca nb cb : Nat) (ys : List Nat) (zs : List Int) (w : World) (h1 : Rd w w.heap.size A na (U8 ys)) (h2 : Rd w w.heap.size B nb (I64 zs)) (b1 : ∀ b ∈ ys, b < 256) (hna : na ≤ 9223372036854775807) (hnb : nb ≤ 9223372036854775807) (hT : Taps w) :
    Calls Tryd.prog 6 #[.slice A na ca, .slice B nb cb] w fun e w' => e = .returned (.bool true) ∧ Below w.heap.size w w' := by
  have C1 := Lib.hid (fewC A na ca 40 ys w h1 b1 (by omega) hna)
  have l1 := Bm.few_length ys 40
  have l1' : (Bm.few ys 40).length ≤ 40 := by omega
  have f1 := Bm.few_bit ys 40
  clear l1
  generalize Bm.few ys 40 = ls at *
  go_enter Tryd.func6, Tryd.ntmps6
  go_wp2_with fail
  refine C1.out.mono ?_
  rintro e w1 ⟨A1, m, c1, rfl, ow1, be1⟩
  have hm : m ≤ 40 := by have := ow1.rd.len8; omega
  have HM := Lib.hid ow1.rd.len8
  have C2 := Lib.hid (refCode A1 m c1 ls w1 (ow1.rdOf (Below.refl _ _)) f1 (by omega))
  have hlc := Cv.code_length ls
  rw [← HM.out] at hlc
  have hcb := Cv.code_bit ls f1
  go_wp2_with (go_at_call 17; refine C2.out.mono ?_; rintro e w2 ⟨A2, n2, c2, rfl, ow2, be2⟩)
  have hn2 := ow2.rd.len8
  rw [hlc] at hn2
  obtain ⟨N, hN⟩ : ∃ N, 4 * (m + 6) = N := ⟨_, rfl⟩
  rw [hN] at hn2 hlc
  subst hn2
  have hN2 : n2 ≤ 200 := by omega
  have hN0 : 0 < n2 := by omega
  have HN := Lib.hid hN
  have b12 := Below.then_ be1 be2
  have hT2 := hT.after b12
  have ow1' := ow1.below be2 (Nat.le_refl _)
  have rz := (h2.below b12).up b12.size
  have HLC := Lib.hid hlc
  have HMD := Lib.hid (fun (ts : List Nat) (hb : ∀ x ∈ ts, x ≤ 1) (hl : ts.length = 4 * (ls.length + 6)) (ha : Bm.ap ts (Cv.code ls) < 10) => Cv.mends ls ts f1 hb hl ha)
  have HN4 : Hid (n2 = 4 * (ls.length + 6)) := by unfold Hid; rw [← HM.out]; exact HN.out.symm
  generalize Cv.code ls = cd at *
  clear C1 C2 h1 h2 b1 l1' be1 be2 hN hT hlc ow1
  go_loopw [6, 7] (fun s i wr => ∃ k : Nat, k ≤ 5 ∧ i = .int .i64 k ∧ ∃ A3 c3, ∃ ts : List Nat, s = .slice A3 n2 c3 ∧ Rd wr wr.heap.size A3 n2 (U8 ts) ∧ Hid ((∀ x ∈ ts, x ≤ 1) ∧ Bm.ap cd ts ≤ k) ∧ Below w2.heap.size w2 wr) (fun _ i _ => 5 - (intOf i).toNat)
  case atStart =>
    refine ⟨0, by omega, rfl, A2, c2, cd, rfl, ow2.rd, ⟨hcb, ?_⟩, Below.refl _ _⟩
    have key : ∀ (l : List Nat) k, Bm.cnt (fun i => l.getD i 0 != l.getD i 0) k = 0 := by
      intro l k
      induction k with
      | zero => rfl
      | succ k ih => unfold Bm.cnt; rw [ih]; simp
    unfold Bm.ap
    rw [key]; omega
  case round =>
    obtain ⟨k, hk, rfl, A3, c3, ts, rfl, hrt, HTS, hbel⟩ := hrel
    have hsz := hbel.size
    have done : (k < nb ∧ k < 5) ∨ (k < nb ∧ ¬ k < 5) ∨ ¬ k < nb := by omega
    by_cases hgo : k < nb ∧ k < 5
    · obtain ⟨hg1, hg2⟩ := hgo
      clear done
      obtain ⟨b, off, rfl, hltb, hcell⟩ := (rz.below hbel).cell64 k hg1
      generalize zs.getD k 0 = z at *
      obtain ⟨u, hu, hu2⟩ := wrap_u64 z
      obtain ⟨p, hp, hp2⟩ : ∃ p : Nat, p < n2 ∧ (u : Int) % (n2 : Int) = (p : Int) := ⟨u % n2, Nat.mod_lt _ hN0, by omega⟩
      have t1 : decide ((k : Int) < (nb : Int)) = true := by simp <;> omega
      have t2 : decide ((k : Int) < 5) = true := by simp <;> omega
      have HTT := Lib.hid (trn_bit1 HTS.out.1 [(p : Int)])
      have HAP := Lib.hid (ap_turn cd ts p (by rw [HLC.out, ← hrt.len8]))
      have hal : Below wr.heap.size wr (wr.alloc (.cells #[.int .i64 (p : Int)] 3)) := (Below.refl _ _).alloc (Nat.le_refl _) _
      have D := Lib.hid (refTurn A3 (some ⟨wr.heap.size, 0, none⟩) n2 c3 1 1 ts [(p : Int)] (wr.alloc (.cells #[.int .i64 (p : Int)] 3)) ((hrt.below hal).up hal.size) ((rd_new wr 3 (.int .i64 (p : Int))).up (by simp)) (bit256 HTS.out.1) (by omega) (by omega))
      go_wp2_with (go_at_call 19; refine D.out.mono ?_; rintro e w4 ⟨A4, n4, c4, rfl, ow4, be4⟩)
      have hn4 : n4 = n2 := by rw [ow4.rd.len8, Bm.trn_length, ← hrt.len8]
      subst hn4
      go_roundw
      case rel => exact ⟨k + 1, by omega, by go_num, A4, c4, _, rfl, ow4.rd, ⟨HTT.out, by have := HAP.out; have := HTS.out.2; omega⟩, hbel.trans ((Below.then_ hal be4).mono hsz)⟩
      case measure => simp [intOf] <;> omega
    · have HAP5 : Hid (Bm.ap cd ts ≤ 5) := by have := HTS.out.2; unfold Hid; omega
      have HLT := Lib.hid hrt.len8
      have HST := Lib.hid (fun k hk => Cv.soft_take ts k hk)
      have hT3 := hT2.after hbel
      have K1 := Lib.hid (fun W (hB : Below wr.heap.size wr W) => ow1'.convO W (Below.then_ hbel hB))
      have K2 := Lib.hid (fun W (hB : Below wr.heap.size wr W) => refApart A2 A3 n2 c2 c3 cd ts W (ow2.rdOf (Below.then_ hbel hB)) ((hrt.below hB).up hB.size) (bit256 hcb) (bit256 HTS.out.1) (by omega))
      have HB3 := Lib.hid (Below.then_ b12 hbel)
      have ht : (¬ k < nb ∧ decide ((k : Int) < (nb : Int)) = false) ∨ (k < nb ∧ ¬ k < 5 ∧ decide ((k : Int) < (nb : Int)) = true) := by
        by_cases hq : k < nb
        · exact .inr ⟨hq, by omega, by simp <;> omega⟩
        · exact .inl ⟨hq, by simp <;> omega⟩
      have HTB := Lib.hid HTS.out.1
      have HSB := Lib.hid (Cv.soft_bounds ts)
      obtain ⟨hbest, htot⟩ := HMD.out ts HTS.out.1 (by rw [← HLT.out]; exact HN4.out) (by rw [Cv.ap_comm ts cd (by rw [← HLT.out, HLC.out])]; have := HAP5.out; omega)
      have HRB : Hid (Cv.rb (Cv.soft ts) m 0 0 = ls) := by
        unfold Hid
        have := (Cv.rb_best (Cv.soft ts) m)
        rw [HM.out] at this ⊢
        exact this.uniq hbest
      have HMB : Hid (Cv.mb (Cv.soft ts) m 0 0 = (n2 : Int) - 2 * (Bm.ap cd ts : Nat)) := by
        unfold Hid
        rw [← Cv.rb_eq, HRB.out, HLT.out, ← Cv.ap_comm ts cd (by rw [← HLT.out, HLC.out])]
        exact htot
      clear done hgo hbest htot HMD
      generalize hs0 : str ls = s0 at *
      have HS0 := Lib.hid hs0
      generalize Bm.ap cd ts = q at *
      have hq5 : q ≤ 5 := HAP5.out
      obtain ⟨wo, rfl⟩ : ∃ wo : World, wo = wr := ⟨_, rfl⟩
      clear hs0
      rcases ht with ⟨t0, t1⟩ | ⟨t0, t2, t1⟩
      all_goals
        go_wp2
        go_loopw [8, 9] (fun s i wq => ∃ j : Nat, j ≤ n2 ∧ i = .int .i64 j ∧ ∃ A6 c6, s = .slice A6 j c6 ∧ Own wq wo.heap.size 3 A6 j c6 (I64 (Cv.soft (ts.take j))) ∧ Below wo.heap.size wo wq) (fun _ i _ => n2 - (intOf i).toNat)
        case atStart => exact ⟨0, Nat.zero_le _, rfl, none, 0, rfl, Own.nil _ _ _, Below.refl _ _⟩
        case round =>
          obtain ⟨j, hj, rfl, A6, c6, rfl, hown, hbel6⟩ := hrel
          have hsz6 := hbel6.size
          by_cases hlt : j < n2
          · obtain ⟨b, off, rfl, hlt2, hcell⟩ := (hrt.below hbel6).cell8 j hlt
            have HT := Lib.hid (HST.out j (by rw [← HLT.out]; exact hlt))
            obtain ⟨x, hxe⟩ : ∃ x, x = ts.getD j 0 := ⟨_, rfl⟩
            rw [← hxe] at hcell HT
            clear hxe
            have C3 := Lib.hid (refOf x wr)
            obtain ⟨o, ho⟩ : ∃ o : Int, o = (if x = 0 then 1 else -1) := ⟨_, rfl⟩
            rw [← ho] at C3 HT
            clear ho
            go_wp2_with (first | (go_at_call 20; refine C3.out.mono ?_; rintro e w' ⟨rfl, rfl⟩) | (at_builtin; refine app64 _ rfl _ _ rfl wo.heap.size _ _ _ _ o rfl hown rfl (by omega) hsz6 ?_; intro A7 c7 w7 hown7 hgrow7))
            go_roundw
            case rel =>
              refine ⟨j + 1, by omega, by go_num, A7, c7, rfl, ?_, hbel6.grown hgrow7 hsz6 (fun j hj => (hown.block j hj).1)⟩
              rw [HT.out]
              exact hown7
            case measure => simp [intOf] <;> omega
          · obtain rfl : j = n2 := by omega
            rw [List.take_of_length_le (by rw [← HLT.out]; omega)] at hown
            have D := Lib.hid (decodeO A6 j m c6 wo.heap.size (Cv.soft ts) wr wr hown (Below.refl _ _) HSB.out HN.out.symm (by omega) (hT3.after hbel6))
            rw [HRB.out, HMB.out] at D
            have f1 : IntKind.i64.wrap (2 * (q : Int)) = 2 * (q : Int) := IntWalk.i64_in _ (by omega)
            have f2 : IntKind.i64.wrap ((j : Int) - 2 * (q : Int)) = (j : Int) - 2 * (q : Int) := IntWalk.i64_in _ (by omega)
            go_wp2_with (first | (go_at_call 11; refine D.out.mono ?_; rintro e w8 ⟨A8, n8, c8, rfl, ow8, be8⟩; have b8 := Below.then_ hbel6 be8) | (go_at_call 13; refine (decodesC w8 (hT3.after b8)).mono ?_; rintro e w9 ⟨rfl, be9⟩; have b9 := Below.then_ b8 be9; have hcv1 := ow8.conv w9 be9; have hcv2 : (convert 25 9 (.slice A1 m c1)).run Tryd.prog w9 = .ok (.string s0) w9 := K1.out w9 b9; rw [HS0.out] at hcv1) | (go_at_call 21; refine (K2.out w9 b9).mono ?_; rintro e w' ⟨rfl, mm, rfl⟩))
            go_ret
            exact ⟨rfl, (Below.then_ HB3.out b9).trans (below_drawn mm)⟩
end Go.Proofs.YtlnjealhiikmeabDoor
