/-
  The walk of SchedTells.
-/
import Derived.Test.YtepcipcppdndfaaJg
namespace Go.Proofs.Ytepcipcppdndfaa
open Go.RowKit
set_option linter.unusedVariables false
set_option linter.unusedSimpArgs false
set_option maxRecDepth 100000

theorem grown_setCell (w : World) (g p : Nat) (u : Value) : w.grownBy (w.setCell ⟨g, p, none⟩ u) (some g) :=
  ⟨rfl, rfl, rfl, by simp, fun k hk hne => heap_setCell_other w ⟨g, p, none⟩ k u (by intro e; exact hne (by rw [e]))⟩
theorem Own.up {w : World} {base : Nat} {e : TypeId} {A : Option Addr} {n c : Nat} {xs : List Value} (h : Own w base e A n c xs) : ∀ k, blk A = some k → k < w.heap.size := fun k hk => (h.blkLt k hk).2
theorem i64_set (zs : List Int) (i : Nat) (z : Int) : (I64 zs).set i (.int .i64 z) = I64 (zs.set i z) := by simp [I64, List.map_set]
theorem getD_set_ne (zs : List Int) (i j : Nat) (z : Int) (h : i ≠ j) : (zs.set i z).getD j 0 = zs.getD j 0 := by simp [List.getD, h]

set_option maxHeartbeats 1000000 in
theorem schedTellsNo (z t : Int) (w : World) (h : z < 1 ∨ 4 < z) :
    Calls Try.prog 12 #[.int .i64 z, .int .i64 t] w fun e w' => e = .returned (.bool true) ∧ Below w.heap.size w w' := by
  have CN := Lib.hid (schedNo z w h)
  have CP := Lib.hid plansC
  have C0 := Lib.hid noneC
  have C1 := Lib.hid nextNil
  have C2 := Lib.hid triesNil
  have C3 := Lib.hid sentNil
  have hnil := nilPlan
  by_cases h1 : z < 1
  · clear h
    go_enter Try.func12, Try.ntmps12
    go_wp2_with (first | (go_at_call 36; refine CN.out.mono ?_; rintro e w1 ⟨rfl, rfl⟩) | (go_at_call 37; refine (CP.out _).mono ?_; rintro e w2 ⟨rfl, be2⟩) | (go_at_call 38; refine (C0.out _).mono ?_; rintro e w3 ⟨rfl, rfl⟩) | (go_at_call 39; refine (C1.out _).mono ?_; rintro e w3 ⟨rfl, rfl⟩) | (go_at_call 40; refine (C2.out _).mono ?_; rintro e w3 ⟨rfl, rfl⟩) | (go_at_call 41; refine (C3.out _).mono ?_; rintro e w3 ⟨rfl, rfl⟩))
    go_ret
    exact ⟨rfl, be2⟩
  · have h2 : 4 < z := by omega
    clear h
    go_enter Try.func12, Try.ntmps12
    go_wp2_with (first | (go_at_call 36; refine CN.out.mono ?_; rintro e w1 ⟨rfl, rfl⟩) | (go_at_call 37; refine (CP.out _).mono ?_; rintro e w2 ⟨rfl, be2⟩) | (go_at_call 38; refine (C0.out _).mono ?_; rintro e w3 ⟨rfl, rfl⟩) | (go_at_call 39; refine (C1.out _).mono ?_; rintro e w3 ⟨rfl, rfl⟩) | (go_at_call 40; refine (C2.out _).mono ?_; rintro e w3 ⟨rfl, rfl⟩) | (go_at_call 41; refine (C3.out _).mono ?_; rintro e w3 ⟨rfl, rfl⟩))
    go_ret
    exact ⟨rfl, be2⟩

set_option maxHeartbeats 4000000 in
theorem schedTellsYes (b : Nat) (z : Int) (w : World) (hb : 1 ≤ b ∧ b ≤ 4) :
    Calls Try.prog 12 #[.int .i64 (b : Int), .int .i64 z] w fun e w' => e = .returned (.bool true) ∧ Below w.heap.size w w' := by
  have CN := Lib.hid (schedNew b w hb)
  have CP := Lib.hid plansC
  have C0 := Lib.hid noneC
  have C1 := Lib.hid nextNil
  have C2 := Lib.hid triesNil
  have C3 := Lib.hid sentNil
  have hnil := nilPlan
  obtain ⟨u, hu, hu2⟩ := wrap_u64 z
  obtain ⟨N, hN, hN2⟩ : ∃ N : Nat, N < 30 ∧ (u : Int) % 30 = (N : Int) := ⟨u % 30, by omega, by omega⟩
  have d1 : decide ((b : Int) < 1) = false := by simp; omega
  have d2 : decide ((4 : Int) < (b : Int)) = false := by simp; omega
  go_enter Try.func12, Try.ntmps12
  go_upto_region 4 with (first | (go_at_call 36; refine CN.out.mono ?_; rintro e w1 ⟨rfl, L1⟩) | (go_at_call 37; refine (CP.out _).mono ?_; rintro e w2 ⟨rfl, be2⟩) | (go_at_call 38; refine (C0.out _).mono ?_; rintro e w3 ⟨rfl, rfl⟩) | (go_at_call 39; refine (C1.out _).mono ?_; rintro e w3 ⟨rfl, rfl⟩) | (go_at_call 40; refine (C2.out _).mono ?_; rintro e w3 ⟨rfl, rfl⟩) | (go_at_call 41; refine (C3.out _).mono ?_; rintro e w3 ⟨rfl, rfl⟩))
  have q2 := L1.row.after be2
  have bel2 := Below.then_ L1.bel be2
  have hs2 : w.heap.size < w2.heap.size := by have := be2.size; have := L1.size; omega
  obtain ⟨gp, hgp⟩ : ∃ g, g = w.heap.size := ⟨_, rfl⟩
  rw [← hgp] at q2 hs2 ⊢
  have HG := Lib.hid hgp
  obtain ⟨B0, hB0⟩ : ∃ B, B = w2.heap.size := ⟨_, rfl⟩
  rw [← hB0] at hs2
  have HB0 := Lib.hid hB0
  clear hgp L1 be2 CN CP C0 C1 C2 C3
  go_upto_region 8 with fail
  go_wp2
  clear hN2 d1 d2 hB0 hu hu2
  go_loopw [8, 9] (fun s x wr => ∃ k : Nat, k ≤ N ∧ x = .int .i64 ((k + 1 : Nat) : Int) ∧ ∃ A c m, s = .slice A m c ∧ Hid (m = sn b k) ∧ Own wr B0 3 A m c (I64 (vl m)) ∧ Blk wr gp 76 (pl b k) ∧ Below w.heap.size w wr ∧ B0 ≤ wr.heap.size) (fun _ x _ => N + 1 - (intOf x).toNat)
  case atStart => exact ⟨0, by omega, rfl, none, 0, 0, rfl, (show 0 = sn b 0 from rfl), Own.nil _ _ _, q2, bel2, Nat.le_of_eq HB0.out⟩
  case round =>
    clear q2 bel2
    obtain ⟨k, hk, rfl, A, c, m, rfl, HM, own, q, bw, hBr⟩ := hrel
    obtain ⟨t, ht⟩ : ∃ t, t = k + 1 := ⟨_, rfl⟩
    rw [← ht]
    by_cases hlt : t ≤ N
    · have C := Lib.hid (nextC gp b k wr q hb (by omega))
      have CR := Lib.hid (fun W => refNextC b k t W hb ht (by omega))
      have HL := Lib.hid (nx_length b k)
      have HGE := Lib.hid (nx_get b k)
      have HSL := Lib.hid (sn_le b k)
      have HSN : Hid (sn b (k + 1) ≤ 40) := by unfold Hid sn; rw [if_neg (by omega)]; omega
      have HT := Lib.hid ht
      have HL1 : Hid (1 ≤ (nx b k).length) := by unfold Hid; rw [HL.out]; unfold sn; rw [if_neg (show ¬ k + 1 = 0 by omega)]; split <;> omega
      clear ht
      go_upto_region 12 with (first | (go_at_call 39; refine C.out.mono ?_; rintro e w4 ⟨A4, c4', rfl, own4, ch4⟩) | (go_at_call 42; refine (CR.out _).mono ?_; rintro e w5 ⟨A5, c5, rfl, own5, be5⟩))
      have own_1 := own.chg ch4.gr (fun j hj e => by have := own.blkLt j hj; injection e with e; omega)
      have own_2 := own_1.below be5 (Nat.le_refl _)
      have own4b := own4.below be5 (Nat.le_refl _)
      have q5 := ch4.row.after be5
      have bw5 : Below w.heap.size w w5 := Below.then_ (bw.trans (ch4.below (Nat.le_of_eq HG.out.symm) bw.size)) be5
      have hs4 := ch4.size
      have hs5 := be5.size
      obtain ⟨g4, rfl, hg4, hg4l⟩ : ∃ g, A4 = some ⟨g, 0, none⟩ ∧ wr.heap.size ≤ g ∧ g < w4.heap.size := by
        obtain ⟨g, h1, h2, h3, _⟩ := own4.slot 0 HL1.out
        exact ⟨g, h1, h2, h3⟩
      obtain ⟨g5, rfl, hg5, hg5l⟩ : ∃ g, A5 = some ⟨g, 0, none⟩ ∧ w4.heap.size ≤ g ∧ g < w5.heap.size := by
        obtain ⟨g, h1, h2, h3, _⟩ := own5.slot 0 HL1.out
        exact ⟨g, h1, h2, h3⟩
      have hA4 : ∀ j, blk A = some j → j ≠ g4 ∧ j ≠ g5 := fun j hj => by have := own.blkLt j hj; omega
      have hbr : B0 ≤ w5.heap.size := by omega
      have hgp4 : gp < g4 := by omega
      have h45 : g4 < g5 := by omega
      generalize (nx b k).length = L at *
      have hm : m + L ≤ 40 := by have := HL.out; have := HSL.out; have := HSN.out; have := HM.out; omega
      have HML : Hid (m + L = sn b (k + 1)) := by unfold Hid; have := HL.out; have := HSL.out; have := HM.out; omega
      obtain ⟨B4, hB4⟩ : ∃ B, B = wr.heap.size := ⟨_, rfl⟩
      rw [← hB4] at own4b hg4
      obtain ⟨B5, hB5⟩ : ∃ B, B = w4.heap.size := ⟨_, rfl⟩
      rw [← hB5] at own5 hg5
      clear ch4 be5 own own_1 own4 C CR bw q hBr hs4 hs5 hg4l hg5l hB4 hB5 HL1
      have tL : ((L : Int) != (L : Int)) = false := by simp
      go_upto_region 14 with fail
      go_wp2
      obtain ⟨wo, rfl⟩ : ∃ wo : World, wo = wr := ⟨_, rfl⟩
      go_loopw [8, 12] (fun s x wr => ∃ i : Nat, i ≤ L ∧ x = .int .i64 i ∧ ∃ A c n ys, s = .slice A n c ∧ Hid (n = m + i) ∧ Own wr B0 3 A n c (I64 (vl n)) ∧ (∀ j, blk A = some j → j ≠ g4 ∧ j ≠ g5) ∧ Own wr B4 3 (some ⟨g4, 0, none⟩) L c4' (I64 ys) ∧ Hid (ys.length = L ∧ ∀ j, i ≤ j → j < L → ys.getD j 0 = (nx b k).getD j 0) ∧ Own wr B5 3 (some ⟨g5, 0, none⟩) L c5 (I64 (nx b k)) ∧ Blk wr gp 76 (pl b (k + 1)) ∧ Below w.heap.size w wr ∧ B0 ≤ wr.heap.size) (fun _ x _ => L - (intOf x).toNat)
      case atStart => exact ⟨0, by omega, rfl, A, c, m, nx b k, rfl, rfl, own_2, hA4, own4b, ⟨by have := own4b.rd.len64; exact this.symm, fun j _ _ => rfl⟩, own5, q5, bw5, hbr⟩
      case round =>
        clear own_2 own4b own5 q5 bw5 hA4 hbr
        obtain ⟨i, hi, rfl, A, c, n, ys, rfl, HN, own, hA, ownl, HY, ownr, q, bw, hBr⟩ := hrel
        by_cases hil : i < L
        · obtain ⟨v, hv⟩ : ∃ v : Int, v = (((n % 4 : Nat)) : Int) := ⟨_, rfl⟩
          have hv4 : 0 ≤ v ∧ v ≤ 3 := by omega
          have HVL : Hid (vl (n + 1) = vl n ++ [v]) := by unfold Hid; rw [vl_succ, hv]
          have hnx : (nx b k).getD i 0 = v := by rw [HGE.out i hil, hv, HN.out, HM.out]
          obtain ⟨xx, e1, hl4, _, kl, fl, _⟩ := ownl.slot i hil
          injection e1 with e1
          injection e1 with e1
          subst e1
          rw [I64_get _ _ (by rw [HY.out.1]; exact hil), HY.out.2 i (Nat.le_refl _) hil, hnx] at kl
          obtain ⟨xy, e2, hr4, _, kr, _, _⟩ := ownr.slot i hil
          injection e2 with e2
          injection e2 with e2
          subst e2
          rw [I64_get _ _ (by rw [← ownr.rd.len64]; exact hil), hnx] at kr
          have hn40 : n ≤ 40 := by have := HN.out; omega
          have HN2 : Hid (n + 1 = m + (i + 1)) := by unfold Hid; have := HN.out; omega
          have HY2 : Hid ((ys.set i 9).length = L ∧ ∀ j, i + 1 ≤ j → j < L → (ys.set i 9).getD j 0 = (nx b k).getD j 0) := ⟨by rw [List.length_set]; exact HY.out.1, fun j h1 h2 => by rw [getD_set_ne _ _ _ _ (by omega)]; exact HY.out.2 j (by omega) h2⟩
          have hblt := own.blkLt
          clear hv hnx
          generalize vl n = V at *
          go_upto_region 17 with fail
          go_region
          have bd : Below wr.heap.size wr wr.drew := (Below.refl _ _).drew
          have own_d := own.below bd (Nat.le_refl _)
          have ownl_d := ownl.below bd (Nat.le_refl _)
          have ownr_d := ownr.below bd (Nat.le_refl _)
          have q_d := q.after bd
          have bw_d := Below.then_ bw bd
          have hBd : B0 ≤ wr.drew.heap.size := hBr
          replace kl : wr.drew.cell? ⟨g4, i, none⟩ = some (.int .i64 v) := kl
          generalize hwd : wr.drew = wd at *
          clear own ownl ownr q bw hBr kr fl bd hwd
          go_upto_region 20 with (at_builtin; refine app64At _ rfl _ _ rfl B0 _ _ _ _ v rfl own_d rfl (by omega) hBd ?_; intro A8 c8 w8 own8 gr8 hl8)
          have hA8 : ∀ j, blk A8 = some j → j ≠ g4 ∧ j ≠ g5 := fun j hj => by
            rcases hl8 with e | ⟨j2, e, hj2⟩
            · exact hA j (by rw [← e]; exact hj)
            · rw [e] at hj; injection hj with hj
              have h1 := ownl_d.blkLt g4 rfl
              have h2 := ownr_d.blkLt g5 rfl
              omega
          have hne4 : ∀ j, blk (some (⟨g4, 0, none⟩ : Addr)) = some j → (Value.slice A n c).ownBlock ≠ some j := fun j hj e => by
            rw [blk_own] at e
            injection hj with hj
            exact (hA j e).1 hj.symm
          have hne5 : ∀ j, blk (some (⟨g5, 0, none⟩ : Addr)) = some j → (Value.slice A n c).ownBlock ≠ some j := fun j hj e => by
            rw [blk_own] at e
            injection hj with hj
            exact (hA j e).2 hj.symm
          have ownl8 := ownl_d.chg gr8 hne4
          have ownr8 := ownr_d.chg gr8 hne5
          have q8 := q_d.grown gr8 (fun e => by rw [blk_own] at e; have := own_d.blkLt gp e; omega)
          have bw8 := bw_d.grown gr8 bw_d.size (fun j hj => by rw [blk_own] at hj; have := own_d.blkLt j hj; have := HG.out; omega)
          have hB8 : B0 ≤ w8.heap.size := Nat.le_trans hBd gr8.size
          obtain ⟨xx, e1, _, hl9, kl8, fl8, hst⟩ := ownl8.slot i hil
          injection e1 with e1
          injection e1 with e1
          subst e1
          rw [I64_get _ _ (by rw [HY.out.1]; exact hil)] at kl8
          have own9 := own8.chg (grown_setCell w8 g4 i (.int .i64 9)) (fun j hj e => by injection e with e; exact (hA8 j hj).1 e.symm)
          have ownl9 := hst (.int .i64 9)
          rw [i64_set] at ownl9
          have ownr9 := ownr8.chg (grown_setCell w8 g4 i (.int .i64 9)) (fun j hj e => by injection e with e; injection hj with hj; have e2 : g5 = j := hj; omega)
          have q9 := q8.grown (grown_setCell w8 g4 i (.int .i64 9)) (fun e => by injection e with e; omega)
          have bw9 := bw8.grown (grown_setCell w8 g4 i (.int .i64 9)) bw8.size (fun j hj => by injection hj with hj; have := HG.out; omega)
          have hB9 : B0 ≤ (w8.setCell ⟨g4, i, none⟩ (.int .i64 9)).heap.size := by simp; exact hB8
          have HO9 := Lib.hid own9
          have HL9 := Lib.hid ownl9
          have HR9 := Lib.hid ownr9
          have HQ9 := Lib.hid q9
          have HW9 := Lib.hid bw9
          have HZ9 := Lib.hid hB9
          clear own_d ownl_d ownr_d q_d bw_d hl8 gr8 own9 ownl9 ownr9 q9 bw9 hB9 ownl8 ownr8 own8 q8 bw8 hst hne4 hne5 hblt
          go_wp2
          go_roundw
          case rel => exact ⟨i + 1, by omega, by go_num, A8, c8, n + 1, ys.set i 9, rfl, HN2.out, by rw [HVL.out]; exact HO9.out, hA8, HL9.out, HY2.out, HR9.out, HQ9.out, HW9.out, HZ9.out⟩
          case measure => simp [intOf] <;> omega
        · have HE : Hid (n = sn b (k + 1)) := by unfold Hid; rw [HN.out, ← HML.out]; omega
          have HT1 : Hid (t + 1 = k + 1 + 1) := by unfold Hid; have := HT.out; omega
          have hk1 : k + 1 ≤ N := by have := HT.out; omega
          clear ownl ownr
          go_wp2
          go_roundw
          case rel => exact ⟨k + 1, by omega, by rw [← HT1.out]; go_num, A, c, n, rfl, HE.out, own, q, bw, hBr⟩
          case measure => simp [intOf] <;> omega
    · have HKN : Hid (k = N) := by unfold Hid; omega
      have hm40 : m ≤ 40 := by have := HM.out; rw [this]; unfold sn; split <;> omega
      have CT := Lib.hid (fun W (h : Blk W gp 76 (pl b k)) => triesC gp b k W h)
      have CS : Hid (∀ W, Blk W gp 76 (pl b k) → Calls Try.prog 41 #[.pointer (some ⟨gp, 0, none⟩)] W fun e w' => e = .returned (.int .i64 (m : Int)) ∧ ∃ m, w' = W.drewN m) := fun W h => by
        have := sentC gp b k W h hb (by omega)
        rw [← HM.out] at this
        exact this
      rw [HKN.out] at CT
      clear ht
      go_upto_region 21 with fail
      go_wp2
      obtain ⟨wo, rfl⟩ : ∃ wo : World, wo = wr := ⟨_, rfl⟩
      go_loopw [13] (fun x wr => ∃ j : Nat, (j ≤ m ∨ j = 3) ∧ 3 ≤ j ∧ x = .int .i64 j ∧ Own wr B0 3 A m c (I64 (vl m)) ∧ Blk wr gp 76 (pl b k) ∧ Below w.heap.size w wr) (fun x _ => m - (intOf x).toNat)
      case atStart => exact ⟨3, by omega, by omega, rfl, own, q, bw⟩
      case round =>
        clear own q bw hBr
        obtain ⟨j, hj, hj3, rfl, own, q, bw⟩ := hrel
        by_cases hjl : j < m
        · obtain ⟨a, ha⟩ : ∃ a : Nat, a = j - 3 := ⟨_, rfl⟩
          obtain ⟨a2, ha2⟩ : ∃ a2 : Nat, a2 = j - 2 := ⟨_, rfl⟩
          obtain ⟨a1, ha1⟩ : ∃ a1 : Nat, a1 = j - 1 := ⟨_, rfl⟩
          have f3 : (j : Int) - 3 = (a : Int) := by omega
          have f2 : (j : Int) - 2 = (a2 : Int) := by omega
          have f1 : (j : Int) - 1 = (a1 : Int) := by omega
          obtain ⟨v0, hv0⟩ : ∃ v : Int, v = (((a % 4 : Nat)) : Int) := ⟨_, rfl⟩
          obtain ⟨v1, hv1⟩ : ∃ v : Int, v = (((a2 % 4 : Nat)) : Int) := ⟨_, rfl⟩
          obtain ⟨v2, hv2⟩ : ∃ v : Int, v = (((a1 % 4 : Nat)) : Int) := ⟨_, rfl⟩
          obtain ⟨v3, hv3⟩ : ∃ v : Int, v = (((j % 4 : Nat)) : Int) := ⟨_, rfl⟩
          have hs : v0 + v1 + v2 + v3 = 6 := by omega
          have n01 : (v0 == v1) = false := by simp; omega
          have n12 : (v1 == v2) = false := by simp; omega
          have n23 : (v2 == v3) = false := by simp; omega
          have hb0 : 0 ≤ v0 ∧ v0 ≤ 3 := by omega
          have hb1 : 0 ≤ v1 ∧ v1 ≤ 3 := by omega
          have hb2 : 0 ≤ v2 ∧ v2 ≤ 3 := by omega
          have hb3 : 0 ≤ v3 ∧ v3 ≤ 3 := by omega
          have la : a < m := by omega
          have la2 : a2 < m := by omega
          have la1 : a1 < m := by omega
          obtain ⟨x0, o0, e0, _, k0⟩ := own.rd.cell64 a la
          subst e0
          obtain ⟨x1, o1, e1, _, k1⟩ := own.rd.cell64 a2 la2
          injection e1 with e1
          injection e1 with e1 e1b
          subst e1 e1b
          obtain ⟨x2, o2, e2, _, k2⟩ := own.rd.cell64 a1 la1
          injection e2 with e2
          injection e2 with e2 e2b
          subst e2 e2b
          obtain ⟨x3, o3, e3, _, k3⟩ := own.rd.cell64 j hjl
          injection e3 with e3
          injection e3 with e3 e3b
          subst e3 e3b
          rw [vl_get m a la, ← hv0] at k0
          rw [vl_get m a2 la2, ← hv1] at k1
          rw [vl_get m a1 la1, ← hv2] at k2
          rw [vl_get m j hjl, ← hv3] at k3
          have bd : Below wr.heap.size wr wr.drew := (Below.refl _ _).drew
          have HO := Lib.hid (own.below bd (Nat.le_refl _))
          have HQ := Lib.hid (q.after bd)
          have HW := Lib.hid (Below.then_ bw bd)
          clear hv0 hv1 hv2 hv3 ha ha1 ha2 own q bw bd
          go_upto_region 24 with fail
          go_region
          go_wp2
          go_roundw
          case rel => exact ⟨j + 1, by omega, by omega, by go_num, HO.out, HQ.out, HW.out⟩
          case measure => simp [intOf] <;> omega
        · go_wp2_with (first | (go_at_call 40; refine (CT.out _ (HKN.out ▸ q)).mono ?_; rintro e w4 ⟨rfl, rfl⟩) | (go_at_call 41; refine (CS.out _ q).mono ?_; rintro e w5 ⟨rfl, m5, rfl⟩))
          go_ret
          exact ⟨rfl, Below.then_ bw (below_drawn m5)⟩
/-- The walk of SchedTells. -/
theorem schedTells (z t : Int) (w : World) : Calls Try.prog 12 #[.int .i64 z, .int .i64 t] w fun e w' => e = .returned (.bool true) ∧ Below w.heap.size w w' := by
  by_cases h : z < 1 ∨ 4 < z
  · exact schedTellsNo z t w h
  · obtain ⟨b, rfl⟩ : ∃ b : Nat, z = (b : Int) := ⟨z.toNat, by omega⟩
    exact schedTellsYes b t w (by omega)
end Go.Proofs.Ytepcipcppdndfaa
