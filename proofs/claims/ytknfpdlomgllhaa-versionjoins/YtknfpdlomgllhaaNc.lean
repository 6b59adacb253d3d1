/-
  Layer 11: Join.
-/
import Derived.Test.YtknfpdlomgllhaaNb
import Derived.Test.YtknfpdlomgllhaaIx
namespace Go.Proofs.Ytknfpdlomgllhaa
open Go.RowKit
set_option maxRecDepth 100000
set_option linter.unusedVariables false
set_option linter.unusedSimpArgs false

theorem ext_nat {l m : List Nat} (hl : l.length = m.length) (h : ∀ i, i < l.length → l.getD i 0 = m.getD i 0) : l = m := by
  refine List.ext_getElem hl fun i h1 h2 => ?_
  have := h i h1
  rw [Bm.getD_lt _ _ _ h1, Bm.getD_lt _ _ _ h2] at this
  exact this
theorem set_getN (l : List Nat) (i : Nat) (x : Nat) (j : Nat) (h : i < l.length) : (l.set i x).getD j 0 = if i = j then x else l.getD j 0 := by
  by_cases hj : j < l.length
  · rw [Bm.getD_lt _ _ _ (by rw [List.length_set]; exact hj), Bm.getD_lt _ _ _ hj, List.getElem_set]
  · rw [Bm.getD_ge _ _ _ (by rw [List.length_set]; omega), Bm.getD_ge _ _ _ (by omega), if_neg (by omega)]
/-- A code that is joined: so many versions, of the next so many bits. -/
def jf (P : Nat → List Nat) (T k t : Nat) : List Nat := (List.range (4 * T)).map fun p => if Cv.vr (p % 4) (p / 4) < k ∨ (Cv.vr (p % 4) (p / 4) = k ∧ p / 4 < t) then (P (Cv.vr (p % 4) (p / 4))).getD (p / 4) 0 else 0
theorem jf_length (P : Nat → List Nat) (T k t : Nat) : (jf P T k t).length = 4 * T := by simp [jf]
theorem jf_get (P : Nat → List Nat) (T k t p : Nat) (h : p < 4 * T) : (jf P T k t).getD p 0 = if Cv.vr (p % 4) (p / 4) < k ∨ (Cv.vr (p % 4) (p / 4) = k ∧ p / 4 < t) then (P (Cv.vr (p % 4) (p / 4))).getD (p / 4) 0 else 0 := by simp [jf, List.getD, h]
theorem jf_none (P : Nat → List Nat) (T : Nat) : jf P T 0 0 = List.replicate (4 * T) 0 := by
  refine ext_nat (by simp [jf]) fun p hp => ?_
  rw [jf_length] at hp
  rw [jf_get P T 0 0 p hp, if_neg (by omega)]
  simp [List.getD, hp]
theorem jf_next (P : Nat → List Nat) (T k : Nat) : jf P T k T = jf P T (k + 1) 0 := by
  refine ext_nat (by simp [jf]) fun p hp => ?_
  rw [jf_length] at hp
  rw [jf_get P T k T p hp, jf_get P T (k + 1) 0 p hp]
  have : p / 4 < T := by omega
  by_cases h : Cv.vr (p % 4) (p / 4) < k + 1
  · rw [if_pos (by omega), if_pos (by omega)]
  · rw [if_neg (by omega), if_neg (by omega)]
theorem jf_all (P : Nat → List Nat) (T p : Nat) (h : p < 4 * T) : (jf P T 4 0).getD p 0 = (P (Cv.vr (p % 4) (p / 4))).getD (p / 4) 0 := by
  rw [jf_get P T 4 0 p h, if_pos (.inl (Cv.vr_lt _ _))]
theorem jf_at (P : Nat → List Nat) (T k t : Nat) (hk : k < 4) (ht : t < T) : (jf P T k t).set (4 * t + Cv.st k t) ((P k).getD t 0) = jf P T k (t + 1) := by
  have hs := Cv.st_lt k t
  have e1 : (4 * t + Cv.st k t) % 4 = Cv.st k t := by omega
  have e2 : (4 * t + Cv.st k t) / 4 = t := by omega
  have hp : 4 * t + Cv.st k t < 4 * T := by omega
  refine ext_nat (by simp [jf]) fun p hpl => ?_
  rw [List.length_set, jf_length] at hpl
  rw [set_getN _ _ _ _ (by rw [jf_length]; exact hp), jf_get P T k (t + 1) p hpl, jf_get P T k t p hpl]
  by_cases h : 4 * t + Cv.st k t = p
  · subst h
    rw [if_pos rfl, e1, e2, Cv.vr_st k t hk, if_pos (by omega)]
  · rw [if_neg h]
    by_cases hv : Cv.vr (p % 4) (p / 4) = k
    · have hne : p / 4 ≠ t := by
        intro hc
        apply h
        have := Cv.st_vr (p % 4) (p / 4) (by omega)
        rw [hv, hc] at this
        omega
      by_cases hlt : p / 4 < t
      · rw [if_pos (by omega), if_pos (by omega)]
      · rw [if_neg (by omega), if_neg (by omega)]
    · by_cases hlt : Cv.vr (p % 4) (p / 4) < k
      · rw [if_pos (by omega), if_pos (by omega)]
      · rw [if_neg (by omega), if_neg (by omega)]
/-- The versions of what is joined. -/
theorem pick_jf (P : Nat → List Nat) (T v : Nat) (hv : v < 4) (hl : (P v).length = T) : Cv.pick (jf P T 4 0) v = P v := by
  have e : (jf P T 4 0).length / 4 = T := by rw [jf_length]; omega
  refine ext_nat (by rw [Cv.pick_length, e, hl]) fun t ht => ?_
  rw [Cv.pick_length] at ht
  have ht2 : t < T := by omega
  have hs := Cv.st_lt v t
  rw [Cv.pick_get _ v t ht, jf_all P T _ (by omega), show (4 * t + Cv.st v t) % 4 = Cv.st v t by omega, show (4 * t + Cv.st v t) / 4 = t by omega, Cv.vr_st v t hv]
/-- A code's versions joined. -/
theorem jf_pick (l : List Nat) (P : Nat → List Nat) (T : Nat) (hl : l.length = 4 * T) (hP : ∀ v, v < 4 → P v = Cv.pick l v) : jf P T 4 0 = l := by
  refine ext_nat (by rw [jf_length, hl]) fun p hp => ?_
  rw [jf_length] at hp
  rw [jf_all P T p hp, hP _ (Cv.vr_lt _ _), Cv.pick_get _ _ _ (by rw [hl]; omega), Cv.st_vr (p % 4) (p / 4) (by omega), show 4 * (p / 4) + p % 4 = p by omega]
/-- Four lists. -/
def P4 (a b c d : List Nat) (v : Nat) : List Nat := if v = 0 then a else if v = 1 then b else if v = 2 then c else d
/-- What Join gives. -/
def JoinR (w : World) (n0 n1 n2 n3 : Nat) (L0 L1 L2 L3 : List Nat) (e : Ending) (w' : World) : Prop :=
  ((Bm.isB L0 && Bm.isB L1 && Bm.isB L2 && Bm.isB L3) = false ∧ e = .returned (.tuple #[.slice none 0 0, .int .i64 5]) ∧ Below w.heap.size w w') ∨
  ((Bm.isB L0 && Bm.isB L1 && Bm.isB L2 && Bm.isB L3) = true ∧ ¬ (n1 = n0 ∧ n2 = n0 ∧ n3 = n0) ∧ e = .returned (.tuple #[.slice none 0 0, .int .i64 1]) ∧ Below w.heap.size w w') ∨
  ((Bm.isB L0 && Bm.isB L1 && Bm.isB L2 && Bm.isB L3) = true ∧ (n1 = n0 ∧ n2 = n0 ∧ n3 = n0) ∧ ∃ g N, N = 4 * n0 ∧ e = .returned (.tuple #[.slice (some ⟨g, 0, none⟩) N N, .int .i64 0]) ∧ w.heap.size ≤ g ∧ Blk w' g 5 (B8 (jf (P4 L0 L1 L2 L3) n0 4 0)) ∧ Below w.heap.size w w')
set_option maxHeartbeats 1000000 in
set_option maxRecDepth 100000 in
/-- version.Join. -/
theorem vJoin (A0 A1 A2 A3 : Option Addr) (n0 n1 n2 n3 c0 c1 c2 c3 : Nat) (L0 L1 L2 L3 : List Nat) (w : World)
    (r0 : Rd w w.heap.size A0 n0 (U8 L0)) (r1 : Rd w w.heap.size A1 n1 (U8 L1)) (r2 : Rd w w.heap.size A2 n2 (U8 L2)) (r3 : Rd w w.heap.size A3 n3 (U8 L3))
    (h0 : ∀ b ∈ L0, b < 256) (h1 : ∀ b ∈ L1, b < 256) (h2 : ∀ b ∈ L2, b < 256) (h3 : ∀ b ∈ L3, b < 256) (m0 : n0 ≤ 10000) (m1 : n1 ≤ 10000) (m2 : n2 ≤ 10000) (m3 : n3 ≤ 10000) :
    Calls Try.prog 5 #[.agg (S4 (.slice A0 n0 c0) (.slice A1 n1 c1) (.slice A2 n2 c2) (.slice A3 n3 c3))] w (JoinR w n0 n1 n2 n3 L0 L1 L2 L3) := by
  obtain ⟨i0, hi0, hz0, hz1, hz2⟩ := info_parts info5
  have C0 := Lib.hid (fun (W : World) (hb : Below w.heap.size w W) => right A0 n0 c0 L0 W ((r0.below hb).up hb.size) h0 (by omega))
  have C1 := Lib.hid (fun (W : World) (hb : Below w.heap.size w W) => right A1 n1 c1 L1 W ((r1.below hb).up hb.size) h1 (by omega))
  have C2 := Lib.hid (fun (W : World) (hb : Below w.heap.size w W) => right A2 n2 c2 L2 W ((r2.below hb).up hb.size) h2 (by omega))
  have C3 := Lib.hid (fun (W : World) (hb : Below w.heap.size w W) => right A3 n3 c3 L3 W ((r3.below hb).up hb.size) h3 (by omega))
  unfold JoinR
  obtain ⟨b0, hb0⟩ : ∃ b, b = Bm.isB L0 := ⟨_, rfl⟩
  rw [← hb0] at C0
  rw [← hb0]
  clear hb0 h0
  obtain ⟨b1, hb1⟩ : ∃ b, b = Bm.isB L1 := ⟨_, rfl⟩
  rw [← hb1] at C1
  rw [← hb1]
  clear hb1 h1
  obtain ⟨b2, hb2⟩ : ∃ b, b = Bm.isB L2 := ⟨_, rfl⟩
  rw [← hb2] at C2
  rw [← hb2]
  clear hb2 h2
  obtain ⟨b3, hb3⟩ : ∃ b, b = Bm.isB L3 := ⟨_, rfl⟩
  rw [← hb3] at C3
  rw [← hb3]
  clear hb3 h3
  obtain ⟨V, hV⟩ : ∃ V, V = S4 (.slice A0 n0 c0) (.slice A1 n1 c1) (.slice A2 n2 c2) (.slice A3 n3 c3) := ⟨_, rfl⟩
  have iV : Hid ((Try.prog.info? 25).map (·.size) = some V.size) := by rw [hV]; exact infoS4
  go_enter Try.func5, Try.ntmps5
  rw [← hV]
  go_upto_region 1 with (refine at_box rfl 25 _ rfl V rfl ?_; intro w1 q1)
  have bl := q1.bel
  have q := q1.row
  clear q1
  go_upto_region 2 with (refine at_load rfl 25 _ rfl w.heap.size rfl 25 V _ q Try.underlying25 rfl iV.out ?_)
  subst hV
  unfold S4 at *
  have ix0 : ∀ W, (Instr.index 25 (.agg #[.slice A0 n0 c0, .slice A1 n1 c1, .slice A2 n2 c2, .slice A3 n3 c3]) (.int .i64 0)).run Try.prog W = .ok (.slice A0 n0 c0) W := fun W => run_index1 Try.underlying25 Try.underlying22 rfl infoS1 _ 0 (by omega) .i64 _ rfl W
  have ix1 : ∀ W, (Instr.index 25 (.agg #[.slice A0 n0 c0, .slice A1 n1 c1, .slice A2 n2 c2, .slice A3 n3 c3]) (.int .i64 1)).run Try.prog W = .ok (.slice A1 n1 c1) W := fun W => run_index1 Try.underlying25 Try.underlying22 rfl infoS1 _ 1 (by omega) .i64 _ rfl W
  have ix2 : ∀ W, (Instr.index 25 (.agg #[.slice A0 n0 c0, .slice A1 n1 c1, .slice A2 n2 c2, .slice A3 n3 c3]) (.int .i64 2)).run Try.prog W = .ok (.slice A2 n2 c2) W := fun W => run_index1 Try.underlying25 Try.underlying22 rfl infoS1 _ 2 (by omega) .i64 _ rfl W
  have ix3 : ∀ W, (Instr.index 25 (.agg #[.slice A0 n0 c0, .slice A1 n1 c1, .slice A2 n2 c2, .slice A3 n3 c3]) (.int .i64 3)).run Try.prog W = .ok (.slice A3 n3 c3) W := fun W => run_index1 Try.underlying25 Try.underlying22 rfl infoS1 _ 3 (by omega) .i64 _ rfl W
  have k0 : w1.cell? ⟨w.heap.size, 0, none⟩ = some (.slice A0 n0 c0) := q.cell 0
  refine wp_loop_rounds 5 ?_
  rw [rounds_succ]
  cases b0
  · go_wp2_with (go_at_call 23; refine (C0.out _ bl).mono ?_; rintro e w' ⟨rfl, rfl⟩)
    go_ret2
    exact .inl ⟨by simp, rfl, bl⟩
  · go_wp2_with (go_at_call 23; refine (C0.out _ bl).mono ?_; rintro e w' ⟨rfl, rfl⟩)
    rw [rounds_succ]
    cases b1
    · go_wp2_with (go_at_call 23; refine (C1.out _ bl).mono ?_; rintro e w' ⟨rfl, rfl⟩)
      go_ret2
      exact .inl ⟨by simp, rfl, bl⟩
    · go_wp2_with (go_at_call 23; refine (C1.out _ bl).mono ?_; rintro e w' ⟨rfl, rfl⟩)
      rw [rounds_succ]
      cases b2
      · go_wp2_with (go_at_call 23; refine (C2.out _ bl).mono ?_; rintro e w' ⟨rfl, rfl⟩)
        go_ret2
        exact .inl ⟨by simp, rfl, bl⟩
      · go_wp2_with (go_at_call 23; refine (C2.out _ bl).mono ?_; rintro e w' ⟨rfl, rfl⟩)
        rw [rounds_succ]
        cases b3
        · go_wp2_with (go_at_call 23; refine (C3.out _ bl).mono ?_; rintro e w' ⟨rfl, rfl⟩)
          go_ret2
          exact .inl ⟨by simp, rfl, bl⟩
        · go_wp2_with (go_at_call 23; refine (C3.out _ bl).mono ?_; rintro e w' ⟨rfl, rfl⟩)
          rw [rounds_succ]
          go_upto_region 9 with (refine at_load rfl 25 _ rfl w.heap.size rfl 25 #[.slice A0 n0 c0, .slice A1 n1 c1, .slice A2 n2 c2, .slice A3 n3 c3] _ q Try.underlying25 rfl iV.out ?_)
          refine wp_loop_rounds 5 ?_
          have t0 : ((n0 : Int) != (n0 : Int)) = false := by simp
          rw [rounds_succ]
          go_wp2
          rw [rounds_succ]
          by_cases e1 : n1 = n0
          · have t1 : ((n1 : Int) != (n0 : Int)) = false := by simp [e1]
            have E1 := Lib.hid e1
            clear e1
            go_wp2
            rw [rounds_succ]
            by_cases e2 : n2 = n0
            · have t2 : ((n2 : Int) != (n0 : Int)) = false := by simp [e2]
              have E2 := Lib.hid e2
              clear e2
              go_wp2
              rw [rounds_succ]
              by_cases e3 : n3 = n0
              · have t3 : ((n3 : Int) != (n0 : Int)) = false := by simp [e3]
                have E3 := Lib.hid e3
                clear e3
                go_wp2
                rw [rounds_succ]
                obtain ⟨N, hN⟩ : ∃ N, N = 4 * n0 := ⟨_, rfl⟩
                have eN : 4 * (n0 : Int) = (N : Int) := by omega
                have hN2 : N ≤ 40000 := by omega
                have HN := Lib.hid hN
                clear hN
                go_upto_region 15 with (at_make; refine wpList_make_full _ rfl _ _ 22 rfl w1.heap.size 5 i0 (.int .u8 0) 1 Try.underlying22 hi0 hz0 hz1 .i64 .i64 _ _ N rfl rfl (by first | rfl | omega) (by first | rfl | omega) (by rw [hz2]; omega) (by unfold maxLen; omega) (Nat.le_refl _) ?_; intro w2 hown hgrow)
                have bel2 : Below w1.heap.size w1 w2 := (Below.refl _ _).grown hgrow (Nat.le_refl _) (fun k h => by cases h)
                have hw := bl.size
                have q2 := q.after bel2
                have p : Blk w2 w1.heap.size 5 (B8 (jf (P4 L0 L1 L2 L3) n0 0 0)) := by
                  rw [made8] at hown
                  rw [jf_none, ← HN.out]
                  exact own_blk8 (n := N) ⟨hown⟩
                obtain ⟨g, hg⟩ : ∃ g, g = w1.heap.size := ⟨_, rfl⟩
                rw [← hg] at p bel2
                rw [← hg]
                have hgw : w.heap.size ≤ g := by omega
                replace bl := bl.trans (bel2.mono hgw)
                clear hown hgrow hi0 hz0 hz1 hz2 bel2 hg q hw k0
                go_upto_region 16 with (refine at_load rfl 25 _ rfl w.heap.size rfl 25 #[.slice A0 n0 c0, .slice A1 n1 c1, .slice A2 n2 c2, .slice A3 n3 c3] _ q2 Try.underlying25 rfl iV.out ?_)
                clear q2
                refine wp_loop_rounds 5 ?_
                rw [rounds_succ]
                go_wp2
                go_loopw [44] (fun x wr => ∃ t : Nat, t ≤ n0 ∧ x = .int .i64 t ∧ Blk wr g 5 (B8 (jf (P4 L0 L1 L2 L3) n0 0 t)) ∧ Below w.heap.size w wr) (fun x _ => n0 - (intOf x).toNat)
                case atStart => exact ⟨0, Nat.zero_le _, rfl, p, bl⟩
                case round =>
                  clear p bl
                  obtain ⟨t, ht, rfl, p, bl⟩ := hrel
                  by_cases hlt : t < n0
                  · have hs := Cv.st_lt 0 t
                    have HT : Hid (t < n0) := by unfold Hid; omega
                    have CP : Hid (Calls Try.prog 24 #[.int .i64 0, .int .i64 (t : Int)] wr fun e w' => e = .returned (.int .i64 ((4 * t + Cv.st 0 t : Nat) : Int)) ∧ wr = w') := vplace 0 t wr (by omega) (by omega)
                    have HS := Lib.hid (jf_at (P4 L0 L1 L2 L3) n0 0 t (by omega) HT.out)
                    have sz : 4 * t + Cv.st 0 t < (B8 (jf (P4 L0 L1 L2 L3) n0 0 t)).size := by rw [B8_size, jf_length]; have := HT.out; omega
                    have hpN : 4 * t + Cv.st 0 t < N := by have := HT.out; have := HN.out; omega
                    rw [show P4 L0 L1 L2 L3 0 = L0 from rfl] at HS
                    generalize 4 * t + Cv.st 0 t = pp at *
                    generalize hM : jf (P4 L0 L1 L2 L3) n0 0 t = M at *
                    clear hM hs
                    obtain ⟨b, off, hA, hlt2, hcell⟩ := (r0.below bl).cell8 t hlt
                    subst hA
                    generalize L0.getD t 0 = x at *
                    go_wp2_with (first | (go_at_call 24; refine CP.out.mono ?_; rintro e w' ⟨rfl, rfl⟩) | (refine at_cell rfl 5 _ _ rfl g pp (.int .u8 (x : Int)) rfl rfl 5 (B8 M) p sz info5one rfl ?_; intro w6 h6))
                    go_roundw
                    case rel => exact ⟨t + 1, by omega, by go_num, by rw [← HS.out, ← B8_set]; exact h6.row, bl.trans (h6.below hgw)⟩
                    case measure => simp [intOf] <;> omega
                  · have HT : Hid (t = n0) := by unfold Hid; omega
                    replace p : Blk wr g 5 (B8 (jf (P4 L0 L1 L2 L3) n0 1 0)) := by rw [← jf_next]; rw [HT.out] at p; exact p
                    have dt : decide ((t : Int) < (n0 : Int)) = false := by simp <;> omega
                    clear HT
                    obtain ⟨v0, hv0⟩ : ∃ v, v = wr := ⟨_, rfl⟩
                    go_wp2
                    rw [rounds_succ]
                    go_wp2
                    go_loopw [44] (fun x wr => ∃ t : Nat, t ≤ n1 ∧ x = .int .i64 t ∧ Blk wr g 5 (B8 (jf (P4 L0 L1 L2 L3) n0 1 t)) ∧ Below w.heap.size w wr) (fun x _ => n1 - (intOf x).toNat)
                    case atStart => exact ⟨0, Nat.zero_le _, rfl, p, bl⟩
                    case round =>
                      clear p bl
                      obtain ⟨t, ht, rfl, p, bl⟩ := hrel
                      by_cases hlt : t < n1
                      · have hs := Cv.st_lt 1 t
                        have HT : Hid (t < n0) := by unfold Hid; have := E1.out; omega
                        have CP : Hid (Calls Try.prog 24 #[.int .i64 1, .int .i64 (t : Int)] wr fun e w' => e = .returned (.int .i64 ((4 * t + Cv.st 1 t : Nat) : Int)) ∧ wr = w') := vplace 1 t wr (by omega) (by omega)
                        have HS := Lib.hid (jf_at (P4 L0 L1 L2 L3) n0 1 t (by omega) HT.out)
                        have sz : 4 * t + Cv.st 1 t < (B8 (jf (P4 L0 L1 L2 L3) n0 1 t)).size := by rw [B8_size, jf_length]; have := HT.out; omega
                        have hpN : 4 * t + Cv.st 1 t < N := by have := HT.out; have := HN.out; omega
                        rw [show P4 L0 L1 L2 L3 1 = L1 from rfl] at HS
                        generalize 4 * t + Cv.st 1 t = pp at *
                        generalize hM : jf (P4 L0 L1 L2 L3) n0 1 t = M at *
                        clear hM hs
                        obtain ⟨b, off, hA, hlt2, hcell⟩ := (r1.below bl).cell8 t hlt
                        subst hA
                        generalize L1.getD t 0 = x at *
                        go_wp2_with (first | (go_at_call 24; refine CP.out.mono ?_; rintro e w' ⟨rfl, rfl⟩) | (refine at_cell rfl 5 _ _ rfl g pp (.int .u8 (x : Int)) rfl rfl 5 (B8 M) p sz info5one rfl ?_; intro w6 h6))
                        go_roundw
                        case rel => exact ⟨t + 1, by omega, by go_num, by rw [← HS.out, ← B8_set]; exact h6.row, bl.trans (h6.below hgw)⟩
                        case measure => simp [intOf] <;> omega
                      · have HT : Hid (t = n0) := by unfold Hid; have := E1.out; omega
                        replace p : Blk wr g 5 (B8 (jf (P4 L0 L1 L2 L3) n0 2 0)) := by rw [← jf_next]; rw [HT.out] at p; exact p
                        have dt : decide ((t : Int) < (n1 : Int)) = false := by simp <;> omega
                        clear HT
                        obtain ⟨v1, hv1⟩ : ∃ v, v = wr := ⟨_, rfl⟩
                        go_wp2
                        rw [rounds_succ]
                        go_wp2
                        go_loopw [44] (fun x wr => ∃ t : Nat, t ≤ n2 ∧ x = .int .i64 t ∧ Blk wr g 5 (B8 (jf (P4 L0 L1 L2 L3) n0 2 t)) ∧ Below w.heap.size w wr) (fun x _ => n2 - (intOf x).toNat)
                        case atStart => exact ⟨0, Nat.zero_le _, rfl, p, bl⟩
                        case round =>
                          clear p bl
                          obtain ⟨t, ht, rfl, p, bl⟩ := hrel
                          by_cases hlt : t < n2
                          · have hs := Cv.st_lt 2 t
                            have HT : Hid (t < n0) := by unfold Hid; have := E2.out; omega
                            have CP : Hid (Calls Try.prog 24 #[.int .i64 2, .int .i64 (t : Int)] wr fun e w' => e = .returned (.int .i64 ((4 * t + Cv.st 2 t : Nat) : Int)) ∧ wr = w') := vplace 2 t wr (by omega) (by omega)
                            have HS := Lib.hid (jf_at (P4 L0 L1 L2 L3) n0 2 t (by omega) HT.out)
                            have sz : 4 * t + Cv.st 2 t < (B8 (jf (P4 L0 L1 L2 L3) n0 2 t)).size := by rw [B8_size, jf_length]; have := HT.out; omega
                            have hpN : 4 * t + Cv.st 2 t < N := by have := HT.out; have := HN.out; omega
                            rw [show P4 L0 L1 L2 L3 2 = L2 from rfl] at HS
                            generalize 4 * t + Cv.st 2 t = pp at *
                            generalize hM : jf (P4 L0 L1 L2 L3) n0 2 t = M at *
                            clear hM hs
                            obtain ⟨b, off, hA, hlt2, hcell⟩ := (r2.below bl).cell8 t hlt
                            subst hA
                            generalize L2.getD t 0 = x at *
                            go_wp2_with (first | (go_at_call 24; refine CP.out.mono ?_; rintro e w' ⟨rfl, rfl⟩) | (refine at_cell rfl 5 _ _ rfl g pp (.int .u8 (x : Int)) rfl rfl 5 (B8 M) p sz info5one rfl ?_; intro w6 h6))
                            go_roundw
                            case rel => exact ⟨t + 1, by omega, by go_num, by rw [← HS.out, ← B8_set]; exact h6.row, bl.trans (h6.below hgw)⟩
                            case measure => simp [intOf] <;> omega
                          · have HT : Hid (t = n0) := by unfold Hid; have := E2.out; omega
                            replace p : Blk wr g 5 (B8 (jf (P4 L0 L1 L2 L3) n0 3 0)) := by rw [← jf_next]; rw [HT.out] at p; exact p
                            have dt : decide ((t : Int) < (n2 : Int)) = false := by simp <;> omega
                            clear HT
                            obtain ⟨v2, hv2⟩ : ∃ v, v = wr := ⟨_, rfl⟩
                            go_wp2
                            rw [rounds_succ]
                            go_wp2
                            go_loopw [44] (fun x wr => ∃ t : Nat, t ≤ n3 ∧ x = .int .i64 t ∧ Blk wr g 5 (B8 (jf (P4 L0 L1 L2 L3) n0 3 t)) ∧ Below w.heap.size w wr) (fun x _ => n3 - (intOf x).toNat)
                            case atStart => exact ⟨0, Nat.zero_le _, rfl, p, bl⟩
                            case round =>
                              clear p bl
                              obtain ⟨t, ht, rfl, p, bl⟩ := hrel
                              by_cases hlt : t < n3
                              · have hs := Cv.st_lt 3 t
                                have HT : Hid (t < n0) := by unfold Hid; have := E3.out; omega
                                have CP : Hid (Calls Try.prog 24 #[.int .i64 3, .int .i64 (t : Int)] wr fun e w' => e = .returned (.int .i64 ((4 * t + Cv.st 3 t : Nat) : Int)) ∧ wr = w') := vplace 3 t wr (by omega) (by omega)
                                have HS := Lib.hid (jf_at (P4 L0 L1 L2 L3) n0 3 t (by omega) HT.out)
                                have sz : 4 * t + Cv.st 3 t < (B8 (jf (P4 L0 L1 L2 L3) n0 3 t)).size := by rw [B8_size, jf_length]; have := HT.out; omega
                                have hpN : 4 * t + Cv.st 3 t < N := by have := HT.out; have := HN.out; omega
                                rw [show P4 L0 L1 L2 L3 3 = L3 from rfl] at HS
                                generalize 4 * t + Cv.st 3 t = pp at *
                                generalize hM : jf (P4 L0 L1 L2 L3) n0 3 t = M at *
                                clear hM hs
                                obtain ⟨b, off, hA, hlt2, hcell⟩ := (r3.below bl).cell8 t hlt
                                subst hA
                                generalize L3.getD t 0 = x at *
                                go_wp2_with (first | (go_at_call 24; refine CP.out.mono ?_; rintro e w' ⟨rfl, rfl⟩) | (refine at_cell rfl 5 _ _ rfl g pp (.int .u8 (x : Int)) rfl rfl 5 (B8 M) p sz info5one rfl ?_; intro w6 h6))
                                go_roundw
                                case rel => exact ⟨t + 1, by omega, by go_num, by rw [← HS.out, ← B8_set]; exact h6.row, bl.trans (h6.below hgw)⟩
                                case measure => simp [intOf] <;> omega
                              · have HT : Hid (t = n0) := by unfold Hid; have := E3.out; omega
                                replace p : Blk wr g 5 (B8 (jf (P4 L0 L1 L2 L3) n0 4 0)) := by rw [← jf_next]; rw [HT.out] at p; exact p
                                have dt : decide ((t : Int) < (n3 : Int)) = false := by simp <;> omega
                                clear HT
                                obtain ⟨v3, hv3⟩ : ∃ v, v = wr := ⟨_, rfl⟩
                                go_wp2
                                rw [rounds_succ]
                                go_wp2
                                go_ret2
                                exact .inr (.inr ⟨by simp, ⟨E1.out, E2.out, E3.out⟩, g, N, HN.out, rfl, hgw, p, bl⟩)
              · have t3 : ((n3 : Int) != (n0 : Int)) = true := by simp; omega
                have E3 := Lib.hid e3
                clear e3
                go_wp2
                go_ret2
                exact .inr (.inl ⟨by simp, fun h => E3.out h.2.2, rfl, bl⟩)
            · have t2 : ((n2 : Int) != (n0 : Int)) = true := by simp; omega
              have E2 := Lib.hid e2
              clear e2
              go_wp2
              go_ret2
              exact .inr (.inl ⟨by simp, fun h => E2.out h.2.1, rfl, bl⟩)
          · have t1 : ((n1 : Int) != (n0 : Int)) = true := by simp; omega
            have E1 := Lib.hid e1
            clear e1
            go_wp2
            go_ret2
            exact .inr (.inl ⟨by simp, fun h => E1.out h.1, rfl, bl⟩)
end Go.Proofs.Ytknfpdlomgllhaa
