/-
  The walk of PatternPlaces.
-/
import Derived.Test.YtibddlldgmidlaaPk
import Derived.Test.YtibddlldgmidlaaBk
import Derived.Test.YtibddlldgmidlaaMc
import Derived.Deep.DeepCutAuto
namespace Go.Proofs.Ytibddlldgmidlaa
open Go.RowKit
set_option linter.unusedVariables false
set_option linter.unusedSimpArgs false

theorem Own.whole1 {w : World} {base : Nat} {e : TypeId} {g n : Nat} {xs : List Value} (h : Own w base e (some ⟨g, 0, none⟩) n n xs) : w.heap[g]? = some (.cells xs.toArray e (0, 0)) := by
  rcases h.row.2 with ⟨hv, _⟩ | ⟨g', cap, cur, hv, hb, hg, h1, h2, h3, h4⟩
  · cases hv
  · injection hv with e1 e2 e3
    injection e1 with e1
    injection e1 with e1
    subst e1 e3
    rw [hg]
    have : cur = xs.toArray := by
      rw [← h4, List.take_of_length_le (by rw [Array.length_toList]; omega)]
    rw [this]
theorem made64z (n : Nat) : (madeCells (Value.int .i64 0).cells (n * 1)).toList = I64 (List.replicate n 0) := by
  show (madeCells #[Value.int .i64 0] (n * 1)).toList = _
  rw [toList_madeCells_one, Nat.mul_one]
  simp [I64]
/-- Numbers as a block. -/
def R64 (zs : List Int) : Array Value := (I64 zs).toArray
theorem R64_size (zs : List Int) : (R64 zs).size = zs.length := by unfold R64; rw [List.size_toArray, I64_length]
theorem R64_get (zs : List Int) (i : Nat) (h : i < zs.length) : (R64 zs)[i]? = some (.int .i64 (zs.getD i 0)) := by
  unfold R64; rw [List.getElem?_toArray, I64_get _ i h]
theorem R64_set (zs : List Int) (i : Nat) (z : Int) : (R64 zs).setIfInBounds i (.int .i64 z) = R64 (zs.set i z) := by
  unfold R64 I64; simp [List.map_set]
theorem info3one' : (Try.prog.info? 3).map (·.size) = some 1 := by kernel_rfl
/-- Which places have been seen. -/
def sn (T k t : Nat) : List Int := (List.range (4 * T)).map fun p => if Cv.vr (p % 4) (p / 4) < k ∨ (Cv.vr (p % 4) (p / 4) = k ∧ p / 4 < t) then 1 else 0
theorem sn_length (T k t : Nat) : (sn T k t).length = 4 * T := by simp [sn]
theorem sn_get (T k t p : Nat) (h : p < 4 * T) : (sn T k t).getD p 0 = if Cv.vr (p % 4) (p / 4) < k ∨ (Cv.vr (p % 4) (p / 4) = k ∧ p / 4 < t) then 1 else 0 := by simp [sn, List.getD, h]
theorem sn_none (T : Nat) : sn T 0 0 = List.replicate (4 * T) 0 := by
  refine Cv.ext_int (by simp [sn]) fun p hp => ?_
  rw [sn_length] at hp
  rw [sn_get T 0 0 p hp, if_neg (by omega)]
  simp [List.getD, hp]
theorem sn_next (T k : Nat) : sn T k T = sn T (k + 1) 0 := by
  refine Cv.ext_int (by simp [sn]) fun p hp => ?_
  rw [sn_length] at hp
  rw [sn_get T k T p hp, sn_get T (k + 1) 0 p hp]
  have : p / 4 < T := by omega
  by_cases h : Cv.vr (p % 4) (p / 4) < k + 1
  · rw [if_pos (by omega), if_pos (by omega)]
  · rw [if_neg (by omega), if_neg (by omega)]
theorem sn_all (T p : Nat) (h : p < 4 * T) : (sn T 4 0).getD p 0 = 1 := by
  rw [sn_get T 4 0 p h, if_pos (.inl (Cv.vr_lt _ _))]
theorem set_getI (l : List Int) (i : Nat) (x : Int) (j : Nat) (h : i < l.length) : (l.set i x).getD j 0 = if i = j then x else l.getD j 0 := by
  by_cases hj : j < l.length
  · rw [Bm.getD_lt _ _ _ (by rw [List.length_set]; exact hj), Bm.getD_lt _ _ _ hj, List.getElem_set]
  · rw [Bm.getD_ge _ _ _ (by rw [List.length_set]; omega), Bm.getD_ge _ _ _ (by omega), if_neg (by omega)]
theorem sn_at (T k t : Nat) (hk : k < 4) (ht : t < T) : (sn T k t).getD (4 * t + Cv.st k t) 0 = 0 ∧ (sn T k t).set (4 * t + Cv.st k t) 1 = sn T k (t + 1) := by
  have hs := Cv.st_lt k t
  have e1 : (4 * t + Cv.st k t) % 4 = Cv.st k t := by omega
  have e2 : (4 * t + Cv.st k t) / 4 = t := by omega
  have hp : 4 * t + Cv.st k t < 4 * T := by omega
  constructor
  · rw [sn_get T k t _ hp, e1, e2, Cv.vr_st k t hk, if_neg (by omega)]
  · refine Cv.ext_int (by simp [sn]) fun p hpl => ?_
    rw [List.length_set, sn_length] at hpl
    rw [set_getI _ _ _ _ (by rw [sn_length]; exact hp), sn_get T k (t + 1) p hpl, sn_get T k t p hpl]
    by_cases h : 4 * t + Cv.st k t = p
    · subst h
      rw [if_pos rfl, e1, e2, Cv.vr_st k t hk, if_pos (by omega)]
    · rw [if_neg h]
      by_cases hv : Cv.vr (p % 4) (p / 4) = k
      · have hne : p / 4 ≠ t := by
          intro hc
          apply h
          have := Cv.st_vr (p % 4) (p / 4) (by omega)
          rw [hv, hc] at this
          omega
        by_cases hlt : p / 4 < t
        · rw [if_pos (by omega), if_pos (by omega)]
        · rw [if_neg (by omega), if_neg (by omega)]
      · by_cases hlt : Cv.vr (p % 4) (p / 4) < k
        · rw [if_pos (by omega), if_pos (by omega)]
        · rw [if_neg (by omega), if_neg (by omega)]
theorem refStreamQ (v t : Nat) (w : World) (hv : v < 4) (ht : t ≤ 9223372036854775807) (j : Nat) : Calls Try.prog 12 #[.int .i64 (v : Int), .int .i64 (t : Int)] (w.drewN j) fun e w' => e = .returned (.int .i64 (Cv.st v t : Nat)) ∧ ∃ k, w' = w.drewN k :=
  Calls.quiet_of_same ((refStream v t (w.drewN j) hv ht).mono fun e w' h => ⟨h.1, h.2.symm⟩)
set_option maxRecDepth 100000 in
set_option maxHeartbeats 1000000 in
/-- PatternPlaces, where there is such a version. -/
theorem placesYes (a T : Nat) (w : World) (ha : a < 4) (hT : T ≤ 16384) : Calls Try.prog 4 #[.int .i64 (a : Int), .int .i64 (T : Int)] w fun e w' => e = .returned (.bool true) ∧ Below w.heap.size w w' := by
  obtain ⟨i0, hi0, hz0, hz1, hz2⟩ := info_parts info3
  have C1 := Lib.hid (patPlaces a T w ha hT)
  have CS := Lib.hid stands10
  have d1 : decide ((3 : Int) < (a : Int)) = false := by simp <;> omega
  have d2 : decide ((16384 : Int) < (T : Int)) = false := by simp <;> omega
  have d3 : ((T : Int) != (T : Int)) = false := by simp
  have e4 : 4 * (T : Int) = ((4 * T : Nat) : Int) := by omega
  obtain ⟨N, hN⟩ : ∃ N, N = 4 * T := ⟨_, rfl⟩
  rw [← hN] at e4
  have hN2 : N ≤ 65536 := by omega
  have HN := Lib.hid hN
  clear hN
  go_enter Try.func4, Try.ntmps4
  go_wp2_with (first | (go_at_call 14; refine C1.out.mono ?_; rintro e w1 ⟨A5, c5, rfl, own5, hb1⟩) | (go_at_call 11; refine (CS.out _).mono ?_; rintro e w2 ⟨rfl, hb2⟩) | (at_make; refine wpList_make_full _ rfl _ _ 29 rfl w2.heap.size 3 i0 (.int .i64 0) 1 Try.underlying29 hi0 hz0 hz1 .i64 .i64 _ _ N rfl rfl (by first | rfl | omega) (by first | rfl | omega) (by rw [hz2]; omega) (by unfold maxLen; omega) (Nat.le_refl _) ?_; intro w3 hown3 hgrow3))
  have bel3 : Below w2.heap.size w2 w3 := (Below.refl _ _).grown hgrow3 (Nat.le_refl _) (fun k h => by cases h)
  have q3 : Blk w3 w2.heap.size 3 (R64 (sn T 0 0)) := by
    have h : Own w3 w2.heap.size 3 (some ⟨w2.heap.size, 0, none⟩) N N (I64 (List.replicate N 0)) := by rw [made64z] at hown3; exact ⟨hown3⟩
    rw [sn_none, ← HN.out]
    exact h.whole1
  have r5 : Rd w2 w2.heap.size A5 T (I64 (plc a T)) := own5.rdOf hb2
  have hbw : Below w.heap.size w w2 := Below.then_ hb1 hb2
  have hle := hbw.size
  clear hown3 hgrow3 own5 hb1 hb2 hi0 hz0 hz1 hz2
  obtain ⟨g, hg⟩ : ∃ g, g = w2.heap.size := ⟨_, rfl⟩
  have HG := Lib.hid hg
  rw [← hg] at q3 r5 bel3 hle
  rw [← hg]
  clear hg
  go_loopw [8] (fun x wr => ∃ k : Nat, k ≤ 4 ∧ x = .int .i64 k ∧ Blk wr g 3 (R64 (sn T k 0)) ∧ Below g w2 wr) (fun x _ => 4 - (intOf x).toNat)
  case atStart => exact ⟨0, by omega, rfl, q3, bel3⟩
  case round =>
    clear q3 bel3
    obtain ⟨k, hk, rfl, q, bel⟩ := hrel
    by_cases hk4 : k < 4
    · have C2 := Lib.hid (patPlaces k T wr hk4 hT)
      have dk : decide ((k : Int) < 4) = true := by simp <;> omega
      go_wp2_with (go_at_call 14; refine C2.out.mono ?_; rintro e w4 ⟨A9, c9, rfl, own9, hb4⟩)
      have q4 := q.after hb4
      have hgw := q.lt
      have bel4 : Below g w2 w4 := bel.trans (hb4.mono (Nat.le_of_lt hgw))
      obtain ⟨mb, hmb⟩ : ∃ mb, mb = wr.heap.size := ⟨_, rfl⟩
      rw [← hmb] at own9 hgw
      clear hmb hb4 q bel
      obtain ⟨wo, rfl⟩ : ∃ wo : World, wo = wr := ⟨_, rfl⟩
      go_loopw [11] (fun x wr => ∃ t : Nat, t ≤ T ∧ x = .int .i64 t ∧ Blk wr g 3 (R64 (sn T k t)) ∧ Own wr mb 3 A9 T c9 (I64 (plc k T)) ∧ Below g w2 wr) (fun x _ => T - (intOf x).toNat)
      case atStart => exact ⟨0, by omega, rfl, q4, own9, bel4⟩
      case round =>
        clear q4 own9 bel4
        obtain ⟨t, ht, rfl, q, own9, bel⟩ := hrel
        by_cases hlt : t < T
        · have hs := Cv.st_lt k t
          obtain ⟨b9, off9, hA9, hl9, k9⟩ := own9.rd.cell64 t hlt
          obtain ⟨b5, off5, hA5, hl5, k5⟩ := (r5.below bel).cell64 t hlt
          subst hA9 hA5
          rw [plc_get k T t hlt] at k9
          rw [plc_get a T t hlt] at k5
          have hat := sn_at T k t hk4 hlt
          obtain ⟨p, hp⟩ : ∃ p, p = 4 * t + Cv.st k t := ⟨_, rfl⟩
          obtain ⟨p5, hp5⟩ : ∃ p, p = 4 * t + Cv.st a t := ⟨_, rfl⟩
          rw [← hp] at k9 hat
          rw [← hp5] at k5
          have hpN : p < N := by have := HN.out; omega
          have ep : 4 * (t : Int) + ((Cv.st k t : Nat) : Int) = (p : Int) := by omega
          have wp1 : IntKind.i64.wrap (4 * (t : Int)) = 4 * (t : Int) := IntWalk.i64_in _ (by omega)
          have wp2 : IntKind.i64.wrap (4 * (t : Int) + ((Cv.st k t : Nat) : Int)) = (p : Int) := by rw [ep]; exact IntWalk.i64_in _ (by omega)
          have tp : ((p : Int) != (p : Int)) = false := by simp
          have CQ := Lib.hid (refStreamQ k t wr hk4 (by omega))
          have kp := (q.cell p).trans (R64_get (sn T k t) p (by rw [sn_length]; have := HN.out; omega))
          rw [hat.1] at kp
          have sz : p < (R64 (sn T k t)).size := by rw [R64_size, sn_length]; have := HN.out; omega
          have HAT := Lib.hid hat.2
          have HEQ : Hid (k = a → p5 = p) := fun h => by rw [hp, hp5, h]
          clear hat hp hp5
          generalize Cv.st k t = s at *
          have f1 : (t : Int) < (T : Int) := by omega
          have f2 : (p : Int) < (N : Int) := by omega
          have f3 : (0 : Int) ≤ (t : Int) := by omega
          have dt : decide ((t : Int) < (T : Int)) = true := by simp <;> omega
          by_cases hka : k = a
          · obtain rfl := (HEQ.out hka).symm
            have tk : ((k : Int) == (a : Int)) = true := by simp [hka]
            clear hka HEQ
            go_upto_region 18 with fail
            go_quiet ((go_at_call 12; exact CQ.out _))
            go_wp2_with (refine at_cell rfl 3 _ _ rfl g p (.int .i64 1) rfl rfl 3 (R64 (sn T k t)) q sz info3one' rfl ?_; intro w6 h6)
            go_roundw
            case rel => exact ⟨t + 1, by omega, by go_num, by rw [← HAT.out, ← R64_set]; exact h6.row, (own9.below (below_drawn (B := wr.heap.size) _) (Nat.le_refl _)).upd h6 hgw, (bel.trans (below_drawn _)).trans (h6.below (Nat.le_refl _))⟩
            case measure => simp [intOf] <;> omega
          · have tk : ((k : Int) == (a : Int)) = false := by simp; omega
            clear hka HEQ
            go_upto_region 18 with fail
            go_quiet ((go_at_call 12; exact CQ.out _))
            go_wp2_with (refine at_cell rfl 3 _ _ rfl g p (.int .i64 1) rfl rfl 3 (R64 (sn T k t)) q sz info3one' rfl ?_; intro w6 h6)
            go_roundw
            case rel => exact ⟨t + 1, by omega, by go_num, by rw [← HAT.out, ← R64_set]; exact h6.row, (own9.below (below_drawn (B := wr.heap.size) _) (Nat.le_refl _)).upd h6 hgw, (bel.trans (below_drawn _)).trans (h6.below (Nat.le_refl _))⟩
            case measure => simp [intOf] <;> omega
        · have HT2 : Hid (t = T) := by unfold Hid; omega
          have q2 : Blk wr g 3 (R64 (sn T (k + 1) 0)) := by rw [← sn_next, ← HT2.out]; rw [← HT2.out] at q; exact q
          have dt : decide ((t : Int) < (T : Int)) = false := by simp <;> omega
          clear q own9
          go_wp2
          go_roundw
          case rel => exact ⟨k + 1, by omega, by go_num, q2, bel⟩
          case measure => simp [intOf] <;> omega
    · have HK4 : Hid (k = 4) := by unfold Hid; omega
      rw [HK4.out] at q
      have dk : decide ((k : Int) < 4) = false := by simp <;> omega
      go_wp2
      go_loopw [12] (fun x wx => ∃ i : Nat, i ≤ N ∧ x = .int .i64 i ∧ wx = wr) (fun x _ => N - (intOf x).toNat)
      case atStart => exact ⟨0, by omega, rfl, rfl⟩
      case round =>
        obtain ⟨i, hi, rfl, rfl⟩ := hrel
        by_cases hlt : i < N
        · have ki := (q.cell i).trans (R64_get (sn T 4 0) i (by rw [sn_length]; have := HN.out; omega))
          rw [sn_all T i (by have := HN.out; omega)] at ki
          go_wp2
          go_roundw
          case rel => exact ⟨i + 1, by omega, by go_num, by simp⟩
          case measure => simp [intOf] <;> omega
        · go_wp2
          go_ret
          exact ⟨rfl, hbw.trans (bel.mono hle)⟩
set_option maxHeartbeats 1000000 in
/-- PatternPlaces, where there is no such version. -/
theorem placesNo (v t : Int) (w : World) (h : v < 0 ∨ 3 < v ∨ t < 0 ∨ 16384 < t) : Calls Try.prog 4 #[.int .i64 v, .int .i64 t] w fun e w' => e = .returned (.bool true) ∧ Below w.heap.size w w' := by
  have C1 := Lib.hid (patPlacesNo v t w h)
  have CS := Lib.hid stands10
  by_cases h1 : v < 0
  · go_enter Try.func4, Try.ntmps4
    go_wp2_with (first | (go_at_call 14; refine C1.out.mono ?_; rintro e w' ⟨rfl, rfl⟩) | (go_at_call 11; refine (CS.out _).mono ?_; rintro e w2 ⟨rfl, hb2⟩))
    go_ret
    exact ⟨rfl, hb2⟩
  · by_cases h2 : 3 < v
    · go_enter Try.func4, Try.ntmps4
      go_wp2_with (first | (go_at_call 14; refine C1.out.mono ?_; rintro e w' ⟨rfl, rfl⟩) | (go_at_call 11; refine (CS.out _).mono ?_; rintro e w2 ⟨rfl, hb2⟩))
      go_ret
      exact ⟨rfl, hb2⟩
    · by_cases h3 : t < 0
      · go_enter Try.func4, Try.ntmps4
        go_wp2_with (first | (go_at_call 14; refine C1.out.mono ?_; rintro e w' ⟨rfl, rfl⟩) | (go_at_call 11; refine (CS.out _).mono ?_; rintro e w2 ⟨rfl, hb2⟩))
        go_ret
        exact ⟨rfl, hb2⟩
      · have h4 : 16384 < t := by omega
        go_enter Try.func4, Try.ntmps4
        go_wp2_with (first | (go_at_call 14; refine C1.out.mono ?_; rintro e w' ⟨rfl, rfl⟩) | (go_at_call 11; refine (CS.out _).mono ?_; rintro e w2 ⟨rfl, hb2⟩))
        go_ret
        exact ⟨rfl, hb2⟩
/-- PatternPlaces. -/
theorem walkPatternPlaces (v t : Int) (w : World) : Calls Try.prog 4 #[.int .i64 v, .int .i64 t] w fun e w' => e = .returned (.bool true) ∧ Below w.heap.size w w' := by
  by_cases h : v < 0 ∨ 3 < v ∨ t < 0 ∨ 16384 < t
  · exact placesNo v t w h
  · obtain ⟨a, ha⟩ : ∃ a : Nat, v = (a : Int) := ⟨v.toNat, by omega⟩
    obtain ⟨b, hb⟩ : ∃ b : Nat, t = (b : Int) := ⟨t.toNat, by omega⟩
    subst ha hb
    exact placesYes a b w (by omega) (by omega)
end Go.Proofs.Ytibddlldgmidlaa
