/-
  The walk of ViterbiTwice.
-/
import Derived.Test.YtlnjealhiikmeabDoorVl
import Derived.Test.YtlnjealhiikmeabDoorMq
namespace Go.Proofs.YtlnjealhiikmeabDoor
open Go.RowKit
set_option linter.unusedVariables false
set_option linter.unusedSimpArgs false

theorem rem16 (x : Int) : -15 ≤ x.tmod 16 ∧ x.tmod 16 ≤ 15 := by
  by_cases h : 0 ≤ x
  · rw [Int.tmod_eq_emod_of_nonneg h]; omega
  · have h1 := Int.neg_tmod x 16
    rw [Int.tmod_eq_emod_of_nonneg (by omega)] at h1
    omega
/-- The first k numbers' rests. -/
def r16 (zs : List Int) (k : Nat) : List Int := (zs.take k).map fun z => z.tmod 16
theorem r16_length (zs : List Int) (k : Nat) : (r16 zs k).length = min k zs.length := by simp [r16]
theorem r16_succ (zs : List Int) (k : Nat) (h : k < zs.length) : r16 zs (k + 1) = r16 zs k ++ [(zs.getD k 0).tmod 16] := by
  unfold r16
  rw [List.take_succ_eq_append_getElem h, List.map_append, Bm.getD_lt _ _ _ h]
  rfl
theorem r16_in (zs : List Int) (k : Nat) : ∀ z ∈ r16 zs k, -15 ≤ z ∧ z ≤ 15 := by
  intro z hz
  obtain ⟨x, _, rfl⟩ := List.mem_map.1 hz
  exact rem16 x
theorem twice_in (zs : List Int) (k : Nat) : ∀ z ∈ (r16 zs k).map (2 * ·), -31 ≤ z ∧ z ≤ 31 := by
  intro z hz
  obtain ⟨x, hx, rfl⟩ := List.mem_map.1 hz
  have := r16_in zs k x hx
  omega
theorem rb_twice (l : List Int) (n : Nat) : Cv.rb (l.map (2 * ·)) n 0 0 = Cv.rb l n 0 0 := (Cv.rb_best _ n).uniq (Cv.best_twice l n _ (Cv.rb_best l n))
theorem mb_twice (l : List Int) (n : Nat) : Cv.mb (l.map (2 * ·)) n 0 0 = 2 * Cv.mb l n 0 0 := by
  rw [← Cv.rb_eq, ← Cv.rb_eq, rb_twice]
  exact Cv.fw_twice l _ 0 0
theorem mb_bounds {l : List Int} (h : ∀ z ∈ l, -31 ≤ z ∧ z ≤ 31) (n : Nat) (hl : l.length = 4 * (n + 6)) : -(31 * (l.length : Int)) ≤ Cv.mb l n 0 0 ∧ Cv.mb l n 0 0 ≤ 31 * (l.length : Int) := by
  have e : Cv.mb l n 0 0 = Cv.score l (Cv.code (Cv.rb l n 0 0)) := by
    rw [Cv.score_tot l _ (Cv.rb_bit l n 0 0) (by rw [hl, Cv.rb_length]), ← Cv.rb_eq]
    rfl
  rw [e]
  exact Cv.sc_bounds h _ l.length

set_option maxHeartbeats 600000 in
set_option maxRecDepth 100000 in
/-- ViterbiTwice. -/
theorem walkViterbiTwice (A : Option Addr) (na ca : Nat) (zs : List Int) (w : World) (h1 : Rd w w.heap.size A na (I64 zs)) (hna : na ≤ 9223372036854775807) (hT : Taps w) :
    Calls Tryd.prog 8 #[.slice A na ca] w fun e w' => e = .returned (.bool true) ∧ Below w.heap.size w w' := by
  obtain ⟨i0, hi0, hz0, hz1, hz2⟩ := info_parts info3
  obtain ⟨n, hn, hn2, hn3⟩ := min_if (na / 4) 40
  obtain ⟨hm1, hm2⟩ := hn3 40 rfl
  have e4 : (na : Int) / 4 = ((na / 4 : Nat) : Int) := by omega
  have h4n : 4 * n ≤ na := by omega
  clear hn3 hn2
  obtain ⟨N, hN⟩ : ∃ N, 4 * n = N := ⟨_, rfl⟩
  have eN : 4 * (n : Int) = (N : Int) := by omega
  have hN2 : N ≤ 160 := by omega
  have hNa : N ≤ na := by omega
  generalize na / 4 = q at *
  have HN := Lib.hid hN
  have HL := Lib.hid h1.len64
  clear hN h4n
  go_enter Tryd.func8, Tryd.ntmps8
  go_wp2
  go_loopw [4, 5, 6] (fun s1 s2 i wr => ∃ k : Nat, k ≤ N ∧ i = .int .i64 k ∧ ∃ A1 c1 A2 c2, s1 = .slice A1 k c1 ∧ s2 = .slice A2 k c2 ∧ Own wr w.heap.size 3 A1 k c1 (I64 (r16 zs k)) ∧ Own wr w.heap.size 3 A2 k c2 (I64 ((r16 zs k).map (2 * ·))) ∧ Apt A1 A2 ∧ Below w.heap.size w wr) (fun _ _ i _ => N - (intOf i).toNat)
  case atStart => exact ⟨0, Nat.zero_le _, rfl, none, 0, none, 0, rfl, rfl, Own.nil _ _ _, Own.nil _ _ _, .inl rfl, Below.refl _ _⟩
  case round =>
    obtain ⟨k, hk, rfl, A1, c1, A2, c2, rfl, rfl, own1, own2, apt, hbel⟩ := hrel
    have hsz := hbel.size
    by_cases hlt : k < N
    · obtain ⟨b, off, rfl, hlt2, hcell⟩ := (h1.below hbel).cell64 k (by omega)
      have HS := Lib.hid (r16_succ zs k (by rw [← HL.out]; omega))
      obtain ⟨x, hxe⟩ : ∃ x, x = zs.getD k 0 := ⟨_, rfl⟩
      rw [← hxe] at hcell HS
      have hq := rem16 x
      obtain ⟨y, hy⟩ : ∃ y, x.tmod 16 = y := ⟨_, rfl⟩
      rw [hy] at hq HS
      obtain ⟨hq1, hq2⟩ := hq
      have f1 : IntKind.i64.wrap (2 * y) = 2 * y := IntWalk.i64_in _ (by omega)
      clear hxe
      go_wp2_with (first | (at_builtin; refine app64At _ rfl _ _ rfl w.heap.size A1 _ c1 _ y rfl own1 rfl (by omega) hsz ?_; intro A3 c3 w3 own3 gr3 at3; have own2' := own2.grown gr3 apt.symm; have apt3 := apt.next (w := wr) at3 (fun j hj => (own2.blkLt j hj).2); have hbel3 := hbel.grown gr3 hsz (fun j hj => (own1.block j hj).1)) | (at_builtin; refine app64At _ rfl _ _ rfl w.heap.size A2 _ c2 _ (2 * y) rfl own2' rfl (by omega) hbel3.size ?_; intro A4 c4 w4 own4 gr4 at4))
      go_roundw
      case rel =>
        refine ⟨k + 1, by omega, by go_num, A3, c3, A4, c4, rfl, rfl, ?_, ?_, (apt3.symm.next (w := w3) at4 (fun j hj => (own3.blkLt j hj).2)).symm, hbel3.grown gr4 hbel3.size (fun j hj => (own2'.block j hj).1)⟩
        · rw [HS.out]
          exact own3.grown gr4 apt3
        · rw [HS.out, List.map_append]
          exact own4
      case measure => simp [intOf] <;> omega
    · obtain rfl : k = N := by omega
      have hT3 := hT.after hbel
      have HB3 := Lib.hid hbel
      by_cases h6 : 6 ≤ n
      · obtain ⟨m, hm⟩ : ∃ m, n = m + 6 := ⟨n - 6, by omega⟩
        have e6 : (n : Int) - 6 = (m : Int) := by omega
        have hm40 : m ≤ 34 := by omega
        have HNm : Hid (k = 4 * (m + 6)) := by unfold Hid; rw [← HN.out, hm]
        have t6 : decide ((6 : Int) ≤ (n : Int)) = true := by simp; omega
        have hl : (r16 zs k).length = 4 * (m + 6) := by rw [r16_length, ← HL.out, ← HNm.out]; omega
        have HI1 : Hid (∀ z ∈ r16 zs k, -31 ≤ z ∧ z ≤ 31) := fun z hz => by have := r16_in zs k z hz; omega
        have HI2 := Lib.hid (twice_in zs k)
        have hbd := mb_bounds HI1.out m hl
        rw [hl] at hbd
        have D1 := Lib.hid (decodeO A1 k m c1 w.heap.size (r16 zs k) wr wr own1 (Below.refl _ _) HI1.out HNm.out (by omega) hT3)
        have D2 := Lib.hid (fun (W : World) (hB : Below wr.heap.size wr W) => decodeO A2 k m c2 w.heap.size ((r16 zs k).map (2 * ·)) wr W own2 hB HI2.out HNm.out (by omega) (hT3.after hB))
        rw [rb_twice, mb_twice] at D2
        have HNO := Lib.hid (rb_noughts k m)
        have HMO := Lib.hid (mb_noughts k m)
        have f1 : IntKind.i64.wrap (2 * Cv.mb (r16 zs k) m 0 0) = 2 * Cv.mb (r16 zs k) m 0 0 := IntWalk.i64_in _ (by omega)
        generalize Cv.mb (r16 zs k) m 0 0 = v at *
        generalize Cv.rb (r16 zs k) m 0 0 = rs at *
        clear hbd hl HI1 HI2 own1 own2 apt hbel h1 hm hm1 hm2
        go_upto_region 9 with (go_at_call 11; refine D1.out.mono ?_; rintro e w5 ⟨A5, n5, c5, rfl, ow5, be5⟩)
        go_upto_region 10 with (go_at_call 11; refine (D2.out w5 be5).mono ?_; rintro e w6 ⟨A6, n6, c6, rfl, ow6, be6⟩)
        have b6 := Below.then_ be5 be6
        go_upto_region 14 with (go_at_call 13; refine (decodesC w6 (hT3.after b6)).mono ?_; rintro e w7 ⟨rfl, be7⟩)
        have b7 := Below.then_ b6 be7
        have hT7 := hT3.after b7
        clear D1 D2
        go_wp2_with (at_make; refine wpList_make_full _ rfl _ _ 22 rfl w7.heap.size 3 i0 (.int .i64 0) 1 Tryd.underlying22 hi0 hz0 hz1 .i64 .i64 _ _ k rfl rfl (by first | rfl | omega) (by first | rfl | omega) (by rw [hz2]; omega) (by unfold maxLen; omega) (Nat.le_refl _) ?_; intro w8 hown8 hgrow8)
        have be8 : Below w7.heap.size w7 w8 := (Below.refl _ _).grown hgrow8 (Nat.le_refl _) (fun k h => by cases h)
        have own8 : Own w8 w7.heap.size 3 (some ⟨w7.heap.size, 0, none⟩) k k (I64 (List.replicate k 0)) := ⟨by rw [made64] at hown8; exact hown8⟩
        have D3 := Lib.hid (decodeO (some ⟨w7.heap.size, 0, none⟩) k m k w7.heap.size (List.replicate k 0) w8 w8 own8 (Below.refl _ _) (noughts_in k) HNm.out (by omega) (hT7.after be8))
        rw [HNO.out, HMO.out] at D3
        refine D3.out.mono ?_
        rintro e w9 ⟨A9, n9, c9, rfl, ow9, be9⟩
        have b79 := Below.then_ be8 be9
        have K1 := Lib.hid (fun W (hB : Below w9.heap.size w9 W) => ow5.convO W (Below.then_ (Below.then_ (Below.then_ be6 be7) b79) hB))
        have K2 := Lib.hid (fun W (hB : Below w9.heap.size w9 W) => ow6.convO W (Below.then_ (Below.then_ be7 b79) hB))
        have K3 := Lib.hid ow9.convO
        have HB9 := Lib.hid (Below.then_ (Below.then_ HB3.out b7) b79)
        obtain ⟨j0, hj0, hj1, hj2, hj3⟩ := info_parts info5
        obtain ⟨wm, hrun, om, gm⟩ := run_make_full (P := Tryd.prog) w9.drew w9.heap.size 25 5 j0 (.int .u8 0) 1 Tryd.underlying25 hj0 hj1 hj2 .i64 .i64 m (by rw [hj3]; omega) (by unfold maxLen; omega) (Nat.le_refl _)
        have hrun' : (Instr.makeSlice 25 (.int .i64 (m : Int)) (.int .i64 (m : Int))).run Tryd.prog w9.drew = .ok (.slice (some ⟨w9.heap.size, 0, none⟩) m m) wm := hrun
        clear hrun
        generalize hs0 : str (List.replicate m 0) = s0 at *
        generalize str rs = s1 at *
        have HSZ := Lib.hid hs0
        have HK : Hid (∀ W, Below w9.heap.size w9 W → (Below w9.heap.size w9 W ∧ convO A5 n5 c5 W = .ok (.string s1) W ∧ convO A6 n6 c6 W = .ok (.string s1) W ∧ convO A9 n9 c9 W = .ok (.string s0) W)) := fun W hB => ⟨hB, K1.out W hB, K2.out W hB, K3.out W hB⟩
        clear hs0 K1 K2 K3 ow5 ow6 ow9 own8 be5 be6 be7 be8 be9 b6 b7 b79 D3 hj0 hj1 hj2 hj3 hown8 hgrow8 hi0 hz0 hz1 hz2
        have hany := convO_eq
        have hp1 : (s0.toList == s0.toList) = true := by simp
        have hp2 : (s1.toList == s1.toList) = true := by simp
        have hp3 : (2 * v == 2 * v) = true := by simp
        have fm : IntKind.i64.wrap (m : Int) = (m : Int) := IntWalk.i64_in _ (by omega)
        go_wp2_with fail
        refine wp_region_noPanic ?_
        refine wp_region_held_drew (S := fun W => Below w9.heap.size w9 W ∧ convO A5 n5 c5 W = .ok (.string s1) W ∧ convO A6 n6 c6 W = .ok (.string s1) W ∧ convO A9 n9 c9 W = .ok (.string s0) W) (by kernel_rfl) (HK.out _ (Below.refl _ _).drew) (fun hHeld => ?_)
        refine wpAnyH_take (i := 0) (oi := ⟨some 79, _, _, _, _, _⟩) (v := ?_) rfl (by kernel_rfl) (by kernel_rfl) (by kernel_rfl) (fun _ _ _ h => h) (Or.inl ⟨by rfl, ?_⟩) (by assumption) ?_
        rotate_left
        · intro W hSW; obtain ⟨hSW0, hSW1, hSW2, hSW3⟩ := hSW; go_simp; first | done | with_reducible rfl
        (try simp only [Act.put, List.setIfInBounds_toArray, List.set_cons_zero, List.set_cons_succ])
        refine wpAnyH_take (i := 1) (oi := ⟨some 80, _, _, _, _, _⟩) (v := ?_) rfl (by kernel_rfl) (by kernel_rfl) (by kernel_rfl) (fun _ _ _ h => h) (Or.inl ⟨by rfl, ?_⟩) (by assumption) ?_
        rotate_left
        · intro W hSW; obtain ⟨hSW0, hSW1, hSW2, hSW3⟩ := hSW; go_simp; first | done | with_reducible rfl
        (try simp only [Act.put, List.setIfInBounds_toArray, List.set_cons_zero, List.set_cons_succ])
        refine wpAnyH_take (i := 2) (oi := ⟨some 81, _, _, _, _, _⟩) (v := ?_) rfl (by kernel_rfl) (by kernel_rfl) (by kernel_rfl) (fun _ _ _ h => h) (Or.inl ⟨by rfl, ?_⟩) (by assumption) ?_
        rotate_left
        · intro W hSW; obtain ⟨hSW0, hSW1, hSW2, hSW3⟩ := hSW; go_simp; first | done | with_reducible rfl
        (try simp only [Act.put, List.setIfInBounds_toArray, List.set_cons_zero, List.set_cons_succ])
        refine wpAnyH_take (i := 3) (oi := ⟨some 82, _, _, _, _, _⟩) (v := ?_) rfl (by kernel_rfl) (by kernel_rfl) (by kernel_rfl) (fun _ _ _ h => h) (Or.inl ⟨by rfl, ?_⟩) (by assumption) ?_
        rotate_left
        · intro W hSW; obtain ⟨hSW0, hSW1, hSW2, hSW3⟩ := hSW; go_simp; first | done | with_reducible rfl
        (try simp only [Act.put, List.setIfInBounds_toArray, List.set_cons_zero, List.set_cons_succ])
        refine wpAnyH_take (i := 4) (oi := ⟨some 83, _, _, _, _, _⟩) (v := ?_) rfl (by kernel_rfl) (by kernel_rfl) (by kernel_rfl) (fun _ _ _ h => h) (Or.inl ⟨by rfl, ?_⟩) (by assumption) ?_
        rotate_left
        · intro W hSW; obtain ⟨hSW0, hSW1, hSW2, hSW3⟩ := hSW; go_simp; first | done | with_reducible rfl
        (try simp only [Act.put, List.setIfInBounds_toArray, List.set_cons_zero, List.set_cons_succ])
        refine wpAnyH_take (i := 5) (oi := ⟨some 84, _, _, _, _, _⟩) (v := ?_) rfl (by kernel_rfl) (by kernel_rfl) (by kernel_rfl) (fun _ _ _ h => h) (Or.inl ⟨by rfl, ?_⟩) (by assumption) ?_
        rotate_left
        · intro W hSW; obtain ⟨hSW0, hSW1, hSW2, hSW3⟩ := hSW; go_simp; first | done | with_reducible rfl
        (try simp only [Act.put, List.setIfInBounds_toArray, List.set_cons_zero, List.set_cons_succ])
        refine wpAnyH_take (i := 6) (oi := ⟨some 85, _, _, _, _, _⟩) (v := ?_) rfl (by kernel_rfl) (by kernel_rfl) (by kernel_rfl) (fun _ _ _ h => h) (Or.inl ⟨by rfl, ?_⟩) (by assumption) ?_
        rotate_left
        · intro W hSW; obtain ⟨hSW0, hSW1, hSW2, hSW3⟩ := hSW; go_simp; first | done | with_reducible rfl
        (try simp only [Act.put, List.setIfInBounds_toArray, List.set_cons_zero, List.set_cons_succ])
        refine wpAnyH_take (i := 7) (oi := ⟨some 86, _, _, _, _, _⟩) (v := ?_) rfl (by kernel_rfl) (by kernel_rfl) (by kernel_rfl) (fun _ _ _ h => h) (Or.inl ⟨by rfl, ?_⟩) (by assumption) ?_
        rotate_left
        · intro W hSW; obtain ⟨hSW0, hSW1, hSW2, hSW3⟩ := hSW; go_simp; first | done | with_reducible rfl
        (try simp only [Act.put, List.setIfInBounds_toArray, List.set_cons_zero, List.set_cons_succ])
        refine wpAnyH_take (i := 8) (oi := ⟨some 87, _, _, _, _, _⟩) (v := ?_) rfl (by kernel_rfl) (by kernel_rfl) (by kernel_rfl) (fun _ _ _ h => h) (Or.inl ⟨by rfl, ?_⟩) (by assumption) ?_
        rotate_left
        · intro W hSW; obtain ⟨hSW0, hSW1, hSW2, hSW3⟩ := hSW; go_simp; first | done | with_reducible rfl
        (try simp only [Act.put, List.setIfInBounds_toArray, List.set_cons_zero, List.set_cons_succ])
        refine wpAnyH_take (i := 9) (oi := ⟨some 88, _, _, _, _, _⟩) (v := ?_) rfl (by kernel_rfl) (by kernel_rfl) (by kernel_rfl) (fun _ _ _ h => h) (Or.inl ⟨by rfl, ?_⟩) (by assumption) ?_
        rotate_left
        · intro W hSW; obtain ⟨hSW0, hSW1, hSW2, hSW3⟩ := hSW; go_simp; first | done | with_reducible rfl
        (try simp only [Act.put, List.setIfInBounds_toArray, List.set_cons_zero, List.set_cons_succ])
        refine wpAnyH_take (i := 10) (oi := ⟨some 89, _, _, _, _, _⟩) (v := ?_) rfl (by kernel_rfl) (by kernel_rfl) (by kernel_rfl) (fun _ _ _ h => h) (Or.inl ⟨by rfl, ?_⟩) (by assumption) ?_
        rotate_left
        · intro W hSW; obtain ⟨hSW0, hSW1, hSW2, hSW3⟩ := hSW; go_simp; first | done | with_reducible rfl
        (try simp only [Act.put, List.setIfInBounds_toArray, List.set_cons_zero, List.set_cons_succ])
        refine wpAnyH_take (i := 11) (oi := ⟨some 90, _, _, _, _, _⟩) (v := ?_) rfl (by kernel_rfl) (by kernel_rfl) (by kernel_rfl) (fun _ _ _ h => h) (Or.inl ⟨by rfl, ?_⟩) (by assumption) ?_
        rotate_left
        · intro W hSW; obtain ⟨hSW0, hSW1, hSW2, hSW3⟩ := hSW; go_simp; first | done | with_reducible rfl
        (try simp only [Act.put, List.setIfInBounds_toArray, List.set_cons_zero, List.set_cons_succ])
        refine wpAnyH_take (i := 12) (oi := ⟨some 91, _, _, _, _, _⟩) (v := ?_) rfl (by kernel_rfl) (by kernel_rfl) (by kernel_rfl) (fun _ _ _ h => h) (Or.inl ⟨by rfl, ?_⟩) (by assumption) ?_
        rotate_left
        · intro W hSW; obtain ⟨hSW0, hSW1, hSW2, hSW3⟩ := hSW; go_simp; first | done | with_reducible rfl
        (try simp only [Act.put, List.setIfInBounds_toArray, List.set_cons_zero, List.set_cons_succ])
        refine wpAnyH_take (i := 13) (oi := ⟨some 92, _, _, _, _, _⟩) (v := ?_) rfl (by kernel_rfl) (by kernel_rfl) (by kernel_rfl) (fun _ _ _ h => h) (Or.inl ⟨by rfl, ?_⟩) (by assumption) ?_
        rotate_left
        · intro W hSW; obtain ⟨hSW0, hSW1, hSW2, hSW3⟩ := hSW; go_simp; first | done | with_reducible rfl
        (try simp only [Act.put, List.setIfInBounds_toArray, List.set_cons_zero, List.set_cons_succ])
        refine wpAnyH_take (i := 14) (oi := ⟨some 93, _, _, _, _, _⟩) (v := ?_) rfl (by kernel_rfl) (by kernel_rfl) (by kernel_rfl) (fun _ _ _ h => h) (Or.inl ⟨by rfl, ?_⟩) (by assumption) ?_
        rotate_left
        · intro W hSW; obtain ⟨hSW0, hSW1, hSW2, hSW3⟩ := hSW; go_simp; first | done | with_reducible rfl
        (try simp only [Act.put, List.setIfInBounds_toArray, List.set_cons_zero, List.set_cons_succ])
        refine wpAnyH_take (i := 15) (oi := ⟨some 94, _, _, _, _, _⟩) (v := ?_) rfl (by kernel_rfl) (by kernel_rfl) (by kernel_rfl) (fun _ _ _ h => h) (Or.inl ⟨by rfl, ?_⟩) (by assumption) ?_
        rotate_left
        · intro W hSW; obtain ⟨hSW0, hSW1, hSW2, hSW3⟩ := hSW; go_simp; first | done | with_reducible rfl
        (try simp only [Act.put, List.setIfInBounds_toArray, List.set_cons_zero, List.set_cons_succ])
        refine wpAnyH_take (i := 16) (oi := ⟨some 95, _, _, _, _, _⟩) (v := ?_) rfl (by kernel_rfl) (by kernel_rfl) (by kernel_rfl) (fun _ _ _ h => h) (Or.inl ⟨by rfl, ?_⟩) (by assumption) ?_
        rotate_left
        · intro W hSW; obtain ⟨hSW0, hSW1, hSW2, hSW3⟩ := hSW; go_simp; first | done | with_reducible rfl
        (try simp only [Act.put, List.setIfInBounds_toArray, List.set_cons_zero, List.set_cons_succ])
        refine wpAnyH_take (i := 17) (oi := ⟨some 96, _, _, _, _, _⟩) (v := ?_) rfl (by kernel_rfl) (by kernel_rfl) (by kernel_rfl) (fun _ _ _ h => h) (Or.inl ⟨by rfl, ?_⟩) (by assumption) ?_
        rotate_left
        · intro W hSW; obtain ⟨hSW0, hSW1, hSW2, hSW3⟩ := hSW; go_simp; first | done | with_reducible rfl
        (try simp only [Act.put, List.setIfInBounds_toArray, List.set_cons_zero, List.set_cons_succ])
        refine wpAnyH_take (i := 18) (oi := ⟨some 97, _, _, _, _, _⟩) (v := ?_) rfl (by kernel_rfl) (by kernel_rfl) (by kernel_rfl) (fun _ _ _ h => h) (Or.inl ⟨by rfl, ?_⟩) (by assumption) ?_
        rotate_left
        · intro W hSW; obtain ⟨hSW0, hSW1, hSW2, hSW3⟩ := hSW; go_simp; first | done | with_reducible rfl
        (try simp only [Act.put, List.setIfInBounds_toArray, List.set_cons_zero, List.set_cons_succ])
        refine wpAnyH_take (i := 19) (oi := ⟨some 98, _, _, _, _, _⟩) (v := ?_) rfl (by kernel_rfl) (by kernel_rfl) (by kernel_rfl) (fun _ _ _ h => h) (Or.inl ⟨by rfl, ?_⟩) (by assumption) ?_
        rotate_left
        · intro W hSW; obtain ⟨hSW0, hSW1, hSW2, hSW3⟩ := hSW; go_simp; first | done | with_reducible rfl
        (try simp only [Act.put, List.setIfInBounds_toArray, List.set_cons_zero, List.set_cons_succ])
        refine wpAnyH_take (i := 20) (oi := ⟨some 99, _, _, _, _, _⟩) (v := ?_) rfl (by kernel_rfl) (by kernel_rfl) (by kernel_rfl) (fun _ _ _ h => h) (Or.inl ⟨by rfl, ?_⟩) (by assumption) ?_
        rotate_left
        · intro W hSW; obtain ⟨hSW0, hSW1, hSW2, hSW3⟩ := hSW; go_simp; first | done | with_reducible rfl
        (try simp only [Act.put, List.setIfInBounds_toArray, List.set_cons_zero, List.set_cons_succ])
        refine wpAnyH_take (i := 21) (oi := ⟨some 100, _, _, _, _, _⟩) (v := ?_) rfl (by kernel_rfl) (by kernel_rfl) (by kernel_rfl) (fun _ _ _ h => h) (Or.inl ⟨by rfl, ?_⟩) (by assumption) ?_
        rotate_left
        · intro W hSW; obtain ⟨hSW0, hSW1, hSW2, hSW3⟩ := hSW; go_simp; first | done | with_reducible rfl
        (try simp only [Act.put, List.setIfInBounds_toArray, List.set_cons_zero, List.set_cons_succ])
        refine wpAnyH_take (i := 22) (oi := ⟨some 101, _, _, _, _, _⟩) (v := ?_) rfl (by kernel_rfl) (by kernel_rfl) (by kernel_rfl) (fun _ _ _ h => h) (Or.inl ⟨by rfl, ?_⟩) (by assumption) ?_
        rotate_left
        · intro W hSW; obtain ⟨hSW0, hSW1, hSW2, hSW3⟩ := hSW; go_simp; first | done | with_reducible rfl
        (try simp only [Act.put, List.setIfInBounds_toArray, List.set_cons_zero, List.set_cons_succ])
        refine wpAnyH_take (i := 23) (oi := ⟨some 102, _, _, _, _, _⟩) (v := ?_) rfl (by kernel_rfl) (by kernel_rfl) (by kernel_rfl) (fun _ _ _ h => h) (Or.inl ⟨by rfl, ?_⟩) (by assumption) ?_
        rotate_left
        · intro W hSW; obtain ⟨hSW0, hSW1, hSW2, hSW3⟩ := hSW; go_simp; first | done | with_reducible rfl
        (try simp only [Act.put, List.setIfInBounds_toArray, List.set_cons_zero, List.set_cons_succ])
        refine wpAnyH_ready (rs := [24]) (by kernel_rfl) (by simp) ?_
        refine AllReadyH.cons (o := ⟨some 103, _, _, _, _, _⟩) rfl (fun K hK => ?_) AllReadyH.nil
        go_simp
        have bm : Below w9.heap.size w9 wm := (Below.refl _ w9).drew.trans ((Below.refl _ _).grown gm (Nat.le_refl _) (fun k h => by cases h))
        have omm : Own wm w9.heap.size 5 (some ⟨w9.heap.size, 0, none⟩) m m (U8 (List.replicate m 0)) := ⟨by rw [made8] at om; exact om⟩
        have hq := omm.convO _ (Below.refl _ _)
        rw [HSZ.out] at hq
        clear hHeld
        refine hK.out _ _ ?_ (fun hHeld => ?_)
        · exact HK.out _ bm
        clear hK K
        (try simp only [Act.put, List.setIfInBounds_toArray, List.set_cons_zero, List.set_cons_succ])
        refine wpAnyH_ready (rs := [25]) (by kernel_rfl) (by simp) ?_
        refine AllReadyH.cons (o := ⟨some 104, _, _, _, _, _⟩) rfl (fun K hK => ?_) AllReadyH.nil
        go_simp
        clear hHeld
        refine hK.out _ _ ?_ (fun hHeld => ?_)
        · exact HK.out _ bm
        clear hK K
        (try simp only [Act.put, List.setIfInBounds_toArray, List.set_cons_zero, List.set_cons_succ])
        refine wpAnyH_take (i := 26) (oi := ⟨some 105, _, _, _, _, _⟩) (v := ?_) rfl (by kernel_rfl) (by kernel_rfl) (by kernel_rfl) (fun _ _ _ h => h) (Or.inl ⟨by rfl, ?_⟩) (by assumption) ?_
        rotate_left
        · intro W hSW; obtain ⟨hSW0, hSW1, hSW2, hSW3⟩ := hSW; go_simp; first | done | with_reducible rfl
        (try simp only [Act.put, List.setIfInBounds_toArray, List.set_cons_zero, List.set_cons_succ])
        refine wpAnyH_take (i := 27) (oi := ⟨some 106, _, _, _, _, _⟩) (v := ?_) rfl (by kernel_rfl) (by kernel_rfl) (by kernel_rfl) (fun _ _ _ h => h) (Or.inl ⟨by rfl, ?_⟩) (by assumption) ?_
        rotate_left
        · intro W hSW; obtain ⟨hSW0, hSW1, hSW2, hSW3⟩ := hSW; go_simp; first | done | with_reducible rfl
        (try simp only [Act.put, List.setIfInBounds_toArray, List.set_cons_zero, List.set_cons_succ])
        refine wpAnyH_take (i := 28) (oi := ⟨some 2, _, _, _, _, _⟩) (v := ?_) rfl (by kernel_rfl) (by kernel_rfl) (by kernel_rfl) (fun _ _ _ h => h) (Or.inl ⟨by rfl, ?_⟩) (by assumption) ?_
        rotate_left
        · intro W hSW; obtain ⟨hSW0, hSW1, hSW2, hSW3⟩ := hSW; go_simp; first | done | with_reducible rfl
        (try simp only [Act.put, List.setIfInBounds_toArray, List.set_cons_zero, List.set_cons_succ])
        refine wpAnyH_done (by kernel_rfl) ?_ _
        refine NoPanic.normal ?_
        go_wp2
        go_ret
        exact ⟨rfl, Below.then_ HB9.out hHeld.1⟩
      · have t6 : decide ((6 : Int) ≤ (n : Int)) = false := by simp; omega
        have hk24 : k < 24 := by have := HN.out; omega
        have D1 := Lib.hid (fun W => decodeArg A1 k c1 W (.inr (.inl hk24)) (by omega))
        have D2 := Lib.hid (fun W => decodeArg A2 k c2 W (.inr (.inl hk24)) (by omega))
        clear own1 own2 apt hbel h1 hm1 hm2 hi0 hz0 hz1 hz2
        go_upto_region 9 with (go_at_call 11; refine (D1.out _).mono ?_; rintro e w5 ⟨rfl, rfl⟩)
        go_upto_region 10 with (go_at_call 11; refine (D2.out _).mono ?_; rintro e w6 ⟨rfl, rfl⟩)
        go_wp2_with (go_at_call 13; refine (decodesC wr hT3).mono ?_; rintro e w7 ⟨rfl, be7⟩)
        go_ret
        exact ⟨rfl, Below.then_ HB3.out be7⟩
end Go.Proofs.YtlnjealhiikmeabDoor
