/-
  The walk of VersionSplits.
-/
import Derived.Test.YtibddlldgmidlaaNc
namespace Go.Proofs.Ytibddlldgmidlaa
open Go.RowKit
set_option linter.unusedVariables false
set_option linter.unusedSimpArgs false

/-- Four slices of no memory. -/
def N4 : Array Value := S4 (.slice none 0 0) (.slice none 0 0) (.slice none 0 0) (.slice none 0 0)
theorem N4_one : N4.all (·.oneCell') = true := by simp [N4, S4, Value.oneCell']
set_option maxHeartbeats 400000 in
/-- version.Split of what are no bits, or not of whole steps. -/
theorem vSplitNo (A : Option Addr) (n c : Nat) (l : List Nat) (w : World) (hr : Rd w w.heap.size A n (U8 l)) (h256 : ∀ x ∈ l, x < 256) (hn : n ≤ 65536) (b : Bool) (hb : Bm.isB l = b) (h4 : b = true → n % 4 ≠ 0) :
    Calls Try.prog 15 #[.slice A n c] w fun e w' => e = .returned (.tuple #[.agg N4, .int .i64 (if b then 1 else 5)]) ∧ Below w.heap.size w w' := by
  have CR := Lib.hid (fun (W : World) (hb : Below w.heap.size w W) => right A n c l W ((hr.below hb).up hb.size) h256 hn)
  rw [hb] at CR
  clear hb hr h256
  cases b
  · clear h4
    go_enter Try.func15, Try.ntmps15
    go_wp2_with (first | (refine at_alloc rfl 36 rfl N4 ZS_eq ?_; intro w1 h1) | (go_at_call 22; refine (CR.out _ h1.bel).mono ?_; rintro e w' ⟨rfl, rfl⟩) | (refine at_store rfl 36 _ _ rfl w.heap.size N4 rfl rfl 36 _ h1.row infoS4 rfl N4_one ?_; intro w2 h2))
    refine bodyPost_ret (v := .tuple #[.agg N4, .int .i64 5]) (results_row_tmp rfl _ _ w.heap.size 36 _ _ rfl _ rfl h2.row Try.underlying36 rfl infoS4) rfl ?_
    exact ⟨rfl, h1.bel.trans (h2.below (Nat.le_refl _))⟩
  · obtain ⟨r, hr⟩ : ∃ r : Nat, (n : Int) % 4 = (r : Int) ∧ r ≠ 0 := ⟨n % 4, by omega, h4 rfl⟩
    obtain ⟨hr, hr0⟩ := hr
    have t1 : ((r : Int) != 0) = true := by simp; omega
    clear h4 hr0
    go_enter Try.func15, Try.ntmps15
    go_wp2_with (first | (refine at_alloc rfl 36 rfl N4 ZS_eq ?_; intro w1 h1) | (go_at_call 22; refine (CR.out _ h1.bel).mono ?_; rintro e w' ⟨rfl, rfl⟩) | (refine at_store rfl 36 _ _ rfl w.heap.size N4 rfl rfl 36 _ h1.row infoS4 rfl N4_one ?_; intro w2 h2))
    refine bodyPost_ret (v := .tuple #[.agg N4, .int .i64 1]) (results_row_tmp rfl _ _ w.heap.size 36 _ _ rfl _ rfl h2.row Try.underlying36 rfl infoS4) rfl ?_
    exact ⟨rfl, h1.bel.trans (h2.below (Nat.le_refl _))⟩
set_option maxHeartbeats 1000000 in
set_option maxRecDepth 100000 in
/-- VersionSplits. -/
theorem walkVersionSplits (A : Option Addr) (n c : Nat) (xs : List Nat) (w : World) (h1 : Rd w w.heap.size A n (U8 xs)) (b1 : ∀ b ∈ xs, b < 256) (hnc : n ≤ c) (hc : c ≤ 9223372036854775807) (hnone : A = none → n = 0 ∧ c = 0) :
    Calls Try.prog 6 #[.slice A n c] w fun e w' => e = .returned (.bool true) ∧ Below w.heap.size w w' := by
  obtain ⟨i0, hi0, hz0, hz1, hz2⟩ := info_parts info5
  obtain ⟨k, hk, hk2, hk3⟩ := min_if n 300
  obtain ⟨hm1, hm2⟩ := hk3 300 rfl
  clear hk3
  have r1 := h1.cut8 k hk2
  have bk := take256 b1 k
  generalize xs.take k = ls at *
  have r2 : Rd (w.alloc (.cells #[] 5)) w.heap.size A k (U8 ls) := r1.below ((Below.refl _ _).alloc (Nat.le_refl _) _)
  have hn2 : A = none → k = 0 ∧ c = 0 := fun h => ⟨by have := (hnone h).1; omega, (hnone h).2⟩
  have o1 : Own (w.alloc (.cells #[] 5)) w.heap.size 5 (some ⟨w.heap.size, 0, none⟩) 0 0 [] := ⟨World.ownsRow_made w #[] 0 (Nat.le_refl _) (by unfold maxLen; omega) (by simp)⟩
  have BK := Lib.hid bk
  clear h1 b1 hnone r1 bk
  go_enter Try.func6, Try.ntmps6
  go_upto_region 3 with (at_builtin; refine wpList_app _ rfl _ _ 35 rfl w.heap.size 5 i0 _ 1 Try.underlying35 hi0 hz0 hz1 hz2 rfl _ 0 0 [] rfl o1 w.heap.size A k c (U8 ls) rfl r2 hn2 (U8_one ls) (by omega) (by unfold maxLen; omega) (by simp) ?_; intro A5 c5 w5 hown5 hgrow5; have own := hown5.to (Nat.zero_add k) (List.nil_append (U8 ls)); have hcv := own.conv w5 (Below.refl _ _))
  have bel : Below w.heap.size w w5 := ((Below.refl _ _).alloc (Nat.le_refl _) _).grown hgrow5 (by simp) (fun j hj => by simp [Value.ownBlock] at hj; omega)
  clear hown5 hgrow5 r2 hn2 o1 hi0 hz0 hz1 hz2 hm1 hm2 hcv
  have rl := own.rdOf (Below.refl _ _)
  have HN := Lib.hid rl.len8
  have CD := Lib.hid splitsC
  generalize hs0 : str ls = s0 at *
  have HS0 := Lib.hid hs0
  clear hs0
  have hp0 : (s0.toList != s0.toList) = false := by simp
  have CR := Lib.hid (fun (W : World) (hB : Below w5.heap.size w5 W) => refRight A5 k c5 ls W (own.rdOf hB) BK.out (by omega))
  by_cases hno : Bm.isB ls = true ∧ k % 4 = 0
  · obtain ⟨hbit, h4⟩ := hno
    have hl := Bm.isB_true hbit
    rw [hbit] at CR
    obtain ⟨T, hT⟩ : ∃ T, k = 4 * T := ⟨k / 4, by omega⟩
    have C := Lib.hid (vSplit A5 k c5 T ls w5 rl hl hT (by omega))
    have CP := Lib.hid (fun (v : Nat) (hv : v < 4) (W : World) (hB : Below w5.heap.size w5 W) => refPick A5 k c5 T v ls W (own.rdOf hB) hT (by omega) hv)
    have e4 : (k : Int) % 4 = 0 := by omega
    have HT := Lib.hid hT
    have hT2 : T ≤ 75 := by omega
    have HL := Lib.hid hl
    clear hbit h4 hT hl
    go_upto_region 4 with (first | (go_at_call 15; refine C.out.mono ?_; rintro e w6 ⟨g0, g1, g2, g3, rfl, p0, p1, p2, p3, be6, l0, l1, l2, l3⟩) | (refine at_alloc rfl 36 rfl N4 ZS_eq ?_; intro w7 h7) | (refine at_store rfl 36 _ _ rfl w6.heap.size (S4 (sl g0 T) (sl g1 T) (sl g2 T) (sl g3 T)) rfl rfl 36 _ h7.row infoS4 rfl (S4_one _ _ _ _ _) ?_; intro w8 h8))
    have m0 := p0.lt
    have m1 := p1.lt
    have m2 := p2.lt
    have m3 := p3.lt
    replace p0 := h8.blk (p0.after h7.bel) (by omega)
    replace p1 := h8.blk (p1.after h7.bel) (by omega)
    replace p2 := h8.blk (p2.after h7.bel) (by omega)
    replace p3 := h8.blk (p3.after h7.bel) (by omega)
    have q8 := h8.row
    have be8 : Below w5.heap.size w5 w8 := (Below.then_ be6 h7.bel).trans (h8.below be6.size)
    have hg4 : w5.heap.size ≤ w6.heap.size := be6.size
    obtain ⟨g4, hg⟩ : ∃ g, g = w6.heap.size := ⟨_, rfl⟩
    rw [← hg] at q8 hg4
    rw [← hg]
    clear h7 h8 be6 hg l0 l1 l2 l3 m0 m1 m2 m3
    go_upto_region 10 with (first | (go_at_call 16; refine (CD.out w8).mono ?_; rintro e w9 ⟨rfl, be9⟩; have be59 := Below.then_ be8 be9; have hcv9 := own.conv w9 be59; rw [HS0.out] at hcv9) | (go_at_call 17; refine (CR.out w9 be59).mono ?_; rintro e w' ⟨rfl, rfl⟩))
    replace p0 := p0.after be9
    replace p1 := p1.after be9
    replace p2 := p2.after be9
    replace p3 := p3.after be9
    replace q8 := q8.after be9
    have HP : Hid (∀ v, v < 4 → ∃ g, (S4 (sl g0 T) (sl g1 T) (sl g2 T) (sl g3 T))[v]? = some (sl g T) ∧ Blk w9 g 5 (B8 (Cv.pick ls v))) := fun v hv => by
      have h : v = 0 ∨ v = 1 ∨ v = 2 ∨ v = 3 := by omega
      rcases h with rfl | rfl | rfl | rfl
      · exact ⟨g0, rfl, p0⟩
      · exact ⟨g1, rfl, p1⟩
      · exact ⟨g2, rfl, p2⟩
      · exact ⟨g3, rfl, p3⟩
    clear be8 be9 hcv9 C CD CR e4
    obtain ⟨B9, hB9⟩ : ∃ B, B = w9.heap.size := ⟨_, rfl⟩
    have HW7 := Lib.hid hB9.symm
    clear hB9
    go_wp2
    go_loopw [6] (fun x wr => ∃ k : Nat, k ≤ 4 ∧ x = .int .i64 k ∧ Below w9.heap.size w9 wr) (fun x _ => 4 - (intOf x).toNat)
    case atStart => exact ⟨0, by omega, rfl, Below.refl _ _⟩
    case round =>
      obtain ⟨v, hv, rfl, bk⟩ := hrel
      by_cases hlt : v < 4
      · obtain ⟨gk, hVk, pk⟩ := HP.out v hlt
        have CK := Lib.hid (fun (W : World) (hB : Below w9.heap.size w9 W) => CP.out v hlt W (Below.then_ be59 hB))
        have ia := fun W => run_idx (P := Try.prog) (sz := 1) Try.underlying36 (by kernel_rfl) g4 0 v hlt .i64 W
        simp only [Nat.zero_add, Nat.one_mul] at ia
        obtain ⟨sk, hsk⟩ : ∃ s, str (Cv.pick ls v) = s := ⟨_, rfl⟩
        have HSk := Lib.hid hsk
        have HLk : Hid ((Cv.pick ls v).length = T) := by unfold Hid; rw [Cv.pick_length, ← HN.out, HT.out]; omega
        have HK : Hid (∀ W, Below w9.heap.size w9 W → (Below w9.heap.size w9 W ∧ W.cell? ⟨g4, v, none⟩ = some (.slice (some ⟨gk, 0, none⟩) T T) ∧ convO (some ⟨gk, 0, none⟩) T T W = .ok (.string sk) W)) := fun W hB => ⟨hB, ((q8.after hB).cell v).trans hVk, by
          have := (pk.after hB).convB (n := T) (c := T) HLk.out
          rw [hsk] at this
          exact this⟩
        have tk : (sk.toList != sk.toList) = false := by simp
        have hany := convO_eq
        have dv : decide ((v : Int) < 4) = true := by simp <;> omega
        clear hsk hVk pk
        go_upto_region 13 with fail
        refine wp_region_noPanic ?_
        refine wp_region_held_drew (S := fun W => Below w9.heap.size w9 W ∧ W.cell? ⟨g4, v, none⟩ = some (.slice (some ⟨gk, 0, none⟩) T T) ∧ convO (some ⟨gk, 0, none⟩) T T W = .ok (.string sk) W) (by kernel_rfl) (HK.out _ bk.drew) (fun hHeld => ?_)
        refine wpAnyH_take (i := 0) (oi := ⟨some 58, _, _, _, _, _⟩) (v := ?_) rfl (by kernel_rfl) (by kernel_rfl) (by kernel_rfl) (fun _ _ _ h => h) (Or.inl ⟨by rfl, ?_⟩) hHeld ?_
        rotate_left
        · intro W hSW; obtain ⟨hSW0, hSW1, hSW2⟩ := hSW; go_simp; first | done | with_reducible rfl
        (try simp only [Act.put, List.setIfInBounds_toArray, List.set_cons_zero, List.set_cons_succ])
        refine wpAnyH_take (i := 1) (oi := ⟨some 59, _, _, _, _, _⟩) (v := ?_) rfl (by kernel_rfl) (by kernel_rfl) (by kernel_rfl) (fun _ _ _ h => h) (Or.inl ⟨by rfl, ?_⟩) hHeld ?_
        rotate_left
        · intro W hSW; obtain ⟨hSW0, hSW1, hSW2⟩ := hSW; go_simp; first | done | with_reducible rfl
        (try simp only [Act.put, List.setIfInBounds_toArray, List.set_cons_zero, List.set_cons_succ])
        refine wpAnyH_take (i := 2) (oi := ⟨some 60, _, _, _, _, _⟩) (v := ?_) rfl (by kernel_rfl) (by kernel_rfl) (by kernel_rfl) (fun _ _ _ h => h) (Or.inl ⟨by rfl, ?_⟩) hHeld ?_
        rotate_left
        · intro W hSW; obtain ⟨hSW0, hSW1, hSW2⟩ := hSW; go_simp; first | done | with_reducible rfl
        (try simp only [Act.put, List.setIfInBounds_toArray, List.set_cons_zero, List.set_cons_succ])
        refine wpAnyH_take (i := 3) (oi := ⟨some 61, _, _, _, _, _⟩) (v := ?_) rfl (by kernel_rfl) (by kernel_rfl) (by kernel_rfl) (fun _ _ _ h => h) (Or.inl ⟨by rfl, ?_⟩) hHeld ?_
        rotate_left
        · intro W hSW; obtain ⟨hSW0, hSW1, hSW2⟩ := hSW; go_simp; first | done | with_reducible rfl
        (try simp only [Act.put, List.setIfInBounds_toArray, List.set_cons_zero, List.set_cons_succ])
        refine wpAnyH_take (i := 4) (oi := ⟨some 62, _, _, _, _, _⟩) (v := ?_) rfl (by kernel_rfl) (by kernel_rfl) (by kernel_rfl) (fun _ _ _ h => h) (Or.inl ⟨by rfl, ?_⟩) hHeld ?_
        rotate_left
        · intro W hSW; obtain ⟨hSW0, hSW1, hSW2⟩ := hSW; go_simp; first | done | with_reducible rfl
        (try simp only [Act.put, List.setIfInBounds_toArray, List.set_cons_zero, List.set_cons_succ])
        refine wpAnyH_take (i := 5) (oi := ⟨some 63, _, _, _, _, _⟩) (v := ?_) rfl (by kernel_rfl) (by kernel_rfl) (by kernel_rfl) (fun _ _ _ h => h) (Or.inl ⟨by rfl, ?_⟩) hHeld ?_
        rotate_left
        · intro W hSW; obtain ⟨hSW0, hSW1, hSW2⟩ := hSW; go_simp; first | done | with_reducible rfl
        (try simp only [Act.put, List.setIfInBounds_toArray, List.set_cons_zero, List.set_cons_succ])
        refine wpAnyH_ready (rs := [6]) (by kernel_rfl) (by simp) ?_
        refine AllReadyH.cons (o := ⟨some 64, _, _, _, _, _⟩) rfl (fun K hK => ?_) (AllReadyH.nil)
        go_simp
        have bw := hHeld.1
        refine (CK.out _ bw).mono ?_
        rintro e wc ⟨Ac, nc, cc, rfl, owc, bec⟩
        have bc := Below.then_ bw bec
        have hq := owc.convO _ (Below.refl _ _)
        rw [HSk.out] at hq
        clear hHeld bw
        refine hK.out _ _ ?_ (fun hHeld => ?_)
        · exact HK.out _ bc
        clear hK K
        (try simp only [Act.put, List.setIfInBounds_toArray, List.set_cons_zero, List.set_cons_succ])
        refine wpAnyH_ready (rs := [7]) (by kernel_rfl) (by simp) ?_
        refine AllReadyH.cons (o := ⟨some 65, _, _, _, _, _⟩) rfl (fun K hK => ?_) (AllReadyH.nil)
        go_simp
        clear hHeld
        refine hK.out _ _ ?_ (fun hHeld => ?_)
        · exact HK.out _ bc
        clear hK K
        (try simp only [Act.put, List.setIfInBounds_toArray, List.set_cons_zero, List.set_cons_succ])
        refine wpAnyH_take (i := 8) (oi := ⟨some 66, _, _, _, _, _⟩) (v := ?_) rfl (by kernel_rfl) (by kernel_rfl) (by kernel_rfl) (fun _ _ _ h => h) (Or.inl ⟨by rfl, ?_⟩) hHeld ?_
        rotate_left
        · intro W hSW; obtain ⟨hSW0, hSW1, hSW2⟩ := hSW; go_simp; first | done | with_reducible rfl
        (try simp only [Act.put, List.setIfInBounds_toArray, List.set_cons_zero, List.set_cons_succ])
        refine wpAnyH_done (by kernel_rfl) ?_ _
        refine NoPanic.normal ?_
        clear hHeld
        have bcw := bc
        go_wp2
        go_roundw
        case rel => exact ⟨v + 1, by omega, by go_num, bcw⟩
        case measure => simp [intOf] <;> omega
      · have dv : decide ((v : Int) < 4) = false := by simp <;> omega
        have hle := be59.size
        have CJ := Lib.hid (vJoin (some ⟨g0, 0, none⟩) (some ⟨g1, 0, none⟩) (some ⟨g2, 0, none⟩) (some ⟨g3, 0, none⟩) T T T T T T T T (Cv.pick ls 0) (Cv.pick ls 1) (Cv.pick ls 2) (Cv.pick ls 3) wr ((p0.after bk).rd8 (by rw [Cv.pick_length, ← HN.out, HT.out]; omega)) ((p1.after bk).rd8 (by rw [Cv.pick_length, ← HN.out, HT.out]; omega)) ((p2.after bk).rd8 (by rw [Cv.pick_length, ← HN.out, HT.out]; omega)) ((p3.after bk).rd8 (by rw [Cv.pick_length, ← HN.out, HT.out]; omega)) (bit256 (Cv.pick_bit ls HL.out 0)) (bit256 (Cv.pick_bit ls HL.out 1)) (bit256 (Cv.pick_bit ls HL.out 2)) (bit256 (Cv.pick_bit ls HL.out 3)) (by omega) (by omega) (by omega) (by omega))
        have iS := infoS4
        have q9 := q8.after bk
        go_wp2_with (first | (refine at_load rfl 36 _ rfl g4 rfl 36 (S4 (sl g0 T) (sl g1 T) (sl g2 T) (sl g3 T)) _ q9 Try.underlying36 rfl iS ?_) | (go_at_call 19; refine CJ.out.mono ?_))
        intro e w10 hJ
        have hall : (Bm.isB (Cv.pick ls 0) && Bm.isB (Cv.pick ls 1) && Bm.isB (Cv.pick ls 2) && Bm.isB (Cv.pick ls 3)) = true := by
          rw [Bm.isB_of (Cv.pick_bit ls HL.out 0), Bm.isB_of (Cv.pick_bit ls HL.out 1), Bm.isB_of (Cv.pick_bit ls HL.out 2), Bm.isB_of (Cv.pick_bit ls HL.out 3)]; rfl
        rcases hJ with ⟨hh, _⟩ | ⟨_, hh, _⟩ | ⟨_, _, g9, N, hN, rfl, hg9, p9, be10⟩
        · rw [hall] at hh; cases hh
        · exact absurd ⟨rfl, rfl, rfl⟩ hh
        · rw [jf_pick ls _ T (by rw [← HN.out, HT.out]) (fun v hv => by
            have h : v = 0 ∨ v = 1 ∨ v = 2 ∨ v = 3 := by omega
            rcases h with rfl | rfl | rfl | rfl <;> rfl)] at p9
          have hcv := p9.convB (n := N) (c := N) (by rw [← HN.out, HT.out, hN])
          rw [HS0.out] at hcv
          have hp1 : (s0.toList == s0.toList) = true := by simp
          clear hall hN
          go_wp2
          go_ret
          exact ⟨rfl, ((bel.trans (be59.mono bel.size)).trans (bk.mono (Nat.le_trans bel.size be59.size))).trans (be10.mono (Nat.le_trans bel.size (Nat.le_trans be59.size bk.size)))⟩
  · obtain ⟨b, hb⟩ : ∃ b, Bm.isB ls = b := ⟨_, rfl⟩
    rw [hb] at CR hno
    have C := Lib.hid (vSplitNo A5 k c5 ls w5 rl BK.out (by omega) b hb (fun h hc => hno ⟨h, hc⟩))
    obtain ⟨r, hr, hr4⟩ : ∃ r : Nat, (k : Int) % 4 = (r : Int) ∧ (b = true → r ≠ 0) := ⟨k % 4, by omega, fun h hc => hno ⟨h, hc⟩⟩
    clear hno hb
    cases b
    · clear hr4
      rw [show (if (false : Bool) = true then (1 : Int) else 5) = 5 from rfl] at C
      go_upto_region 4 with (first | (go_at_call 15; refine C.out.mono ?_; rintro e w6 ⟨rfl, be6⟩) | (refine at_alloc rfl 36 rfl N4 ZS_eq ?_; intro w7 h7) | (refine at_store rfl 36 _ _ rfl w6.heap.size N4 rfl rfl 36 _ h7.row infoS4 rfl N4_one ?_; intro w8 h8))
      have q8 := h8.row
      have be8 : Below w5.heap.size w5 w8 := (Below.then_ be6 h7.bel).trans (h8.below be6.size)
      obtain ⟨g4, hg⟩ : ∃ g, g = w6.heap.size := ⟨_, rfl⟩
      rw [← hg] at q8
      rw [← hg]
      clear h7 h8 be6 hg
      go_wp2_with (first | (go_at_call 16; refine (CD.out w8).mono ?_; rintro e w9 ⟨rfl, be9⟩; have be59 := Below.then_ be8 be9; have hcv9 := own.conv w9 be59; rw [HS0.out] at hcv9; have k0 : w9.cell? ⟨g4, 0, none⟩ = some (.slice none 0 0) := (q8.after be9).cell 0) | (go_at_call 17; refine (CR.out w9 be59).mono ?_; rintro e w' ⟨rfl, rfl⟩))
      go_ret
      exact ⟨rfl, Below.then_ bel be59⟩
    · have t1 : ((r : Int) != 0) = true := by have := hr4 rfl; simp; omega
      clear hr4
      rw [show (if (true : Bool) = true then (1 : Int) else 5) = 1 from rfl] at C
      go_upto_region 4 with (first | (go_at_call 15; refine C.out.mono ?_; rintro e w6 ⟨rfl, be6⟩) | (refine at_alloc rfl 36 rfl N4 ZS_eq ?_; intro w7 h7) | (refine at_store rfl 36 _ _ rfl w6.heap.size N4 rfl rfl 36 _ h7.row infoS4 rfl N4_one ?_; intro w8 h8))
      have q8 := h8.row
      have be8 : Below w5.heap.size w5 w8 := (Below.then_ be6 h7.bel).trans (h8.below be6.size)
      obtain ⟨g4, hg⟩ : ∃ g, g = w6.heap.size := ⟨_, rfl⟩
      rw [← hg] at q8
      rw [← hg]
      clear h7 h8 be6 hg
      go_wp2_with (first | (go_at_call 16; refine (CD.out w8).mono ?_; rintro e w9 ⟨rfl, be9⟩; have be59 := Below.then_ be8 be9; have hcv9 := own.conv w9 be59; rw [HS0.out] at hcv9; have k0 : w9.cell? ⟨g4, 0, none⟩ = some (.slice none 0 0) := (q8.after be9).cell 0) | (go_at_call 17; refine (CR.out w9 be59).mono ?_; rintro e w' ⟨rfl, rfl⟩))
      go_ret
      exact ⟨rfl, Below.then_ bel be59⟩
end Go.Proofs.Ytibddlldgmidlaa
