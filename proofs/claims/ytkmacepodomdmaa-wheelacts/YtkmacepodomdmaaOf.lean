/-
  The library's sort at numbers of 16 bits: patterns broken, a look whether all rises, pdqsortOrdered, Sort.
-/
import Derived.Test.YtkmacepodomdmaaOg
import Derived.Deep.LoopGhost
namespace Go.Proofs.Ytkmacepodomdmaa
open Go.RowKit
set_option maxRecDepth 100000
open Go.Sort (swp PermIn SortedIn SWO Holds putRow mapBlock)
set_option linter.unusedVariables false
set_option linter.unusedSimpArgs false

set_option maxHeartbeats 2000000 in
set_option maxRecDepth 100000 in
/-- slices.partialInsertionSortOrdered, of fewer than 50. -/
theorem pinsC (g off n cap a b : Nat) (d : Array Nat) (w : World) (h : SR w g off n w d) (h12 : a + 12 < b) (h50 : b < a + 50) (hb : b ≤ n) (hn : n < 1000000) :
    Calls Try.prog 86 #[.slice (some ⟨g, off, none⟩) n cap, .int .i64 (a : Int), .int .i64 (b : Int)] w fun e w' =>
      ∃ r : Bool, e = .returned (.bool r) ∧ SR w g off n w' d ∧ (r = true → So a b d) := by
  have H1 := Lib.hid h
  obtain ⟨G, HG, hcw0, hfw0⟩ := h.names
  clear h hcw0 hfw0
  have h50z : (b : Int) - (a : Int) < 50 := by omega
  go_enter Try.func86, Try.ntmps86
  go_wp2_with fail
  go_loopw [7, 8] (fun vi vs wr => vi = .int .i64 ((a : Int) + 1) ∧ vs = .int .i64 0 ∧ Hid (SR w g off n wr d)) (fun _ _ _ => 0)
  case atStart => exact ⟨rfl, rfl, H1⟩
  case round =>
    clear H1
    obtain ⟨rfl, rfl, H1⟩ := hrel
    go_wp2_with fail
    go_loopw [7] (fun vi wr => ∃ i : Nat, vi = .int .i64 (i : Int) ∧ a < i ∧ i ≤ b ∧ Hid (SR w g off n wr d) ∧ Hid (So a i d)) (fun vi _ => b - (intOf vi).toNat)
    case atStart => exact ⟨a + 1, by go_num, by omega, by omega, H1, fun i j h1 h2 h3 => by omega⟩
    case round =>
      clear H1
      obtain ⟨i, rfl, hai, hib, H1, HO⟩ := hrel
      obtain ⟨hcw, hfw⟩ := H1.out.fam HG.out
      by_cases hlt : i < b
      · have e1 : ((i : Int) == (b : Int)) = false := by simp; omega
        go_wp2_with fail
        go_big_quiet (first | (go_at_call 87; refine Calls.quiet_of_same (lessC _ _ _)))
        go_wp2_with fail
        · have ht : (!ltN (G i) (G (i - 1))) = true := by assumption
          go_roundw
          case rel =>
            refine ⟨i + 1, by go_num, by omega, by omega, H1.out.draw _, ?_⟩
            have hle : d[i - 1]! ≤ d[i]! := by rw [← HG.out, ← HG.out]; simpa [ltN] using ht
            intro x y h1 h2 h3
            by_cases hy : y = i
            · rw [hy]
              by_cases hx : x = i - 1
              · rw [hx]; exact hle
              · exact Nat.le_trans (HO.out x (i - 1) h1 (by omega) (by omega)) hle
            · exact HO.out x y h1 h2 (by omega)
          case measure => simp [intOf]; omega
        · go_ret
          exact ⟨false, rfl, H1.out.draw _, fun h => by cases h⟩
      · obtain rfl : i = b := by omega
        go_wp2_with fail
        go_big_quiet (first | (go_at_call 87; refine Calls.quiet_of_same (lessC _ _ _)))
        go_wp2_with fail
        go_ret
        exact ⟨true, rfl, H1.out.draw _, fun _ => HO.out⟩

theorem pow_bit : ∀ L : Fin 50, 0 < L.val → 2 ^ (Lib.bitLen L.val) ≤ 2 * L.val := by decide +kernel
theorem bit_le : ∀ L : Fin 50, Lib.bitLen L.val ≤ 6 := by decide +kernel
set_option maxHeartbeats 1000000 in
/-- slices.nextPowerOfTwo, of fewer than 50. -/
theorem npowC (L : Nat) (w : World) (h0 : 0 < L) (h50 : L < 50) : Calls Try.prog 101 #[.int .i64 (L : Int)] w fun e w' => ∃ M : Nat, e = .returned (.int .u64 (M : Int)) ∧ 1 ≤ M ∧ M ≤ 2 * L ∧ w = w' := by
  have hk := bit_le ⟨L, h50⟩
  have hp := pow_bit ⟨L, h50⟩ h0
  have hLen : ∀ W, Calls Try.prog 75 #[.int .u64 (L : Int)] W fun e w' => e = .returned (.int .i64 ((Lib.bitLen L : Nat) : Int)) ∧ W = w' := fun W => by
    have := lenC (L : Int) W (by omega) (by omega)
    rw [Int.toNat_natCast] at this
    exact this.mono (fun e w' h => h)
  simp only [] at hk hp
  obtain ⟨k, hk2⟩ : ∃ k, Lib.bitLen L = k := ⟨_, rfl⟩
  rw [hk2] at hk hp hLen
  obtain ⟨M, hM⟩ : ∃ M : Nat, M = 2 ^ k := ⟨_, rfl⟩
  have hM1 : 1 ≤ M := by rw [hM]; exact Nat.two_pow_pos _
  rw [← hM] at hp
  have e1 : IntKind.u64.wrap ((2 : Int) ^ k) = (M : Int) := by
    rw [IntKind.wrap_u64, show ((2 : Int) ^ k) = ((2 ^ k : Nat) : Int) by push_cast; rfl, ← hM]
    omega
  clear hk2 hM
  go_enter Try.func101, Try.ntmps101
  go_wp2_with (go_at_call 75; refine (hLen _).mono ?_; rintro e w' ⟨rfl, rfl⟩)
  go_ret
  exact ⟨M, rfl, hM1, hp, rfl⟩

/-- A box beside the row that is sorted. -/
structure Bq (w : World) (B : Nat) (R : Nat) : Prop where
  cell : w.cell? ⟨B, 0, none⟩ = some (.int .u64 (R : Int))
  froz : w.frozen? ⟨B, 0, none⟩ = false
  lt : R < 18446744073709551616
theorem Bq.of_block {w w' : World} {B R : Nat} (h : Bq w B R) (hb : w'.heap[B]? = w.heap[B]?) : Bq w' B R :=
  ⟨(World.cell?_of_block (a := ⟨B, 0, none⟩) hb).trans h.cell, (World.frozen?_of_block (a := ⟨B, 0, none⟩) hb).trans h.froz, h.lt⟩
theorem Bq.swap {w : World} {B R g i j : Nat} {x y : Value} (h : Bq w B R) (hne : g ≠ B) : Bq ((w.setCell ⟨g, i, none⟩ x).setCell ⟨g, j, none⟩ y) B R :=
  h.of_block ((Below.heap_setCell _ _ _ _ (Ne.symm hne)).trans (Below.heap_setCell _ _ _ _ (Ne.symm hne)))
theorem Bq.draw {w : World} {B R : Nat} (h : Bq w B R) (q : Nat) : Bq (w.drewN q) B R := ⟨h.cell, h.froz, h.lt⟩
theorem Bq.drew {w : World} {B R : Nat} (h : Bq w B R) : Bq w.drew B R := ⟨h.cell, h.froz, h.lt⟩

set_option maxHeartbeats 1000000 in
set_option maxRecDepth 100000 in
/-- slices.breakPatternsOrdered, of fewer than 50. -/
theorem brkC (g off n cap a L : Nat) (d : Array Nat) (w : World) (h : SR w g off n w d) (h12 : 12 < L) (h50 : L < 50) (hb : a + L ≤ n) (hn : n < 1000000) :
    Calls Try.prog 83 #[.slice (some ⟨g, off, none⟩) n cap, .int .i64 (a : Int), .int .i64 ((a + L : Nat) : Int)] w fun e w' =>
      e = .returned (.tuple #[]) ∧ ∃ d', SR w g off n w' d' ∧ PermIn a (a + L) d d' := by
  have eL : (((a + L : Nat) : Int) - (a : Int)) = (L : Int) := by omega
  obtain ⟨b, hbb⟩ : ∃ b : Nat, b = a + L := ⟨_, rfl⟩
  rw [← hbb] at eL hb ⊢
  have hg := h.lt
  obtain ⟨B, hB⟩ : ∃ B, B = w.heap.size := ⟨_, rfl⟩
  have hgB : g ≠ B := by omega
  have H0 : Hid (SR w g off n (w.alloc (.cells #[.int .u64 (L : Int)] 151)) d) := h.after ((Below.refl _ _).alloc (Nat.le_refl _) _)
  have HQ0 : Hid (Bq (w.alloc (.cells #[.int .u64 (L : Int)] 151)) B L) := by
    rw [hB]; exact ⟨by simp, by simp, by omega⟩
  have hBl : Hid (w.heap.size ≤ B) := by rw [hB]; exact Nat.le_refl _
  obtain ⟨i0, hi0⟩ : ∃ i0 : Nat, i0 = a + L / 4 * 2 - 1 := ⟨_, rfl⟩
  have ei0 : (a : Int) + (L : Int) / 4 * 2 - 1 = (i0 : Int) := by omega
  have ei1 : (a : Int) + (L : Int) / 4 * 2 + 1 = (i0 : Int) + 2 := by omega
  have hi1 : a ≤ i0 ∧ i0 + 2 < b := by omega
  have HBB := Lib.hid hbb
  clear h hi0 hbb
  have HN := Lib.hid (npowC L)
  go_enter Try.func83, Try.ntmps83
  go_wp2_with (first | (go_at_call 101; (try rw [eL]); refine (HN.out _ (by omega) h50).mono ?_; rintro e w' ⟨M, rfl, hM1, hM2, rfl⟩))
  rw [← hB]
  clear hB
  have hA : Hid (∀ R : Nat, R < 18446744073709551616 → ∃ O : Nat, O ≤ M - 1 ∧ bits .and .u64 (R : Int) ((M : Int) - 1) = (O : Int)) := fun R hR =>
    ⟨R &&& (M - 1), Nat.and_le_right, by rw [show ((M : Int) - 1) = ((M - 1 : Nat) : Int) by omega, bits_and_u64_nat _ _ hR (by omega)]⟩
  go_loopw [9] (fun vi wr => ∃ (p R : Nat) (dk : Array Nat), vi = .int .i64 (p : Int) ∧ i0 ≤ p ∧ p ≤ i0 + 3 ∧ Hid (SR w g off n wr dk) ∧ Hid (PermIn a b d dk) ∧ Hid (Bq wr B R)) (fun vi _ => i0 + 3 - (intOf vi).toNat)
  case atStart => exact ⟨i0, L, d, by first | rfl | (congr 1; omega), by omega, by omega, H0, pm_refl _ _ _, HQ0⟩
  case round =>
    clear H0 HQ0
    obtain ⟨p, R, dk, rfl, hp1, hp2, H1, HP, HQ⟩ := hrel
    by_cases hlt : p < i0 + 3
    · have hltz : (p : Int) ≤ (a : Int) + (L : Int) / 4 * 2 + 1 := by omega
      obtain ⟨G, HG, hcw0, hfw0⟩ := H1.out.names
      clear hcw0 hfw0
      go_upto_region 8 with (first | (go_at_call 102; refine (xnextC B R wr HQ.out.lt HQ.out.cell HQ.out.froz).mono ?_; rintro e w1 ⟨R', rfl, hR', hb1⟩; obtain ⟨O, hO, eO⟩ := hA.out R' hR'))
      have H2 : Hid (SR w g off n w1 dk) := ⟨H1.out.sz, H1.out.lt, H1.out.held, H1.out.bel.grown hb1.gr H1.out.size' (fun k hk => by injection hk with hk; rw [← hk]; exact hBl.out)⟩
      have HQ1 : Hid (Bq w1 B R') := ⟨hb1.cell, hb1.froz, hR'⟩
      clear H1 HQ hb1
      obtain ⟨hcw, hfw⟩ := H2.out.fam HG.out
      have hin : a ≤ p ∧ p < b := by omega
      have hsz := H2.out.sz
      go_wp2_with fail
      · have hLO : L ≤ O := by omega
        obtain ⟨q, hq⟩ : ∃ q, q = a + (O - L) := ⟨_, rfl⟩
        have eq1 : (a : Int) + ((O : Int) - (L : Int)) = (q : Int) := by omega
        have hqb : a ≤ q ∧ q < b := by have := HBB.out; omega
        clear hq
        by_cases hEq : p = q
        · subst hEq
          go_region
          all_goals go_wp2_with fail
          go_roundw
          case rel => exact ⟨p + 1, R', _, by go_num, by omega, by omega, (by first | exact (H2.out.swapN (by omega) (by omega) (HG.out _) (HG.out _)).drew | exact (H2.out.draw _).swapN (by omega) (by omega) (HG.out _) (HG.out _)), pm_trans HP.out (pm_swp dk hin.1 hin.2 hqb.1 hqb.2 (by omega)), (by first | exact (HQ1.out.swap hgB).drew | exact (HQ1.out.draw _).swap hgB)⟩
          case measure => simp [intOf]; omega
        · go_region
          all_goals go_wp2_with fail
          go_roundw
          case rel => exact ⟨p + 1, R', _, by go_num, by omega, by omega, (by first | exact (H2.out.swapN (by omega) (by omega) (HG.out _) (HG.out _)).drew | exact (H2.out.draw _).swapN (by omega) (by omega) (HG.out _) (HG.out _)), pm_trans HP.out (pm_swp dk hin.1 hin.2 hqb.1 hqb.2 (by omega)), (by first | exact (HQ1.out.swap hgB).drew | exact (HQ1.out.draw _).swap hgB)⟩
          case measure => simp [intOf]; omega
      · have hLO : ¬ L ≤ O := by omega
        obtain ⟨q, hq⟩ : ∃ q, q = a + O := ⟨_, rfl⟩
        have eq1 : (a : Int) + (O : Int) = (q : Int) := by omega
        have hqb : a ≤ q ∧ q < b := by have := HBB.out; omega
        clear hq
        by_cases hEq : p = q
        · subst hEq
          go_region
          all_goals go_wp2_with fail
          go_roundw
          case rel => exact ⟨p + 1, R', _, by go_num, by omega, by omega, (by first | exact (H2.out.swapN (by omega) (by omega) (HG.out _) (HG.out _)).drew | exact (H2.out.draw _).swapN (by omega) (by omega) (HG.out _) (HG.out _)), pm_trans HP.out (pm_swp dk hin.1 hin.2 hqb.1 hqb.2 (by omega)), (by first | exact (HQ1.out.swap hgB).drew | exact (HQ1.out.draw _).swap hgB)⟩
          case measure => simp [intOf]; omega
        · go_region
          all_goals go_wp2_with fail
          go_roundw
          case rel => exact ⟨p + 1, R', _, by go_num, by omega, by omega, (by first | exact (H2.out.swapN (by omega) (by omega) (HG.out _) (HG.out _)).drew | exact (H2.out.draw _).swapN (by omega) (by omega) (HG.out _) (HG.out _)), pm_trans HP.out (pm_swp dk hin.1 hin.2 hqb.1 hqb.2 (by omega)), (by first | exact (HQ1.out.swap hgB).drew | exact (HQ1.out.draw _).swap hgB)⟩
          case measure => simp [intOf]; omega
    · have hltz : ¬ ((p : Int) ≤ (a : Int) + (L : Int) / 4 * 2 + 1) := by omega
      go_wp2_with fail
      go_end0
      exact ⟨rfl, dk, H1.out, HP.out⟩
end Go.Proofs.Ytkmacepodomdmaa
