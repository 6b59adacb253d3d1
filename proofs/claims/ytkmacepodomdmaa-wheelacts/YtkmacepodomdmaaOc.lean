/-
  The library's sort at numbers of 16 bits: which is less; insertion; the heap; a part turned round.
-/
import Derived.Test.YtkmacepodomdmaaOb
import Derived.BigCall
import Derived.BigGuard
import Derived.CellFam
import Derived.Deep.LoopGhost
namespace Go.Proofs.Ytkmacepodomdmaa
open Go.RowKit
set_option maxRecDepth 100000
open Go.Sort (swp PermIn SortedIn SWO Holds putRow mapBlock)
set_option linter.unusedVariables false
set_option linter.unusedSimpArgs false

theorem nanC (x : Int) (w : World) : Calls Try.prog 105 #[.int .u16 x] w fun e w' => e = .returned (.bool false) ∧ w' = w := by
  go_enter Try.func105, Try.ntmps105
  go_wp2
  go_ret
  exact ⟨by simp, rfl⟩
theorem lessC (x y : Nat) (w : World) : Calls Try.prog 87 #[.int .u16 (x : Int), .int .u16 (y : Int)] w fun e w' => e = .returned (.bool (ltN x y)) ∧ w' = w := by
  go_enter Try.func87, Try.ntmps87
  go_wp2_with (go_at_call 105; refine (nanC _ _).mono ?_; rintro e w' ⟨rfl, rfl⟩)
  go_ret
  refine ⟨?_, rfl⟩
  simp [ltN]

theorem ins_in_go (a j : Nat) (d : Array Nat) (hj : a < j) (hl : ltN d[j]! d[j - 1]! = true) : Go.Sort.insInner ltN a j d = Go.Sort.insInner ltN a (j - 1) (swp d j (j - 1)) := by
  cases j with
  | zero => omega
  | succ k =>
    rw [Nat.add_sub_cancel] at hl ⊢
    rw [Go.Sort.insInner, if_pos]
    rw [hl, Bool.and_true]
    exact decide_eq_true hj
theorem ins_in_stop (a j : Nat) (d : Array Nat) (h : ¬ a < j ∨ ltN d[j]! d[j - 1]! = false) : Go.Sort.insInner ltN a j d = d := by
  cases j with
  | zero => rw [Go.Sort.insInner]
  | succ k =>
    rw [Nat.add_sub_cancel] at h
    rw [Go.Sort.insInner, if_neg]
    rintro hc
    rw [Bool.and_eq_true, decide_eq_true_eq] at hc
    rcases h with h | h
    · exact h hc.1
    · rw [h] at hc; cases hc.2
theorem ins_out_go (a b i : Nat) (d : Array Nat) (h : i < b) : Go.Sort.insOuter ltN a b i d = Go.Sort.insOuter ltN a b (i + 1) (Go.Sort.insInner ltN a i d) := by
  rw [Go.Sort.insOuter, if_pos h]
theorem ins_out_stop (a b i : Nat) (d : Array Nat) (h : ¬ i < b) : Go.Sort.insOuter ltN a b i d = d := by
  rw [Go.Sort.insOuter, if_neg h]

set_option maxHeartbeats 1000000 in
/-- slices.insertionSortOrdered. -/
theorem insC (g off n cap a b : Nat) (d : Array Nat) (w : World) (h : SR w g off n w d) (hab : a ≤ b) (hb : b ≤ n) (hn : n < 1000000) :
    Calls Try.prog 81 #[.slice (some ⟨g, off, none⟩) n cap, .int .i64 (a : Int), .int .i64 (b : Int)] w fun e w' =>
      e = .returned (.tuple #[]) ∧ ∃ d', SR w g off n w' d' ∧ PermIn a b d d' ∧ So a b d' := by
  suffices hs : Calls Try.prog 81 #[.slice (some ⟨g, off, none⟩) n cap, .int .i64 (a : Int), .int .i64 (b : Int)] w fun e w' =>
      e = .returned (.tuple #[]) ∧ SR w g off n w' (Go.Sort.insertionSort ltN d a b) by
    refine hs.mono ?_
    rintro e w' ⟨he, hS⟩
    exact ⟨he, _, hS, ins_sorts d a b hab (by rw [h.sz]; exact hb)⟩
  have HS := Lib.hid h
  clear h
  go_enter Try.func81, Try.ntmps81
  go_wp2
  go_loopw [6] (fun vi wr => ∃ (i : Nat) (dk : Array Nat), vi = .int .i64 (i : Int) ∧ a < i ∧ i ≤ b + 1 ∧ Hid (SR w g off n wr dk) ∧ Hid (Go.Sort.insOuter ltN a b i dk = Go.Sort.insOuter ltN a b (a + 1) d)) (fun vi _ => b + 1 - (intOf vi).toNat)
  case atStart => exact ⟨a + 1, d, by go_num, by omega, by omega, HS, rfl⟩
  case round =>
    obtain ⟨i, dk, rfl, hai, hib, H1, HO⟩ := hrel
    by_cases hlt : i < b
    · go_wp2
      go_loopw [7] (fun vj wr2 => ∃ (j : Nat) (dj : Array Nat), vj = .int .i64 (j : Int) ∧ a ≤ j ∧ j ≤ i ∧ Hid (SR w g off n wr2 dj) ∧ Hid (Go.Sort.insInner ltN a j dj = Go.Sort.insInner ltN a i dk)) (fun vj _ => (intOf vj).toNat)
      case atStart => exact ⟨i, dk, rfl, by omega, Nat.le_refl _, H1, rfl⟩
      case round =>
        obtain ⟨j, dj, rfl, haj, hji, H2, HI⟩ := hrel
        obtain ⟨G, HG, hcw, hfw⟩ := H2.out.names
        have OUT : Hid (∀ W, SR w g off n W dj → (¬ a < j ∨ ltN dj[j]! dj[j - 1]! = false) → ∃ (i' : Nat) (dk' : Array Nat), Value.int .i64 ((i : Int) + 1) = .int .i64 (i' : Int) ∧ a < i' ∧ i' ≤ b + 1 ∧ Hid (SR w g off n W dk') ∧ Hid (Go.Sort.insOuter ltN a b i' dk' = Go.Sort.insOuter ltN a b (a + 1) d)) := by
          intro W hW hs
          refine ⟨i + 1, dj, by go_num, by omega, by omega, hW, ?_⟩
          show _ = _
          rw [← HO.out, ins_out_go _ _ _ _ hlt, ← HI.out, ins_in_stop _ _ _ hs]
        by_cases hja : a < j
        · go_wp2
          go_quiet (first | (go_at_call 87; refine Calls.quiet_of_same (lessC _ _ _)))
          go_wp2
          · have hl : ltN (G j) (G (j - 1)) = true := by assumption
            go_region
            all_goals go_wp2
            go_roundw
            case rel =>
              refine ⟨j - 1, swp dj j (j - 1), by congr 1; omega, by omega, by omega, ?_, ?_⟩
              · exact (H2.out.draw _).swapN (by omega) (by omega) (HG.out _) (HG.out _)
              · show _ = _
                rw [← HI.out, ins_in_go a j dj hja (by rw [← HG.out, ← HG.out]; exact hl)]
            case measure => simp [intOf]; omega
          · have hl : ltN (G j) (G (j - 1)) = false := by assumption
            go_roundw
            case rel => exact OUT.out _ (H2.out.draw _) (Or.inr (by rw [← HG.out, ← HG.out]; exact hl))
            case measure => simp [intOf]; omega
        · have hja' : decide ((a : Int) < (j : Int)) = false := decide_eq_false (by omega)
          go_wp2
          go_quiet (first | (go_at_call 87; refine Calls.quiet_of_same (lessC _ _ _)))
          go_wp2
          go_roundw
          case rel => exact OUT.out _ (H2.out.draw _) (Or.inl hja)
          case measure => simp [intOf]; omega
    · go_wp2
      go_end0
      refine ⟨rfl, ?_⟩
      have e : Go.Sort.insertionSort ltN d a b = dk := by
        unfold Go.Sort.insertionSort
        rw [← HO.out, ins_out_stop _ _ _ _ hlt]
      rw [e]; exact H1.out

/-! The heap. -/
theorem sift_end {hi F r : Nat} (d : Array Nat) (h : hi ≤ 2 * r + 1) : Go.Sort.siftDown ltN hi F r d = d := by
  rw [Go.Sort.siftDown, dif_pos h]
/-- The child c that is looked at stands still, or the two change places. -/
theorem sift_at {hi F r c : Nat} (d : Array Nat) (h : 2 * r + 1 < hi)
    (hc : (c = 2 * r + 2 ∧ 2 * r + 2 < hi ∧ ltN d[F + (2 * r + 1)]! d[F + (2 * r + 2)]! = true) ∨ (c = 2 * r + 1 ∧ (2 * r + 2 < hi → ltN d[F + (2 * r + 1)]! d[F + (2 * r + 2)]! = false))) :
    Go.Sort.siftDown ltN hi F r d = if ltN d[F + r]! d[F + c]! = true then Go.Sort.siftDown ltN hi F c (swp d (F + r) (F + c)) else d := by
  rw [Go.Sort.siftDown, dif_neg (by omega)]
  have e : F + (2 * r + 1) + 1 = F + (2 * r + 2) := by omega
  rw [e]
  rcases hc with ⟨rfl, h2, h3⟩ | ⟨rfl, h2⟩
  · rw [h3, if_pos (by simp; omega)]
    cases hx : ltN d[F + r]! d[F + (2 * r + 2)]!
    · simp
    · simp [h2]
  · have hn : ¬ ((decide (2 * r + 1 + 1 < hi) && ltN d[F + (2 * r + 1)]! d[F + (2 * r + 2)]!) = true) := by
      rw [Bool.and_eq_true, decide_eq_true_eq]
      rintro ⟨h4, h5⟩
      rw [h2 (by omega)] at h5; cases h5
    rw [if_neg hn]
    cases hx : ltN d[F + r]! d[F + (2 * r + 1)]!
    · simp
    · simp
theorem sift_size (hi F : Nat) : ∀ (k r : Nat) (d : Array Nat), hi - r ≤ k → (Go.Sort.siftDown ltN hi F r d).size = d.size := by
  intro k
  induction k with
  | zero => intro r d hk; rw [sift_end d (by omega)]
  | succ k ih =>
    intro r d hk
    by_cases h : hi ≤ 2 * r + 1
    · rw [sift_end d h]
    · have key : ∀ c, r < c → c < hi → (Go.Sort.siftDown ltN hi F c (swp d (F + r) (F + c))).size = d.size := fun c c1 c2 => by
        rw [ih c _ (by omega), Go.Sort.size_swp]
      by_cases h2 : 2 * r + 2 < hi ∧ ltN d[F + (2 * r + 1)]! d[F + (2 * r + 2)]! = true
      · rw [sift_at (c := 2 * r + 2) d (by omega) (.inl ⟨rfl, h2⟩)]
        split
        · exact key _ (by omega) (by omega)
        · rfl
      · rw [sift_at (c := 2 * r + 1) d (by omega) (.inr ⟨rfl, fun h3 => by
          cases hx : ltN d[F + (2 * r + 1)]! d[F + (2 * r + 2)]!
          · rfl
          · exact absurd ⟨h3, hx⟩ h2⟩)]
        split
        · exact key _ (by omega) (by omega)
        · rfl

set_option maxHeartbeats 3000000 in
set_option maxRecDepth 100000 in
/-- slices.siftDownOrdered. -/
theorem siftC (g off n cap lo hi F : Nat) (d : Array Nat) (w : World) (h : SR w g off n w d) (hlo : lo ≤ hi) (hb : F + hi ≤ n) (hn : n < 1000000) :
    Calls Try.prog 100 #[.slice (some ⟨g, off, none⟩) n cap, .int .i64 (lo : Int), .int .i64 (hi : Int), .int .i64 (F : Int)] w fun e w' =>
      e = .returned (.tuple #[]) ∧ SR w g off n w' (Go.Sort.siftDown ltN hi F lo d) := by
  have HS := Lib.hid h
  clear h
  go_enter Try.func100, Try.ntmps100
  go_wp2
  go_loopg [8] (hi - lo) (fun k vr wr => ∃ (r : Nat) (dk : Array Nat), vr = .int .i64 (r : Int) ∧ r ≤ hi ∧ hi - r ≤ k ∧ Hid (SR w g off n wr dk) ∧ Hid (Go.Sort.siftDown ltN hi F r dk = Go.Sort.siftDown ltN hi F lo d))
  case atStart => exact ⟨lo, d, rfl, hlo, Nat.le_refl _, HS, rfl⟩
  case round =>
    obtain ⟨r, dk, rfl, hr, hk, H1, HE⟩ := hrel
    by_cases h0 : hi ≤ 2 * r + 1
    · have h0z : (hi : Int) ≤ 2 * (r : Int) + 1 := by omega
      go_wp2
      go_end0
      refine ⟨rfl, ?_⟩
      rw [← HE.out, sift_end dk h0]; exact H1.out
    · have h0z : ¬ ((hi : Int) ≤ 2 * (r : Int) + 1) := by omega
      obtain ⟨G, HG, hcw, hfw⟩ := H1.out.names
      -- what is done with the child c that was chosen
      have GO : Hid (∀ (c : Nat) (W : World), SR w g off n W dk → ((c = 2 * r + 2 ∧ 2 * r + 2 < hi ∧ ltN (G (F + (2 * r + 1))) (G (F + (2 * r + 2))) = true) ∨ (c = 2 * r + 1 ∧ (2 * r + 2 < hi → ltN (G (F + (2 * r + 1))) (G (F + (2 * r + 2))) = false))) →
          (ltN (G (F + r)) (G (F + c)) = false → SR w g off n W (Go.Sort.siftDown ltN hi F lo d)) ∧
          (ltN (G (F + r)) (G (F + c)) = true → Go.Sort.siftDown ltN hi F c (swp dk (F + r) (F + c)) = Go.Sort.siftDown ltN hi F lo d)) := by
        intro c W hW hc
        rw [HG.out, HG.out] at hc
        have e := sift_at dk (by omega) hc
        rw [HG.out, HG.out]
        constructor
        · intro hx
          rw [hx, if_neg (by simp)] at e
          rw [← HE.out, e]; exact hW
        · intro hx
          rw [hx, if_pos rfl] at e
          rw [← HE.out, e]
      by_cases h1 : 2 * r + 2 < hi
      · have h1z : 2 * (r : Int) + 1 + 1 < (hi : Int) := by omega
        go_wp2_with fail
        go_big_quiet (first | (go_at_call 87; refine Calls.quiet_of_same (lessC _ _ _)))
        go_wp2_with fail
        · have hL : ltN (G (F + 2 * r + 1)) (G (F + 2 * r + 2)) = true := by assumption
          have hL' : ltN (G (F + (2 * r + 1))) (G (F + (2 * r + 2))) = true := by rw [← hL]; congr 2 <;> omega
          revert nq; intro nq1
          have H2 : Hid (SR w g off n (wr.drewN nq1) dk) := H1.out.draw nq1
          have hcw2 : ∀ t, t < n → (wr.drewN nq1).cell? ⟨g, off + t, none⟩ = some (.int .u16 ((G t : Nat) : Int)) := hcw
          have hfw2 : ∀ t, t < n → (wr.drewN nq1).frozen? ⟨g, off + t, none⟩ = false := hfw
          clear hcw hfw H1
          generalize wr.drewN nq1 = wr2 at hcw2 hfw2 H2 ⊢
          go_big_quiet (first | (go_at_call 87; refine Calls.quiet_of_same (lessC _ _ _)))
          go_wp2_with fail
          · have hx : ltN (G (F + r)) (G (F + 2 * r + 2)) = false := by
              have : (!ltN (G (F + r)) (G (F + 2 * r + 2))) = true := by assumption
              simpa using this
            (try simp only [Exit.inBlock, Exit.then]); refine bodyPost_ret (results_none rfl _ _ _) rfl ?_
            exact ⟨rfl, (GO.out (2 * r + 2) _ (H2.out.draw nq) (.inl ⟨rfl, h1, hL'⟩)).1 (by rw [← hx]; congr 2 <;> omega)⟩
          · have hx : ltN (G (F + r)) (G (F + 2 * r + 2)) = true := by
              have : (!ltN (G (F + r)) (G (F + 2 * r + 2))) = false := by assumption
              simpa using this
            have H3 : Hid (SR w g off n (wr2.drewN nq) dk) := H2.out.draw nq
            have hcw3 : ∀ t, t < n → (wr2.drewN nq).cell? ⟨g, off + t, none⟩ = some (.int .u16 ((G t : Nat) : Int)) := hcw2
            have hfw3 : ∀ t, t < n → (wr2.drewN nq).frozen? ⟨g, off + t, none⟩ = false := hfw2
            have EE := (GO.out (2 * r + 2) _ H3.out (.inl ⟨rfl, h1, hL'⟩)).2 (by rw [← hx]; congr 2 <;> omega)
            have HEE := Lib.hid EE
            clear hcw2 hfw2 H2 GO EE
            generalize wr2.drewN nq = wr3 at hcw3 hfw3 H3 ⊢
            go_region
            go_wp2
            go_roundg (hi - (2 * r + 2))
            case measure => omega
            case rel =>
              refine ⟨2 * r + 2, swp dk (F + r) (F + (2 * r + 2)), by simp <;> omega, by omega, Nat.le_refl _, ?_, HEE⟩
              have := (H3.out.swapN (i := F + r) (j := F + (2 * r + 2)) (by omega) (by omega) (HG.out _) (HG.out _)).drew
              exact this
        · have hL : ltN (G (F + 2 * r + 1)) (G (F + 2 * r + 2)) = false := by assumption
          have hL' : ltN (G (F + (2 * r + 1))) (G (F + (2 * r + 2))) = false := by rw [← hL]; congr 2 <;> omega
          revert nq; intro nq1
          have H2 : Hid (SR w g off n (wr.drewN nq1) dk) := H1.out.draw nq1
          have hcw2 : ∀ t, t < n → (wr.drewN nq1).cell? ⟨g, off + t, none⟩ = some (.int .u16 ((G t : Nat) : Int)) := hcw
          have hfw2 : ∀ t, t < n → (wr.drewN nq1).frozen? ⟨g, off + t, none⟩ = false := hfw
          clear hcw hfw H1
          generalize wr.drewN nq1 = wr2 at hcw2 hfw2 H2 ⊢
          go_big_quiet (first | (go_at_call 87; refine Calls.quiet_of_same (lessC _ _ _)))
          go_wp2_with fail
          · have hx : ltN (G (F + r)) (G (F + 2 * r + 1)) = false := by
              have : (!ltN (G (F + r)) (G (F + 2 * r + 1))) = true := by assumption
              simpa using this
            (try simp only [Exit.inBlock, Exit.then]); refine bodyPost_ret (results_none rfl _ _ _) rfl ?_
            exact ⟨rfl, (GO.out (2 * r + 1) _ (H2.out.draw nq) (.inr ⟨rfl, fun _ => hL'⟩)).1 (by rw [← hx]; congr 2 <;> omega)⟩
          · have hx : ltN (G (F + r)) (G (F + 2 * r + 1)) = true := by
              have : (!ltN (G (F + r)) (G (F + 2 * r + 1))) = false := by assumption
              simpa using this
            have H3 : Hid (SR w g off n (wr2.drewN nq) dk) := H2.out.draw nq
            have hcw3 : ∀ t, t < n → (wr2.drewN nq).cell? ⟨g, off + t, none⟩ = some (.int .u16 ((G t : Nat) : Int)) := hcw2
            have hfw3 : ∀ t, t < n → (wr2.drewN nq).frozen? ⟨g, off + t, none⟩ = false := hfw2
            have HEE := Lib.hid ((GO.out (2 * r + 1) _ H3.out (.inr ⟨rfl, fun _ => hL'⟩)).2 (by rw [← hx]; congr 2 <;> omega))
            clear hcw2 hfw2 H2 GO
            generalize wr2.drewN nq = wr3 at hcw3 hfw3 H3 ⊢
            go_region
            go_wp2
            go_roundg (hi - (2 * r + 1))
            case measure => omega
            case rel =>
              refine ⟨2 * r + 1, swp dk (F + r) (F + (2 * r + 1)), by simp <;> omega, by omega, Nat.le_refl _, ?_, HEE⟩
              exact (H3.out.swapN (i := F + r) (j := F + (2 * r + 1)) (by omega) (by omega) (HG.out _) (HG.out _)).drew
      · have h1z : decide (2 * (r : Int) + 1 + 1 < (hi : Int)) = false := decide_eq_false (by omega)
        go_wp2_with fail
        go_big_quiet (first | (go_at_call 87; refine Calls.quiet_of_same (lessC _ _ _)))
        go_wp2_with fail
        revert nq; intro nq1
        have H2 : Hid (SR w g off n (wr.drewN nq1) dk) := H1.out.draw nq1
        have hcw2 : ∀ t, t < n → (wr.drewN nq1).cell? ⟨g, off + t, none⟩ = some (.int .u16 ((G t : Nat) : Int)) := hcw
        have hfw2 : ∀ t, t < n → (wr.drewN nq1).frozen? ⟨g, off + t, none⟩ = false := hfw
        clear hcw hfw H1
        generalize wr.drewN nq1 = wr2 at hcw2 hfw2 H2 ⊢
        go_big_quiet (first | (go_at_call 87; refine Calls.quiet_of_same (lessC _ _ _)))
        go_wp2_with fail
        · have hx : ltN (G (F + r)) (G (F + 2 * r + 1)) = false := by
            have : (!ltN (G (F + r)) (G (F + 2 * r + 1))) = true := by assumption
            simpa using this
          (try simp only [Exit.inBlock, Exit.then]); refine bodyPost_ret (results_none rfl _ _ _) rfl ?_
          exact ⟨rfl, (GO.out (2 * r + 1) _ (H2.out.draw nq) (.inr ⟨rfl, fun h => absurd h h1⟩)).1 (by rw [← hx]; congr 2 <;> omega)⟩
        · have hx : ltN (G (F + r)) (G (F + 2 * r + 1)) = true := by
            have : (!ltN (G (F + r)) (G (F + 2 * r + 1))) = false := by assumption
            simpa using this
          have H3 : Hid (SR w g off n (wr2.drewN nq) dk) := H2.out.draw nq
          have hcw3 : ∀ t, t < n → (wr2.drewN nq).cell? ⟨g, off + t, none⟩ = some (.int .u16 ((G t : Nat) : Int)) := hcw2
          have hfw3 : ∀ t, t < n → (wr2.drewN nq).frozen? ⟨g, off + t, none⟩ = false := hfw2
          have HEE := Lib.hid ((GO.out (2 * r + 1) _ H3.out (.inr ⟨rfl, fun h => absurd h h1⟩)).2 (by rw [← hx]; congr 2 <;> omega))
          clear hcw2 hfw2 H2 GO
          generalize wr2.drewN nq = wr3 at hcw3 hfw3 H3 ⊢
          go_region
          go_wp2
          go_roundg (hi - (2 * r + 1))
          case measure => omega
          case rel =>
            refine ⟨2 * r + 1, swp dk (F + r) (F + (2 * r + 1)), by simp <;> omega, by omega, Nat.le_refl _, ?_, HEE⟩
            exact (H3.out.swapN (i := F + r) (j := F + (2 * r + 1)) (by omega) (by omega) (HG.out _) (HG.out _)).drew

set_option maxHeartbeats 2000000 in
set_option maxRecDepth 100000 in
/-- slices.heapSortOrdered. -/
theorem heapC (g off n cap a b : Nat) (d : Array Nat) (w : World) (h : SR w g off n w d) (hab : a ≤ b) (hb : b ≤ n) (hn : n < 1000000) :
    Calls Try.prog 82 #[.slice (some ⟨g, off, none⟩) n cap, .int .i64 (a : Int), .int .i64 (b : Int)] w fun e w' =>
      e = .returned (.tuple #[]) ∧ ∃ d', SR w g off n w' d' ∧ PermIn a b d d' ∧ So a b d' := by
  suffices hs : Calls Try.prog 82 #[.slice (some ⟨g, off, none⟩) n cap, .int .i64 (a : Int), .int .i64 (b : Int)] w fun e w' =>
      e = .returned (.tuple #[]) ∧ SR w g off n w' (Go.Sort.heapSort ltN d a b) by
    refine hs.mono ?_
    rintro e w' ⟨he, hS⟩
    exact ⟨he, _, hS, heap_sorts d a b hab (by rw [h.sz]; exact hb)⟩
  have HS := Lib.hid h
  clear h
  unfold Go.Sort.heapSort
  obtain ⟨L, hL⟩ : ∃ L, L = b - a := ⟨_, rfl⟩
  obtain ⟨K0, hK0⟩ : ∃ K0, K0 = (L - 1) / 2 + 1 := ⟨_, rfl⟩
  rw [← hL, ← hK0]
  have eL : (b : Int) - (a : Int) = (L : Int) := by omega
  have hK : K0 ≤ L + 1 := by omega
  have hdiv : ((L : Int) - 1).tdiv 2 = (K0 : Int) - 1 := by
    rw [hK0]
    cases L with
    | zero => rfl
    | succ m =>
      rw [Int.tdiv_eq_ediv_of_nonneg (by omega)]
      omega
  have HB : ∃ db, db = Go.Sort.heapBuild ltN L a K0 d := ⟨_, rfl⟩
  obtain ⟨db, hdb⟩ := HB
  have HDB := Lib.hid hdb
  rw [← hdb]
  clear hdb
  have hLn : a + L ≤ n := by omega
  have HL := Lib.hid hL
  have HK0 := Lib.hid hK0
  clear hL hK0
  go_enter Try.func82, Try.ntmps82
  go_wp2
  go_loopg [9] K0 (fun k vi wr => vi = .int .i64 ((k : Int) - 1) ∧ k ≤ K0 ∧ ∃ dk, Hid (SR w g off n wr dk) ∧ Hid (Go.Sort.heapBuild ltN L a k dk = db))
  case atStart => exact ⟨by first | rfl | (congr 1; omega) | (simp only [eL, hdiv]), Nat.le_refl _, d, HS, HDB.out.symm⟩
  case round =>
    obtain ⟨rfl, hk, dk, H1, HE⟩ := hrel
    cases gk with
    | zero =>
      go_wp2
      go_loopg [10] L (fun k vi wr => vi = .int .i64 ((k : Int) - 1) ∧ k ≤ L ∧ ∃ dj, Hid (SR w g off n wr dj) ∧ Hid (Go.Sort.heapPop ltN a k dj = Go.Sort.heapPop ltN a L db))
      case atStart =>
        refine ⟨by first | rfl | (congr 1; omega), Nat.le_refl _, db, ?_, rfl⟩
        have := HE.out
        unfold Go.Sort.heapBuild at this
        rw [← this]; exact H1
      case round =>
        clear H1 HE
        obtain ⟨rfl, hk, dj, H1, HE⟩ := hrel
        cases gk with
        | zero =>
          go_wp2
          go_end0
          have := HE.out
          rw [Go.Sort.heapPop] at this
          exact ⟨rfl, by rw [← this]; exact H1.out⟩
        | succ k =>
          have ek : ((k + 1 : Nat) : Int) - 1 = (k : Int) := by omega
          rw [ek]
          obtain ⟨G, HG, hcw, hfw⟩ := H1.out.names
          have hca := hcw a (by omega)
          have hfa := hfw a (by omega)
          have hak := hcw (a + k) (by omega)
          have fak := hfw (a + k) (by omega)
          by_cases hz : k = 0
          · subst hz
            have HX := Lib.hid (H1.out.swapN (i := a) (j := a) (by omega) (by omega) (HG.out _) (HG.out _))
            clear hcw hfw
            go_wp2_with fail
            go_region
            all_goals go_wp2_with fail
            refine (siftC g off n cap 0 0 a _ _ HX.out.drew.self (by omega) (by omega) hn).mono ?_
            rintro e w1 ⟨rfl, hS1⟩
            go_wp2_with fail
            go_roundg 0
            case measure => omega
            case rel => exact ⟨by simp, by omega, _, HX.out.drew.then_ hS1, HE⟩
          · have HX := Lib.hid (H1.out.swapN (i := a) (j := a + k) (by omega) (by omega) (HG.out _) (HG.out _))
            clear hcw hfw
            go_wp2_with fail
            go_region
            all_goals go_wp2_with fail
            refine (siftC g off n cap 0 k a _ _ HX.out.drew.self (by omega) (by omega) hn).mono ?_
            rintro e w1 ⟨rfl, hS1⟩
            go_wp2_with fail
            go_roundg k
            case measure => omega
            case rel => exact ⟨by simp, by omega, _, HX.out.drew.then_ hS1, HE⟩
    | succ k =>
      have ek : ((k + 1 : Nat) : Int) - 1 = (k : Int) := by omega
      rw [ek]
      have hcall := siftC g off n cap k L a dk wr H1.out.self (by have := HK0.out; omega) (by omega) hn
      go_wp2_with (go_at_call 100; refine hcall.mono ?_; rintro e w1 ⟨rfl, hS1⟩)
      go_roundg k
      case measure => omega
      case rel => exact ⟨by simp, by omega, _, H1.out.then_ hS1, HE⟩

set_option maxHeartbeats 1000000 in
set_option maxRecDepth 100000 in
/-- slices.reverseRangeOrdered. -/
theorem revC (g off n cap a b : Nat) (d : Array Nat) (w : World) (h : SR w g off n w d) (hab : a < b) (hb : b ≤ n) (hn : n < 1000000) :
    Calls Try.prog 85 #[.slice (some ⟨g, off, none⟩) n cap, .int .i64 (a : Int), .int .i64 (b : Int)] w fun e w' =>
      e = .returned (.tuple #[]) ∧ ∃ d', SR w g off n w' d' ∧ PermIn a b d d' := by
  have HS := Lib.hid h
  clear h
  go_enter Try.func85, Try.ntmps85
  go_wp2
  go_loopg [6, 7] (b - a) (fun k vi vj wr => ∃ (i j : Nat) (dk : Array Nat), vi = .int .i64 (i : Int) ∧ vj = .int .i64 (j : Int) ∧ a ≤ i ∧ j < b ∧ i ≤ j + 1 ∧ j - i ≤ k ∧ Hid (SR w g off n wr dk) ∧ Hid (PermIn a b d dk))
  case atStart => exact ⟨a, b - 1, d, rfl, by first | rfl | go_num | (congr 1; omega), Nat.le_refl _, by omega, by omega, by omega, HS, pm_refl _ _ _⟩
  case round =>
    obtain ⟨i, j, dk, rfl, rfl, hai, hjb, hij, hk, H1, HP⟩ := hrel
    by_cases hlt : i < j
    · obtain ⟨G, HG, hcw, hfw⟩ := H1.out.names
      go_wp2_with fail
      go_region
      go_wp2
      go_roundg (j - 1 - (i + 1))
      case measure => omega
      case rel =>
        refine ⟨i + 1, j - 1, swp dk i j, by go_num, by first | go_num | (congr 1; omega), by omega, by omega, by omega, Nat.le_refl _, ?_, ?_⟩
        · exact (H1.out.swapN (by omega) (by omega) (HG.out _) (HG.out _)).drew
        · exact pm_trans HP.out (pm_swp dk (by omega) (by omega) (by omega) (by omega) (by have := H1.out.sz; omega))
    · go_wp2
      go_end0
      exact ⟨rfl, dk, H1.out, HP.out⟩
end Go.Proofs.Ytkmacepodomdmaa
