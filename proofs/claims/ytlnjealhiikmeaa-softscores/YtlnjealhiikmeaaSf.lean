/-
  soft.Score of whatever; the walk of SoftScores.
-/
import Derived.Test.YtlnjealhiikmeaaSd
import Derived.Test.YtlnjealhiikmeaaMo
import Derived.Deep.CutRange
namespace Go.Proofs.Ytlnjealhiikmeaa
open Go.RowKit
set_option linter.unusedVariables false
set_option linter.unusedSimpArgs false

theorem Own.aptNew {w : World} {base : Nat} {e : TypeId} {A : Option Addr} {n c : Nat} {xs : List Value} (h : Own w base e A n c xs) : Apt A (some ⟨w.heap.size, 0, none⟩) := by
  unfold Apt
  cases hA : blk A with
  | none => exact .inl rfl
  | some k =>
    refine .inr fun hc => ?_
    have := (h.blkLt k hA).2
    simp [blk] at hc
    omega
set_option maxHeartbeats 400000 in
/-- soft.Score, lists of unlike lengths. -/
theorem softScoreArg (A A2 : Option Addr) (n m c c2 : Nat) (w : World) (hne : n ≠ m) :
    Calls Try.prog 14 #[.slice A n c, .slice A2 m c2] w fun e w' => e = .returned (.tuple #[.int .i64 0, .int .i64 1]) ∧ w = w' := by
  have t : ((n : Int) != (m : Int)) = true := by simp; omega
  clear hne
  go_enter Try.func14, Try.ntmps14
  go_wp2
  go_ret2
  exact ⟨rfl, rfl⟩
set_option maxHeartbeats 400000 in
/-- soft.Score of what are no bits, or beyond the bounds. -/
theorem softScoreField (A A2 : Option Addr) (n c c2 : Nat) (zs : List Int) (bs : List Nat) (w : World) (hz : Rd w w.heap.size A n (I64 zs)) (hb : Rd w w.heap.size A2 n (U8 bs)) (hbit : ∀ x ∈ bs, x < 256) (hno : Bm.isB bs = false ∨ (Bm.isB bs = true ∧ Cv.inB zs = false)) (hn : n ≤ 65536) :
    Calls Try.prog 14 #[.slice A n c, .slice A2 n c2] w fun e w' => e = .returned (.tuple #[.int .i64 0, .int .i64 5]) ∧ w = w' := by
  have C1 := Lib.hid (right A2 n c2 bs w hb hbit hn)
  have C2 := Lib.hid (softWithin A n c zs w hz hn)
  rcases hno with h | ⟨h, h2⟩
  · rw [h] at C1
    clear h
    go_enter Try.func14, Try.ntmps14
    go_wp2_with (go_at_call 23; refine C1.out.mono ?_; rintro e w' ⟨rfl, rfl⟩)
    go_ret2
    exact ⟨rfl, rfl⟩
  · rw [h] at C1
    rw [h2] at C2
    clear h h2
    go_enter Try.func14, Try.ntmps14
    go_wp2_with (first | (go_at_call 23; refine C1.out.mono ?_; rintro e w' ⟨rfl, rfl⟩) | (go_at_call 24; refine C2.out.mono ?_; rintro e w' ⟨rfl, rfl⟩))
    go_ret2
    exact ⟨rfl, rfl⟩
/-- Which of three. -/
def Sc3 (n m : Nat) (zs : List Int) (bs : List Nat) (r e : Int) : Prop :=
  (n ≠ m ∧ r = 0 ∧ e = 1) ∨ (n = m ∧ (Bm.isB bs = false ∨ (Bm.isB bs = true ∧ Cv.inB zs = false)) ∧ r = 0 ∧ e = 5) ∨ (n = m ∧ Bm.isB bs = true ∧ Cv.inB zs = true ∧ r = Cv.score zs bs ∧ e = 0)
/-- soft.Score of whatever. -/
theorem softScoreAny (A A2 : Option Addr) (n m c c2 : Nat) (zs : List Int) (bs : List Nat) (hbit : ∀ x ∈ bs, x < 256) (hn : n ≤ 65536) :
    ∃ r e : Int, Sc3 n m zs bs r e ∧ ∀ w : World, Rd w w.heap.size A n (I64 zs) → Rd w w.heap.size A2 m (U8 bs) → Calls Try.prog 14 #[.slice A n c, .slice A2 m c2] w fun x w' => x = .returned (.tuple #[.int .i64 r, .int .i64 e]) ∧ w = w' := by
  by_cases hne : n = m
  · subst hne
    cases h1 : Bm.isB bs with
    | false => exact ⟨0, 5, .inr (.inl ⟨rfl, .inl h1, rfl, rfl⟩), fun w hz hb => softScoreField A A2 n c c2 zs bs w hz hb hbit (.inl h1) hn⟩
    | true =>
      cases h2 : Cv.inB zs with
      | false => exact ⟨0, 5, .inr (.inl ⟨rfl, .inr ⟨h1, h2⟩, rfl, rfl⟩), fun w hz hb => softScoreField A A2 n c c2 zs bs w hz hb hbit (.inr ⟨h1, h2⟩) hn⟩
      | true => exact ⟨_, 0, .inr (.inr ⟨rfl, h1, h2, rfl, rfl⟩), fun w hz hb => softScore A A2 n c c2 zs bs w hz hb (Cv.inB_true h2) (Bm.isB_true h1) hn⟩
  · exact ⟨0, 1, .inl ⟨hne, rfl, rfl⟩, fun w _ _ => softScoreArg A A2 n m c c2 w hne⟩

set_option maxHeartbeats 600000 in
/-- SoftScores. -/
theorem walkSoftScores (A B : Option Addr) (na c nb cb : Nat) (zs : List Int) (ys : List Nat) (w : World) (h1 : Rd w w.heap.size A na (I64 zs)) (h2 : Rd w w.heap.size B nb (U8 ys)) (b2 : ∀ b ∈ ys, b < 256) (hnc : na ≤ c) (hc : c ≤ 9223372036854775807) (hncb : nb ≤ cb) (hcb : cb ≤ 9223372036854775807) (hnone : A = none → na = 0 ∧ c = 0) (hnone2 : B = none → nb = 0 ∧ cb = 0) :
    Calls Try.prog 4 #[.slice A na c, .slice B nb cb] w fun e w' => e = .returned (.bool true) ∧ Below w.heap.size w w' := by
  obtain ⟨i3, hi3, hz3, hs3, hb3⟩ := info_parts info3
  obtain ⟨i5, hi5, hz5, hs5, hb5⟩ := info_parts info5
  obtain ⟨k, hk, hk2, hk3⟩ := min_if na 100
  obtain ⟨hm1, hm2⟩ := hk3 100 rfl
  clear hk3
  obtain ⟨m, hm, hmm2, hmm3⟩ := min_if nb 100
  obtain ⟨hm3, hm4⟩ := hmm3 100 rfl
  clear hmm3
  have r1 := h1.cut64 k hk2
  have r2 := h2.cut8 m hmm2
  have bk := take256 b2 m
  generalize zs.take k = ls at *
  generalize ys.take m = bs at *
  have hn1 : A = none → k = 0 ∧ c = 0 := fun h => ⟨by have := (hnone h).1; omega, (hnone h).2⟩
  have hn2 : B = none → m = 0 ∧ cb = 0 := fun h => ⟨by have := (hnone2 h).1; omega, (hnone2 h).2⟩
  have BK := Lib.hid bk
  have hkc : k ≤ c := by omega
  have hmc : m ≤ cb := by omega
  clear h1 h2 b2 hnone hnone2 bk
  go_enter Try.func4, Try.ntmps4
  go_upto_region 1 with fail
  (try simp only [Act.put, List.setIfInBounds_toArray, List.set_cons_zero, List.set_cons_succ])
  go_cut [0, 1] from 10 to 23 (fun s0 s1 wc => ∃ A5 c5 A6 c6, s0 = .slice A5 k c5 ∧ s1 = .slice A6 m c6 ∧ Own wc w.heap.size 3 A5 k c5 (I64 ls) ∧ Own wc w.heap.size 5 A6 m c6 (U8 bs) ∧ Below w.heap.size w wc)
  case first =>
    have bel_0 : Below w.heap.size w w.drew := (Below.refl _ _).drew
    obtain ⟨W0, hW0⟩ : ∃ W0, w.drew = W0 := ⟨_, rfl⟩
    refine wp_region_noPanic ?_
    refine wp_region_held_drew (S := fun W => Below w.heap.size w W) (by kernel_rfl) bel_0 (fun hHeld => ?_)
    rw [hW0] at bel_0 hHeld ⊢
    clear hW0
    refine wpAnyH_take (i := 1) (oi := ⟨some 11, _, _, _, _, _⟩) (v := ?_) rfl (by kernel_rfl) (by kernel_rfl) (by kernel_rfl) (fun _ _ _ h => h) (Or.inl ⟨by rfl, ?_⟩) (by assumption) ?_
    rotate_left
    · intro W hSW; have hSW0 := hSW; go_simp; first | done | with_reducible rfl
    (try simp only [Act.put, List.setIfInBounds_toArray, List.set_cons_zero, List.set_cons_succ])
    refine wpAnyH_take (i := 2) (oi := ⟨some 12, _, _, _, _, _⟩) (v := ?_) rfl (by kernel_rfl) (by kernel_rfl) (by kernel_rfl) (fun _ _ _ h => h) (Or.inl ⟨by rfl, ?_⟩) (by assumption) ?_
    rotate_left
    · intro W hSW; have hSW0 := hSW; go_simp; first | done | with_reducible rfl
    (try simp only [Act.put, List.setIfInBounds_toArray, List.set_cons_zero, List.set_cons_succ])
    refine wpAnyH_take (i := 3) (oi := ⟨some 13, _, _, _, _, _⟩) (v := ?_) rfl (by kernel_rfl) (by kernel_rfl) (by kernel_rfl) (fun _ _ _ h => h) (Or.inl ⟨by rfl, ?_⟩) (by assumption) ?_
    rotate_left
    · intro W hSW; have hSW0 := hSW; go_simp; first | done | with_reducible rfl
    (try simp only [Act.put, List.setIfInBounds_toArray, List.set_cons_zero, List.set_cons_succ])
    refine wpAnyH_take (i := 4) (oi := ⟨some 14, _, _, _, _, _⟩) (v := ?_) rfl (by kernel_rfl) (by kernel_rfl) (by kernel_rfl) (fun _ _ _ h => h) (Or.inl ⟨by rfl, ?_⟩) (by assumption) ?_
    rotate_left
    · intro W hSW; have hSW0 := hSW; go_simp; first | done | with_reducible rfl
    (try simp only [Act.put, List.setIfInBounds_toArray, List.set_cons_zero, List.set_cons_succ])
    refine wpAnyH_take (i := 5) (oi := ⟨some 15, _, _, _, _, _⟩) (v := ?_) rfl (by kernel_rfl) (by kernel_rfl) (by kernel_rfl) (fun _ _ _ h => h) (Or.inl ⟨by rfl, ?_⟩) (by assumption) ?_
    rotate_left
    · intro W hSW; have hSW0 := hSW; go_simp; first | done | with_reducible rfl
    (try simp only [Act.put, List.setIfInBounds_toArray, List.set_cons_zero, List.set_cons_succ])
    refine wpAnyH_take (i := 8) (oi := ⟨some 18, _, _, _, _, _⟩) (v := ?_) rfl (by kernel_rfl) (by kernel_rfl) (by kernel_rfl) (fun _ _ _ h => h) (Or.inl ⟨by rfl, ?_⟩) (by assumption) ?_
    rotate_left
    · intro W hSW; have hSW0 := hSW; go_simp; first | done | with_reducible rfl
    (try simp only [Act.put, List.setIfInBounds_toArray, List.set_cons_zero, List.set_cons_succ])
    refine wpAnyH_take (i := 9) (oi := ⟨some 19, _, _, _, _, _⟩) (v := ?_) rfl (by kernel_rfl) (by kernel_rfl) (by kernel_rfl) (fun _ _ _ h => h) (Or.inl ⟨by rfl, ?_⟩) (by assumption) ?_
    rotate_left
    · intro W hSW; have hSW0 := hSW; go_simp; first | done | with_reducible rfl
    (try simp only [Act.put, List.setIfInBounds_toArray, List.set_cons_zero, List.set_cons_succ])
    refine wpAnyH_take (i := 10) (oi := ⟨some 20, _, _, _, _, _⟩) (v := ?_) rfl (by kernel_rfl) (by kernel_rfl) (by kernel_rfl) (fun _ _ _ h => h) (Or.inl ⟨by rfl, ?_⟩) (by assumption) ?_
    rotate_left
    · intro W hSW; have hSW0 := hSW; go_simp; first | done | with_reducible rfl
    (try simp only [Act.put, List.setIfInBounds_toArray, List.set_cons_zero, List.set_cons_succ])
    refine wpAnyH_take (i := 11) (oi := ⟨some 21, _, _, _, _, _⟩) (v := ?_) rfl (by kernel_rfl) (by kernel_rfl) (by kernel_rfl) (fun _ _ _ h => h) (Or.inl ⟨by rfl, ?_⟩) (by assumption) ?_
    rotate_left
    · intro W hSW; have hSW0 := hSW; go_simp; first | done | with_reducible rfl
    (try simp only [Act.put, List.setIfInBounds_toArray, List.set_cons_zero, List.set_cons_succ])
    refine wpAnyH_take (i := 12) (oi := ⟨some 22, _, _, _, _, _⟩) (v := ?_) rfl (by kernel_rfl) (by kernel_rfl) (by kernel_rfl) (fun _ _ _ h => h) (Or.inl ⟨by rfl, ?_⟩) (by assumption) ?_
    rotate_left
    · intro W hSW; have hSW0 := hSW; go_simp; first | done | with_reducible rfl
    (try simp only [Act.put, List.setIfInBounds_toArray, List.set_cons_zero, List.set_cons_succ])
    refine wpAnyH_ready (rs := [0, 7]) (by kernel_rfl) (by simp) ?_
    refine AllReadyH.cons (o := ⟨some 10, _, _, _, _, _⟩) rfl (fun K hK => ?_) (AllReadyH.cons (o := ⟨some 17, _, _, _, _, _⟩) rfl (fun K hK => ?_) (AllReadyH.nil))
    · refine step_none (by rfl) 27 3 (by rfl) i3 Try.underlying27 hi3 ?_
      intro W1 on_1 hb_1 sz_1
      have p_1 := on_1.down bel_0.size
      have bel_1 := bel_0.trans (hb_1.mono bel_0.size)
      clear hHeld on_1 hb_1 sz_1
      refine hK.out _ _ ?_ (fun hHeld => ?_)
      · exact bel_1
      clear hK K
      (try simp only [Act.put, List.setIfInBounds_toArray, List.set_cons_zero, List.set_cons_succ])
      refine wpAnyH_ready (rs := [6, 7]) (by kernel_rfl) (by simp) ?_
      refine AllReadyH.cons (o := ⟨some 16, _, _, _, _, _⟩) rfl (fun K hK => ?_) (AllReadyH.cons (o := ⟨some 17, _, _, _, _, _⟩) rfl (fun K hK => ?_) (AllReadyH.nil))
      · refine step_app (by rfl) _ _ 27 (by rfl) w.heap.size 3 i3 _ 8 Try.underlying27 hi3 hz3 hs3 hb3 rfl _ 0 0 [] (by rfl) p_1 w.heap.size A k c (I64 ls) (by rfl) (r1.below bel_1) hn1 (I64_one ls) (by omega) (by unfold maxLen; omega) bel_1.size ?_
        intro A5 c5 W2 p_2 gr at_
        have bel_2 := bel_1.grown gr bel_1.size (fun j hj => (p_1.block j hj).1)
        clear hHeld gr at_
        refine hK.out _ _ ?_ (fun hHeld => ?_)
        · exact bel_2
        clear hK K
        (try simp only [Act.put, List.setIfInBounds_toArray, List.set_cons_zero, List.set_cons_succ])
        refine wpAnyH_ready (rs := [7]) (by kernel_rfl) (by simp) ?_
        refine AllReadyH.cons (o := ⟨some 17, _, _, _, _, _⟩) rfl (fun K hK => ?_) (AllReadyH.nil)
        refine step_none (by rfl) 28 5 (by rfl) i5 Try.underlying28 hi5 ?_
        intro W3 on_3 hb_3 sz_3
        have q_3 := on_3.down bel_2.size
        have bel_3 := bel_2.trans (hb_3.mono bel_2.size)
        have p_3 := p_2.below hb_3 (Nat.le_refl _)
        have ap_3 := p_2.aptNew
        clear hHeld on_3 hb_3 sz_3
        refine hK.out _ _ ?_ (fun hHeld => ?_)
        · exact bel_3
        clear hK K
        (try simp only [Act.put, List.setIfInBounds_toArray, List.set_cons_zero, List.set_cons_succ])
        refine wpAnyH_ready (rs := [13]) (by kernel_rfl) (by simp) ?_
        refine AllReadyH.cons (o := ⟨some 23, _, _, _, _, _⟩) rfl (fun K hK => ?_) (AllReadyH.nil)
        refine step_app (by rfl) _ _ 28 (by rfl) w.heap.size 5 i5 _ 1 Try.underlying28 hi5 hz5 hs5 hb5 rfl _ 0 0 [] (by rfl) q_3 w.heap.size B m cb (U8 bs) (by rfl) (r2.below bel_3) hn2 (U8_one bs) (by omega) (by unfold maxLen; omega) bel_3.size ?_
        intro A6 c6 W4 q_4 gr at_
        have bel_4 := bel_3.grown gr bel_3.size (fun j hj => (q_3.block j hj).1)
        have p_4 := p_3.grown gr ap_3
        clear hHeld gr at_
        refine hK.out _ _ ?_ (fun hHeld => ?_)
        · exact bel_4
        clear hK K
        (try simp only [Act.put, List.setIfInBounds_toArray, List.set_cons_zero, List.set_cons_succ])
        refine wpAnyH_take (i := 14) (oi := ⟨some 0, _, _, _, _, _⟩) (v := ?_) rfl (by kernel_rfl) (by kernel_rfl) (by kernel_rfl) (fun _ _ _ h => h) (Or.inl ⟨by rfl, ?_⟩) (by assumption) ?_
        rotate_left
        · intro W hSW; have hSW0 := hSW; go_simp; first | done | with_reducible rfl
        (try simp only [Act.put, List.setIfInBounds_toArray, List.set_cons_zero, List.set_cons_succ])
        refine wpAnyH_take (i := 15) (oi := ⟨some 1, _, _, _, _, _⟩) (v := ?_) rfl (by kernel_rfl) (by kernel_rfl) (by kernel_rfl) (fun _ _ _ h => h) (Or.inl ⟨by rfl, ?_⟩) (by assumption) ?_
        rotate_left
        · intro W hSW; have hSW0 := hSW; go_simp; first | done | with_reducible rfl
        (try simp only [Act.put, List.setIfInBounds_toArray, List.set_cons_zero, List.set_cons_succ])
        refine wpAnyH_done (by kernel_rfl) ?_ _
        refine NoPanic.normal ?_
        go_wp2_with fail
        go_meet
        exact ⟨A5, c5, A6, c6, rfl, rfl, p_4.to (Nat.zero_add k) (List.nil_append _), q_4.to (Nat.zero_add m) (List.nil_append _), bel_4⟩
      · refine step_none (by rfl) 28 5 (by rfl) i5 Try.underlying28 hi5 ?_
        intro W2 on_2 hb_2 sz_2
        have q_2 := on_2.down bel_1.size
        have bel_2 := bel_1.trans (hb_2.mono bel_1.size)
        have p_2 := p_1.below hb_2 (Nat.le_refl _)
        have ap_2 := p_1.aptNew
        clear hHeld on_2 hb_2 sz_2
        refine hK.out _ _ ?_ (fun hHeld => ?_)
        · exact bel_2
        clear hK K
        (try simp only [Act.put, List.setIfInBounds_toArray, List.set_cons_zero, List.set_cons_succ])
        refine wpAnyH_ready (rs := [6]) (by kernel_rfl) (by simp) ?_
        refine AllReadyH.cons (o := ⟨some 16, _, _, _, _, _⟩) rfl (fun K hK => ?_) (AllReadyH.nil)
        refine step_app (by rfl) _ _ 27 (by rfl) w.heap.size 3 i3 _ 8 Try.underlying27 hi3 hz3 hs3 hb3 rfl _ 0 0 [] (by rfl) p_2 w.heap.size A k c (I64 ls) (by rfl) (r1.below bel_2) hn1 (I64_one ls) (by omega) (by unfold maxLen; omega) bel_2.size ?_
        intro A5 c5 W3 p_3 gr at_
        have bel_3 := bel_2.grown gr bel_2.size (fun j hj => (p_2.block j hj).1)
        have q_3 := q_2.grown gr ap_2.symm
        have ap_3 : Apt A5 (some ⟨W1.heap.size, 0, none⟩) := ap_2.next (w := W2) (at_.imp id (fun h => ⟨_, h, Nat.le_refl _⟩)) (fun j hj => (q_2.blkLt j hj).2)
        clear hHeld gr at_
        refine hK.out _ _ ?_ (fun hHeld => ?_)
        · exact bel_3
        clear hK K
        (try simp only [Act.put, List.setIfInBounds_toArray, List.set_cons_zero, List.set_cons_succ])
        refine wpAnyH_ready (rs := [13]) (by kernel_rfl) (by simp) ?_
        refine AllReadyH.cons (o := ⟨some 23, _, _, _, _, _⟩) rfl (fun K hK => ?_) (AllReadyH.nil)
        refine step_app (by rfl) _ _ 28 (by rfl) w.heap.size 5 i5 _ 1 Try.underlying28 hi5 hz5 hs5 hb5 rfl _ 0 0 [] (by rfl) q_3 w.heap.size B m cb (U8 bs) (by rfl) (r2.below bel_3) hn2 (U8_one bs) (by omega) (by unfold maxLen; omega) bel_3.size ?_
        intro A6 c6 W4 q_4 gr at_
        have bel_4 := bel_3.grown gr bel_3.size (fun j hj => (q_3.block j hj).1)
        have p_4 := p_3.grown gr ap_3
        clear hHeld gr at_
        refine hK.out _ _ ?_ (fun hHeld => ?_)
        · exact bel_4
        clear hK K
        (try simp only [Act.put, List.setIfInBounds_toArray, List.set_cons_zero, List.set_cons_succ])
        refine wpAnyH_take (i := 14) (oi := ⟨some 0, _, _, _, _, _⟩) (v := ?_) rfl (by kernel_rfl) (by kernel_rfl) (by kernel_rfl) (fun _ _ _ h => h) (Or.inl ⟨by rfl, ?_⟩) (by assumption) ?_
        rotate_left
        · intro W hSW; have hSW0 := hSW; go_simp; first | done | with_reducible rfl
        (try simp only [Act.put, List.setIfInBounds_toArray, List.set_cons_zero, List.set_cons_succ])
        refine wpAnyH_take (i := 15) (oi := ⟨some 1, _, _, _, _, _⟩) (v := ?_) rfl (by kernel_rfl) (by kernel_rfl) (by kernel_rfl) (fun _ _ _ h => h) (Or.inl ⟨by rfl, ?_⟩) (by assumption) ?_
        rotate_left
        · intro W hSW; have hSW0 := hSW; go_simp; first | done | with_reducible rfl
        (try simp only [Act.put, List.setIfInBounds_toArray, List.set_cons_zero, List.set_cons_succ])
        refine wpAnyH_done (by kernel_rfl) ?_ _
        refine NoPanic.normal ?_
        go_wp2_with fail
        go_meet
        exact ⟨A5, c5, A6, c6, rfl, rfl, p_4.to (Nat.zero_add k) (List.nil_append _), q_4.to (Nat.zero_add m) (List.nil_append _), bel_4⟩
    · refine step_none (by rfl) 28 5 (by rfl) i5 Try.underlying28 hi5 ?_
      intro W1 on_1 hb_1 sz_1
      have q_1 := on_1.down bel_0.size
      have bel_1 := bel_0.trans (hb_1.mono bel_0.size)
      clear hHeld on_1 hb_1 sz_1
      refine hK.out _ _ ?_ (fun hHeld => ?_)
      · exact bel_1
      clear hK K
      (try simp only [Act.put, List.setIfInBounds_toArray, List.set_cons_zero, List.set_cons_succ])
      refine wpAnyH_ready (rs := [0]) (by kernel_rfl) (by simp) ?_
      refine AllReadyH.cons (o := ⟨some 10, _, _, _, _, _⟩) rfl (fun K hK => ?_) (AllReadyH.nil)
      refine step_none (by rfl) 27 3 (by rfl) i3 Try.underlying27 hi3 ?_
      intro W2 on_2 hb_2 sz_2
      have p_2 := on_2.down bel_1.size
      have bel_2 := bel_1.trans (hb_2.mono bel_1.size)
      have q_2 := q_1.below hb_2 (Nat.le_refl _)
      have ap_2 := q_1.aptNew.symm
      clear hHeld on_2 hb_2 sz_2
      refine hK.out _ _ ?_ (fun hHeld => ?_)
      · exact bel_2
      clear hK K
      (try simp only [Act.put, List.setIfInBounds_toArray, List.set_cons_zero, List.set_cons_succ])
      refine wpAnyH_ready (rs := [6]) (by kernel_rfl) (by simp) ?_
      refine AllReadyH.cons (o := ⟨some 16, _, _, _, _, _⟩) rfl (fun K hK => ?_) (AllReadyH.nil)
      refine step_app (by rfl) _ _ 27 (by rfl) w.heap.size 3 i3 _ 8 Try.underlying27 hi3 hz3 hs3 hb3 rfl _ 0 0 [] (by rfl) p_2 w.heap.size A k c (I64 ls) (by rfl) (r1.below bel_2) hn1 (I64_one ls) (by omega) (by unfold maxLen; omega) bel_2.size ?_
      intro A5 c5 W3 p_3 gr at_
      have bel_3 := bel_2.grown gr bel_2.size (fun j hj => (p_2.block j hj).1)
      have q_3 := q_2.grown gr ap_2.symm
      have ap_3 : Apt A5 (some ⟨W0.heap.size, 0, none⟩) := ap_2.next (w := W2) (at_.imp id (fun h => ⟨_, h, Nat.le_refl _⟩)) (fun j hj => (q_2.blkLt j hj).2)
      clear hHeld gr at_
      refine hK.out _ _ ?_ (fun hHeld => ?_)
      · exact bel_3
      clear hK K
      (try simp only [Act.put, List.setIfInBounds_toArray, List.set_cons_zero, List.set_cons_succ])
      refine wpAnyH_ready (rs := [13]) (by kernel_rfl) (by simp) ?_
      refine AllReadyH.cons (o := ⟨some 23, _, _, _, _, _⟩) rfl (fun K hK => ?_) (AllReadyH.nil)
      refine step_app (by rfl) _ _ 28 (by rfl) w.heap.size 5 i5 _ 1 Try.underlying28 hi5 hz5 hs5 hb5 rfl _ 0 0 [] (by rfl) q_3 w.heap.size B m cb (U8 bs) (by rfl) (r2.below bel_3) hn2 (U8_one bs) (by omega) (by unfold maxLen; omega) bel_3.size ?_
      intro A6 c6 W4 q_4 gr at_
      have bel_4 := bel_3.grown gr bel_3.size (fun j hj => (q_3.block j hj).1)
      have p_4 := p_3.grown gr ap_3
      clear hHeld gr at_
      refine hK.out _ _ ?_ (fun hHeld => ?_)
      · exact bel_4
      clear hK K
      (try simp only [Act.put, List.setIfInBounds_toArray, List.set_cons_zero, List.set_cons_succ])
      refine wpAnyH_take (i := 14) (oi := ⟨some 0, _, _, _, _, _⟩) (v := ?_) rfl (by kernel_rfl) (by kernel_rfl) (by kernel_rfl) (fun _ _ _ h => h) (Or.inl ⟨by rfl, ?_⟩) (by assumption) ?_
      rotate_left
      · intro W hSW; have hSW0 := hSW; go_simp; first | done | with_reducible rfl
      (try simp only [Act.put, List.setIfInBounds_toArray, List.set_cons_zero, List.set_cons_succ])
      refine wpAnyH_take (i := 15) (oi := ⟨some 1, _, _, _, _, _⟩) (v := ?_) rfl (by kernel_rfl) (by kernel_rfl) (by kernel_rfl) (fun _ _ _ h => h) (Or.inl ⟨by rfl, ?_⟩) (by assumption) ?_
      rotate_left
      · intro W hSW; have hSW0 := hSW; go_simp; first | done | with_reducible rfl
      (try simp only [Act.put, List.setIfInBounds_toArray, List.set_cons_zero, List.set_cons_succ])
      refine wpAnyH_done (by kernel_rfl) ?_ _
      refine NoPanic.normal ?_
      go_wp2_with fail
      go_meet
      exact ⟨A5, c5, A6, c6, rfl, rfl, p_4.to (Nat.zero_add k) (List.nil_append _), q_4.to (Nat.zero_add m) (List.nil_append _), bel_4⟩
  case rest =>
    obtain ⟨A5, c5, A6, c6, rfl, rfl, ow5, ow6, bel⟩ := hcut
    clear r1 r2 hn1 hn2 hm1 hm2 hm3 hm4 hi5 hz5 hs5 hb5
    have hn5 := ow5.none_
    have o1 : Own (wc.alloc (.cells #[] 3)) wc.heap.size 3 (some ⟨wc.heap.size, 0, none⟩) 0 0 [] := ⟨World.ownsRow_made wc #[] 0 (Nat.le_refl _) (by unfold maxLen; omega) (by simp)⟩
    have r5 : Rd (wc.alloc (.cells #[] 3)) wc.heap.size A5 k (I64 ls) := ow5.rd.below ((Below.refl _ _).alloc (Nat.le_refl _) _)
    obtain ⟨r, er, HS3, HSC⟩ := softScoreAny A5 A6 k m c5 c6 ls bs BK.out (by omega)
    have S3 := Lib.hid HS3
    have SC := Lib.hid HSC
    have HLS := Lib.hid ow5.rd.len64
    have HLB := Lib.hid ow6.rd.len8
    clear HS3 HSC
    go_upto_region 3 with (at_builtin; refine wpList_app _ rfl _ _ 27 rfl wc.heap.size 3 i3 _ 8 Try.underlying27 hi3 hz3 hs3 hb3 rfl _ 0 0 [] rfl o1 wc.heap.size A5 k c5 (I64 ls) rfl r5 hn5 (I64_one ls) (by omega) (by unfold maxLen; omega) (by simp) ?_; intro A7 c7 w7 hown7 hgrow7; have ow7 := hown7.to (Nat.zero_add k) (List.nil_append (I64 ls)))
    have be7 : Below wc.heap.size wc w7 := ((Below.refl _ _).alloc (Nat.le_refl _) _).grown hgrow7 (by simp) (fun j hj => by simp [Value.ownBlock] at hj; omega)
    have CS := Lib.hid (SC.out w7 (ow5.rdOf be7) (ow6.rdOf be7))
    have CH := Lib.hid (softHard A5 k c5 ls w7 (ow5.rdOf be7) (by omega))
    clear hown7 hgrow7 o1 r5 SC hi3 hz3 hs3 hb3
    have HHL := Lib.hid (Cv.hard_length ls)
    have HHG := Lib.hid (Cv.hard_getD ls)
    generalize Cv.hard ls = hs at *
    go_upto_region 5 with (first | (go_at_call 14; refine CS.out.mono ?_; rintro e w' ⟨rfl, rfl⟩) | (go_at_call 15; refine CH.out.mono ?_; rintro e w8 ⟨A8, n8, c8, rfl, ow8, be8⟩))
    have hn8 : n8 = k := by rw [ow8.rd.len8, HHL.out, ← HLS.out]
    subst hn8
    go_wp2_with (go_at_call 7; refine (sure8 w8).mono ?_; rintro e w9 ⟨rfl, be9⟩)
    have b79 := Below.then_ be8 be9
    have b9 := Below.then_ be7 b79
    have ra := ow5.rdOf b9
    have rb := ow7.rdOf b79
    have rc := ow8.rdOf be9
    have rd := ow6.rdOf b9
    have HB9 := Lib.hid (Below.then_ bel b9)
    clear CS CH be7 be8 be9 b79 b9 bel ow5 ow6 ow7 ow8 hn5
    go_loopw [9] (fun i wr => ∃ j q : Nat, j ≤ n8 ∧ i = .int .i64 j ∧ wr = w9.drewN q) (fun i _ => n8 - (intOf i).toNat)
    case atStart => exact ⟨0, 0, Nat.zero_le _, rfl, rfl⟩
    case round =>
      obtain ⟨j, q, hj, rfl, rfl⟩ := hrel
      by_cases hlt : j < n8
      · obtain ⟨b, off, rfl, hl1, hcell⟩ := ra.cell64 j hlt
        obtain ⟨b', off', rfl, hl2, hcell2⟩ := rb.cell64 j hlt
        obtain ⟨b'', off'', rfl, hl3, hcell3⟩ := rc.cell8 j hlt
        have hg := HHG.out j
        obtain ⟨x, hxe⟩ : ∃ x, x = ls.getD j 0 := ⟨_, rfl⟩
        obtain ⟨y, hye⟩ : ∃ y, y = hs.getD j 0 := ⟨_, rfl⟩
        rw [← hxe] at hcell hcell2 hg
        rw [← hye] at hcell3 hg
        clear hxe hye
        have t0 : (x != x) = false := by simp
        by_cases hx : x < 0
        · rw [if_pos hx] at hg
          subst hg
          have t1 : decide (x < 0) = true := by simp; exact hx
          go_wp2_with fail
          go_quiet (fail)
          go_wp2
          go_roundw
          case rel => exact ⟨j + 1, _, by omega, by go_num, rfl⟩
          case measure => simp [intOf] <;> omega
        · rw [if_neg hx] at hg
          subst hg
          have t1 : decide (x < 0) = false := by simp; omega
          go_wp2_with fail
          go_quiet (fail)
          go_wp2
          go_roundw
          case rel => exact ⟨j + 1, _, by omega, by go_num, rfl⟩
          case measure => simp [intOf] <;> omega
      · have bd : Below w9.heap.size w9 (w9.drewN q) := below_drawn q
        have ra' := (ra.below bd).up (B' := (w9.drewN q).heap.size) (Nat.le_refl _)
        have rd' := (rd.below bd).up (B' := (w9.drewN q).heap.size) (Nat.le_refl _)
        have CR := Lib.hid (refRight A6 m c6 bs _ rd' BK.out (by omega))
        have CI := Lib.hid (refRight64 A5 n8 c5 ls _ ra' (by omega))
        have HBD := Lib.hid (HB9.out.trans (bd.mono HB9.out.size))
        rcases S3.out with ⟨hne, rfl, rfl⟩ | ⟨rfl, hno, rfl, rfl⟩ | ⟨rfl, hb, hi, hr, rfl⟩
        · have t : ((n8 : Int) != (m : Int)) = true := by simp; omega
          clear hne
          go_wp2
          go_ret
          exact ⟨rfl, HBD.out⟩
        · rcases hno with h | ⟨h, hf⟩
          · rw [h] at CR
            clear h
            go_wp2_with (go_at_call 16; refine CR.out.mono ?_; rintro e w' ⟨rfl, rfl⟩)
            go_ret
            exact ⟨rfl, HBD.out⟩
          · rw [h] at CR
            rw [hf] at CI
            clear h hf
            go_wp2_with (first | (go_at_call 16; refine CR.out.mono ?_; rintro e w' ⟨rfl, rfl⟩) | (go_at_call 17; refine CI.out.mono ?_; rintro e w' ⟨rfl, mm, rfl⟩))
            go_ret
            exact ⟨rfl, HB9.out.trans (below_drawn _)⟩
        · rw [hb] at CR
          rw [hi] at CI
          have CC := Lib.hid (fun mm => refScore A5 A6 n8 c5 c6 ls bs (w9.drewN mm) (ra.below (below_drawn mm)) (rd.below (below_drawn mm)) (Cv.inB_true hi) (by omega))
          rw [← hr] at CC
          clear hb hi hr
          go_wp2_with (first | (go_at_call 16; refine CR.out.mono ?_; rintro e w' ⟨rfl, rfl⟩) | (go_at_call 17; refine CI.out.mono ?_; rintro e w' ⟨rfl, mm, rfl⟩) | (go_at_call 18; refine (CC.out (q + mm)).mono ?_; rintro e w' ⟨rfl, rfl⟩))
          go_ret
          exact ⟨rfl, HB9.out.trans (below_drawn _)⟩
end Go.Proofs.Ytlnjealhiikmeaa
