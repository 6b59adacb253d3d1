/-
  The walk of RateRuns.
-/
import Derived.Test.YtepcipcppdndfaaJb
import Derived.Test.YtepcipcppdndfaaMh
namespace Go.Proofs.Ytepcipcppdndfaa
open Go.RowKit
set_option linter.unusedVariables false
set_option linter.unusedSimpArgs false
set_option maxRecDepth 100000

theorem good_step {l r : Int} {k : Int} (h : 0 ≤ l ∧ l ≤ 2 ∧ 0 ≤ r ∧ r ≤ 3) (hk : 4 * l - r ≤ 8 - k ∨ 4 * l - r ≤ 0) : 4 * dl l r 1 - dr l r 1 ≤ 8 - (k + 1) ∨ 4 * dl l r 1 - dr l r 1 ≤ 0 := by
  unfold dl dr
  (repeat' split)
  all_goals omega
theorem bad_step {l r : Int} (h : 0 ≤ l ∧ l ≤ 2 ∧ 0 ≤ r ∧ r ≤ 3) (k : Nat) (hk : k = 1 → 1 ≤ l) : 1 ≤ dl l r 3 ∧ (k = 1 → dl l r 3 = 2 ∧ dr l r 3 = 0) := by
  unfold dl dr
  (repeat' split)
  all_goals omega
theorem cellOfHeap {w w' : World} {g : Nat} (h : w'.heap[g]? = w.heap[g]?) (i : Nat) : w'.cell? ⟨g, i, none⟩ = w.cell? ⟨g, i, none⟩ := by
  simp [World.cell?, h]
theorem wrap_u64_at (a : Int) : IntKind.u64.wrap a = (((a % 18446744073709551616).toNat : Nat) : Int) := by
  have h : IntKind.u64.wrap a = a % 18446744073709551616 := IntKind.wrap_u64 a
  rw [h]; omega

set_option maxHeartbeats 1600000 in
/-- The walk of RateRuns. -/
theorem rateRuns (A : Option Addr) (n c : Nat) (zs : List Int) (w : World) (hz : Rd w w.heap.size A n (I64 zs)) (hn : n ≤ 9223372036854775807) :
    Calls Try.prog 10 #[.slice A n c] w fun e w' => e = .returned (.bool true) ∧ Below w.heap.size w w' := by
  have CR := Lib.hid ratesC
  go_enter Try.func10, Try.ntmps10
  go_upto_region 4 with (first | (refine at_alloc rfl 52 rfl (pv 0 0) zeroPol ?_; intro w1 L1) | (go_at_call 33; refine (CR.out _).mono ?_; rintro e w2 ⟨rfl, be2⟩))
  have q3 := L1.row.after be2
  have bw := Below.then_ L1.bel be2
  clear L1 be2 CR
  generalize hg3 : w.heap.size = g3 at q3 ⊢
  have H3 := Lib.hid hg3
  clear hg3
  go_wp2
  go_loopw [4] (fun x wr => ∃ i : Nat, i ≤ n ∧ i ≤ 40 ∧ x = .int .i64 i ∧ ∃ l r : Int, Blk wr g3 52 (pv l r) ∧ (0 ≤ l ∧ l ≤ 2 ∧ 0 ≤ r ∧ r ≤ 3) ∧ Below w.heap.size w wr) (fun x _ => 40 - (intOf x).toNat)
  case atStart => exact ⟨0, by omega, by omega, rfl, 0, 0, q3, by omega, bw⟩
  case round =>
    clear q3 bw
    obtain ⟨i, hi1, hi2, rfl, l, r, q3, hlr, bw⟩ := hrel
    by_cases hlt : i < n ∧ i < 40
    · obtain ⟨hlt1, hlt2⟩ := hlt
      obtain ⟨b, off, rfl, hb, kx⟩ := (hz.below bw).cell64 i hlt1
      replace hb : b < wr.heap.size := Nat.lt_of_lt_of_le hb bw.size
      generalize zs.getD i 0 = x at *
      have f1 := wrap_u64_at x
      generalize hux : (x % 18446744073709551616).toNat = ux at *
      have hub : ux < 18446744073709551616 := by omega
      clear hux
      obtain ⟨t, ht, ht2⟩ : ∃ t : Nat, t < 5 ∧ (ux : Int) % 5 = (t : Int) := ⟨ux % 5, by omega, by omega⟩
      have EV : IntKind.i64.wrap (1 + IntKind.i64.wrap ((ux : Int).tmod 5)) = 1 + (t : Int) := by
        have w1 : ∀ z : Int, 0 ≤ z → z < 100 → IntKind.i64.wrap z = z := fun z h1 h2 => IntWalk.i64_in _ (by omega)
        rw [Int.tmod_eq_emod_of_nonneg (by omega), ht2, w1 (t : Int) (by omega) (by omega), w1 (1 + (t : Int)) (by omega) (by omega)]
      have CD : Hid (∀ W, Calls Try.prog 31 #[.agg (pv l r), .int .i64 (IntKind.i64.wrap (1 + IntKind.i64.wrap ((ux : Int).tmod 5)))] W fun e w' => e = .returned (.tuple #[.agg (pv (dl l r (1 + (t : Int))) (dr l r (1 + (t : Int)))), .int .i64 0]) ∧ Below W.heap.size W w') := fun W => by rw [EV]; exact doneC l r (1 + (t : Int)) W hlr (by omega)
      clear EV ht2
      have hd := d_in (1 + (t : Int)) hlr
      generalize dl l r (1 + (t : Int)) = l2 at *
      generalize dr l r (1 + (t : Int)) = r2 at *
      have CC := Lib.hid (fun W => checkYes l2 r2 W hd)
      have HS : Hid (∀ W W' : World, (Blk W g3 52 (pv l r) ∧ W.cell? ⟨b, off + i, none⟩ = some (.int .i64 x) ∧ b < W.heap.size) → Below W.heap.size W W' → (Blk W' g3 52 (pv l r) ∧ W'.cell? ⟨b, off + i, none⟩ = some (.int .i64 x) ∧ b < W'.heap.size)) := fun W W' h be => ⟨h.1.after be, (be.cell (p := ⟨b, off + i, none⟩) h.2.2).trans h.2.1, Nat.lt_of_lt_of_le h.2.2 be.size⟩
      have d1 : decide ((i : Int) < (n : Int)) = true := by simp; omega
      have d2 : decide ((i : Int) < 40) = true := by simp; omega
      go_upto_region 7 with fail
      go_cut [5, 6] from 23 to 35 (fun s5 s6 wc => ∃ g5 : Nat, s5 = .pointer (some ⟨g5, 0, none⟩) ∧ s6 = .int .i64 0 ∧ Blk wc g3 52 (pv l r) ∧ Blk wc g5 52 (pv l2 r2) ∧ wr.heap.size ≤ g5 ∧ g3 < g5 ∧ Below wr.heap.size wr wc)
      case first =>
        have bb0 : Below wr.heap.size wr wr.drew := (Below.refl _ _).drew
        have s0 : Blk wr.drew g3 52 (pv l r) ∧ wr.drew.cell? ⟨b, off + i, none⟩ = some (.int .i64 x) ∧ b < wr.drew.heap.size := ⟨q3.drew, kx, hb⟩
        obtain ⟨W0, hW0⟩ : ∃ W0, wr.drew = W0 := ⟨_, rfl⟩
        refine wp_region_noPanic ?_
        refine wp_region_held_drew (S := fun W => Blk W g3 52 (pv l r) ∧ W.cell? ⟨b, off + i, none⟩ = some (.int .i64 x) ∧ b < W.heap.size) (by kernel_rfl) s0 (fun hHeld => ?_)
        rw [hW0] at bb0 hHeld s0 ⊢
        clear hW0 s0 kx
        refine wpAnyH_take (i := 0) (oi := ⟨some 24, _, _, _, _, _⟩) (v := _) rfl (by kernel_rfl) (by kernel_rfl) (by kernel_rfl) (fun _ _ _ h => h) (yields_row (by rfl) 52 _ (by rfl) g3 (by rfl) 52 (pv l r) _ (fun W h => h.1) Try.underlying52 rfl (infoPol _ _)) hHeld ?_
        (try simp only [Act.put, List.setIfInBounds_toArray, List.set_cons_zero, List.set_cons_succ])
        refine wpAnyH_take (i := 1) (oi := ⟨some 25, _, _, _, _, _⟩) (v := ?_) rfl (by kernel_rfl) (by kernel_rfl) (by kernel_rfl) (fun _ _ _ h => h) (Or.inl ⟨by rfl, ?_⟩) hHeld ?_
        rotate_left
        · intro W hSW; obtain ⟨hSW0, hSW1, hSW2⟩ := hSW; go_simp; first | done | with_reducible rfl
        (try simp only [Act.put, List.setIfInBounds_toArray, List.set_cons_zero, List.set_cons_succ])
        refine wpAnyH_take (i := 2) (oi := ⟨some 26, _, _, _, _, _⟩) (v := ?_) rfl (by kernel_rfl) (by kernel_rfl) (by kernel_rfl) (fun _ _ _ h => h) (Or.inl ⟨by rfl, ?_⟩) hHeld ?_
        rotate_left
        · intro W hSW; obtain ⟨hSW0, hSW1, hSW2⟩ := hSW; go_simp; first | done | with_reducible rfl
        (try simp only [Act.put, List.setIfInBounds_toArray, List.set_cons_zero, List.set_cons_succ])
        refine wpAnyH_take (i := 3) (oi := ⟨some 27, _, _, _, _, _⟩) (v := ?_) rfl (by kernel_rfl) (by kernel_rfl) (by kernel_rfl) (fun _ _ _ h => h) (Or.inl ⟨by rfl, ?_⟩) hHeld ?_
        rotate_left
        · intro W hSW; obtain ⟨hSW0, hSW1, hSW2⟩ := hSW; go_simp; first | done | with_reducible rfl
        (try simp only [Act.put, List.setIfInBounds_toArray, List.set_cons_zero, List.set_cons_succ])
        refine wpAnyH_take (i := 4) (oi := ⟨some 28, _, _, _, _, _⟩) (v := ?_) rfl (by kernel_rfl) (by kernel_rfl) (by kernel_rfl) (fun _ _ _ h => h) (Or.inl ⟨by rfl, ?_⟩) hHeld ?_
        rotate_left
        · intro W hSW; obtain ⟨hSW0, hSW1, hSW2⟩ := hSW; go_simp; first | done | with_reducible rfl
        (try simp only [Act.put, List.setIfInBounds_toArray, List.set_cons_zero, List.set_cons_succ])
        refine wpAnyH_take (i := 5) (oi := ⟨some 29, _, _, _, _, _⟩) (v := ?_) rfl (by kernel_rfl) (by kernel_rfl) (by kernel_rfl) (fun _ _ _ h => h) (Or.inl ⟨by rfl, ?_⟩) hHeld ?_
        rotate_left
        · intro W hSW; obtain ⟨hSW0, hSW1, hSW2⟩ := hSW; go_simp; first | done | with_reducible rfl
        (try simp only [Act.put, List.setIfInBounds_toArray, List.set_cons_zero, List.set_cons_succ])
        refine wpAnyH_take (i := 6) (oi := ⟨some 30, _, _, _, _, _⟩) (v := ?_) rfl (by kernel_rfl) (by kernel_rfl) (by kernel_rfl) (fun _ _ _ h => h) (Or.inl ⟨by rfl, ?_⟩) hHeld ?_
        rotate_left
        · intro W hSW; obtain ⟨hSW0, hSW1, hSW2⟩ := hSW; go_simp; first | done | with_reducible rfl
        (try simp only [Act.put, List.setIfInBounds_toArray, List.set_cons_zero, List.set_cons_succ])
        refine wpAnyH_take (i := 7) (oi := ⟨some 31, _, _, _, _, _⟩) (v := ?_) rfl (by kernel_rfl) (by kernel_rfl) (by kernel_rfl) (fun _ _ _ h => h) (Or.inl ⟨by rfl, ?_⟩) hHeld ?_
        rotate_left
        · intro W hSW; obtain ⟨hSW0, hSW1, hSW2⟩ := hSW; go_simp; first | done | with_reducible rfl
        (try simp only [Act.put, List.setIfInBounds_toArray, List.set_cons_zero, List.set_cons_succ])
        refine wpAnyH_take (i := 8) (oi := ⟨some 32, _, _, _, _, _⟩) (v := ?_) rfl (by kernel_rfl) (by kernel_rfl) (by kernel_rfl) (fun _ _ _ h => h) (Or.inl ⟨by rfl, ?_⟩) hHeld ?_
        rotate_left
        · intro W hSW; obtain ⟨hSW0, hSW1, hSW2⟩ := hSW; go_simp; first | done | with_reducible rfl
        (try simp only [Act.put, List.setIfInBounds_toArray, List.set_cons_zero, List.set_cons_succ])
        refine wpAnyH_ready (rs := [9, 13]) (by kernel_rfl) (by simp) ?_
        refine AllReadyH.cons (o := ⟨some 33, _, _, _, _, _⟩) rfl (fun K hK => ?_) (AllReadyH.cons (o := ⟨some 5, _, _, _, _, _⟩) rfl (fun K hK => ?_) (AllReadyH.nil))
        · go_simp
          refine (CD.out _).mono ?_
          rintro e W1 ⟨rfl, be1⟩
          have bb1 := Below.then_ bb0 be1
          have s1 := HS.out W0 W1 hHeld be1
          clear hHeld be1
          refine hK.out _ _ ?_ (fun hHeld => ?_)
          · exact s1
          clear hK K
          (try simp only [Act.put, List.setIfInBounds_toArray, List.set_cons_zero, List.set_cons_succ])
          refine wpAnyH_take (i := 10) (oi := ⟨some 23, _, _, _, _, _⟩) (v := ?_) rfl (by kernel_rfl) (by kernel_rfl) (by kernel_rfl) (fun _ _ _ h => h) (Or.inl ⟨by rfl, ?_⟩) hHeld ?_
          rotate_left
          · intro W hSW; obtain ⟨hSW0, hSW1, hSW2⟩ := hSW; go_simp; first | done | with_reducible rfl
          (try simp only [Act.put, List.setIfInBounds_toArray, List.set_cons_zero, List.set_cons_succ])
          refine wpAnyH_take (i := 11) (oi := ⟨some 34, _, _, _, _, _⟩) (v := ?_) rfl (by kernel_rfl) (by kernel_rfl) (by kernel_rfl) (fun _ _ _ h => h) (Or.inl ⟨by rfl, ?_⟩) hHeld ?_
          rotate_left
          · intro W hSW; obtain ⟨hSW0, hSW1, hSW2⟩ := hSW; go_simp; first | done | with_reducible rfl
          (try simp only [Act.put, List.setIfInBounds_toArray, List.set_cons_zero, List.set_cons_succ])
          refine wpAnyH_take (i := 12) (oi := ⟨some 35, _, _, _, _, _⟩) (v := ?_) rfl (by kernel_rfl) (by kernel_rfl) (by kernel_rfl) (fun _ _ _ h => h) (Or.inl ⟨by rfl, ?_⟩) hHeld ?_
          rotate_left
          · intro W hSW; obtain ⟨hSW0, hSW1, hSW2⟩ := hSW; go_simp; first | done | with_reducible rfl
          (try simp only [Act.put, List.setIfInBounds_toArray, List.set_cons_zero, List.set_cons_succ])
          refine wpAnyH_ready (rs := [13]) (by kernel_rfl) (by simp) ?_
          refine AllReadyH.cons (o := ⟨some 5, _, _, _, _, _⟩) rfl (fun K hK => ?_) (AllReadyH.nil)
          refine step_alloc (by rfl) 52 (by rfl) (pv 0 0) zeroPol ?_
          intro W2 h2
          obtain ⟨g5, hg5⟩ : ∃ g, g = W1.heap.size := ⟨_, rfl⟩
          rw [← hg5]
          have q5 := h2.row
          rw [← hg5] at q5
          have bb2 := Below.then_ bb1 h2.bel
          have s2 := HS.out W1 W2 hHeld h2.bel
          have H5 : Hid (wr.heap.size ≤ g5) := by unfold Hid; have := bb1.size; omega
          have n3 : g3 < g5 := by have := hHeld.1.lt; omega
          have nb : b < g5 := by have := hHeld.2.2; omega
          clear hHeld hg5 h2
          refine hK.out _ _ ?_ (fun hHeld => ?_)
          · exact s2
          clear hK K
          (try simp only [Act.put, List.setIfInBounds_toArray, List.set_cons_zero, List.set_cons_succ])
          refine wpAnyH_ready (rs := [14]) (by kernel_rfl) (by simp) ?_
          refine AllReadyH.cons (o := ⟨none, _, _, _, _, _⟩) rfl (fun K hK => ?_) (AllReadyH.nil)
          refine step_store (by rfl) 52 _ _ (by rfl) g5 (pv l2 r2) (by rfl) (by rfl) 52 (pv 0 0) q5 (infoPol _ _) rfl (pv_all _ _) ?_
          intro W3 h3
          replace q5 := h3.row
          have bb3 := bb2.trans (h3.below H5.out)
          have s3 : Blk W3 g3 52 (pv l r) ∧ W3.cell? ⟨b, off + i, none⟩ = some (.int .i64 x) ∧ b < W3.heap.size := ⟨h3.blk hHeld.1 (by omega), (cellOfHeap (h3.oth b (by omega)) (off + i)).trans hHeld.2.1, by rw [h3.size]; exact hHeld.2.2⟩
          clear hHeld h3
          refine hK.out _ _ ?_ (fun hHeld => ?_)
          · exact s3
          clear hK K
          (try simp only [Act.put, List.setIfInBounds_toArray, List.set_cons_zero, List.set_cons_succ])
          refine wpAnyH_take (i := 15) (oi := ⟨some 6, _, _, _, _, _⟩) (v := ?_) rfl (by kernel_rfl) (by kernel_rfl) (by kernel_rfl) (fun _ _ _ h => h) (Or.inl ⟨by rfl, ?_⟩) hHeld ?_
          rotate_left
          · intro W hSW; obtain ⟨hSW0, hSW1, hSW2⟩ := hSW; go_simp; first | done | with_reducible rfl
          (try simp only [Act.put, List.setIfInBounds_toArray, List.set_cons_zero, List.set_cons_succ])
          refine wpAnyH_done (by kernel_rfl) ?_ _
          refine NoPanic.normal ?_
          have q3 := hHeld.1
          clear hHeld
          go_wp2_with fail
          go_meet
          case rel => exact ⟨g5, rfl, rfl, q3, q5, H5.out, n3, bb3⟩
        · refine step_alloc (by rfl) 52 (by rfl) (pv 0 0) zeroPol ?_
          intro W1 h1
          obtain ⟨g5, hg5⟩ : ∃ g, g = W0.heap.size := ⟨_, rfl⟩
          rw [← hg5]
          have q5 := h1.row
          rw [← hg5] at q5
          have bb1 := Below.then_ bb0 h1.bel
          have s1 := HS.out W0 W1 hHeld h1.bel
          have H5 : Hid (wr.heap.size ≤ g5) := by unfold Hid; have := bb0.size; omega
          have n3 : g3 < g5 := by have := hHeld.1.lt; omega
          have nb : b < g5 := by have := hHeld.2.2; omega
          clear hHeld hg5 h1
          refine hK.out _ _ ?_ (fun hHeld => ?_)
          · exact s1
          clear hK K
          (try simp only [Act.put, List.setIfInBounds_toArray, List.set_cons_zero, List.set_cons_succ])
          refine wpAnyH_ready (rs := [9]) (by kernel_rfl) (by simp) ?_
          refine AllReadyH.cons (o := ⟨some 33, _, _, _, _, _⟩) rfl (fun K hK => ?_) (AllReadyH.nil)
          go_simp
          refine (CD.out _).mono ?_
          rintro e W2 ⟨rfl, be2⟩
          have bb2 := Below.then_ bb1 be2
          have s2 := HS.out W1 W2 hHeld be2
          replace q5 := q5.after be2
          clear hHeld be2
          refine hK.out _ _ ?_ (fun hHeld => ?_)
          · exact s2
          clear hK K
          (try simp only [Act.put, List.setIfInBounds_toArray, List.set_cons_zero, List.set_cons_succ])
          refine wpAnyH_take (i := 10) (oi := ⟨some 23, _, _, _, _, _⟩) (v := ?_) rfl (by kernel_rfl) (by kernel_rfl) (by kernel_rfl) (fun _ _ _ h => h) (Or.inl ⟨by rfl, ?_⟩) hHeld ?_
          rotate_left
          · intro W hSW; obtain ⟨hSW0, hSW1, hSW2⟩ := hSW; go_simp; first | done | with_reducible rfl
          (try simp only [Act.put, List.setIfInBounds_toArray, List.set_cons_zero, List.set_cons_succ])
          refine wpAnyH_take (i := 11) (oi := ⟨some 34, _, _, _, _, _⟩) (v := ?_) rfl (by kernel_rfl) (by kernel_rfl) (by kernel_rfl) (fun _ _ _ h => h) (Or.inl ⟨by rfl, ?_⟩) hHeld ?_
          rotate_left
          · intro W hSW; obtain ⟨hSW0, hSW1, hSW2⟩ := hSW; go_simp; first | done | with_reducible rfl
          (try simp only [Act.put, List.setIfInBounds_toArray, List.set_cons_zero, List.set_cons_succ])
          refine wpAnyH_take (i := 12) (oi := ⟨some 35, _, _, _, _, _⟩) (v := ?_) rfl (by kernel_rfl) (by kernel_rfl) (by kernel_rfl) (fun _ _ _ h => h) (Or.inl ⟨by rfl, ?_⟩) hHeld ?_
          rotate_left
          · intro W hSW; obtain ⟨hSW0, hSW1, hSW2⟩ := hSW; go_simp; first | done | with_reducible rfl
          (try simp only [Act.put, List.setIfInBounds_toArray, List.set_cons_zero, List.set_cons_succ])
          refine wpAnyH_ready (rs := [14]) (by kernel_rfl) (by simp) ?_
          refine AllReadyH.cons (o := ⟨none, _, _, _, _, _⟩) rfl (fun K hK => ?_) (AllReadyH.nil)
          refine step_store (by rfl) 52 _ _ (by rfl) g5 (pv l2 r2) (by rfl) (by rfl) 52 (pv 0 0) q5 (infoPol _ _) rfl (pv_all _ _) ?_
          intro W3 h3
          replace q5 := h3.row
          have bb3 := bb2.trans (h3.below H5.out)
          have s3 : Blk W3 g3 52 (pv l r) ∧ W3.cell? ⟨b, off + i, none⟩ = some (.int .i64 x) ∧ b < W3.heap.size := ⟨h3.blk hHeld.1 (by omega), (cellOfHeap (h3.oth b (by omega)) (off + i)).trans hHeld.2.1, by rw [h3.size]; exact hHeld.2.2⟩
          clear hHeld h3
          refine hK.out _ _ ?_ (fun hHeld => ?_)
          · exact s3
          clear hK K
          (try simp only [Act.put, List.setIfInBounds_toArray, List.set_cons_zero, List.set_cons_succ])
          refine wpAnyH_take (i := 15) (oi := ⟨some 6, _, _, _, _, _⟩) (v := ?_) rfl (by kernel_rfl) (by kernel_rfl) (by kernel_rfl) (fun _ _ _ h => h) (Or.inl ⟨by rfl, ?_⟩) hHeld ?_
          rotate_left
          · intro W hSW; obtain ⟨hSW0, hSW1, hSW2⟩ := hSW; go_simp; first | done | with_reducible rfl
          (try simp only [Act.put, List.setIfInBounds_toArray, List.set_cons_zero, List.set_cons_succ])
          refine wpAnyH_done (by kernel_rfl) ?_ _
          refine NoPanic.normal ?_
          have q3 := hHeld.1
          clear hHeld
          go_wp2_with fail
          go_meet
          case rel => exact ⟨g5, rfl, rfl, q3, q5, H5.out, n3, bb3⟩
      case rest =>
        obtain ⟨g5, rfl, rfl, q3, q5, hg5, n35, bwc⟩ := hcut
        have bw2 : Below w.heap.size w wc := bw.trans (bwc.mono bw.size)
        have H3b : Hid (w.heap.size ≤ g3) := Nat.le_of_eq H3.out
        clear bwc CD HS
        go_wp2_with (first | (refine at_load_g rfl 52 _ rfl g5 rfl 52 (pv l2 r2) _ q5 Try.underlying52 rfl (infoPol _ _) ?_) | (go_at_call 34; refine (CC.out _).mono ?_; rintro e wC ⟨rfl, beC⟩) | (refine at_load rfl 52 _ rfl g5 rfl 52 (pv l2 r2) _ (q5.after beC) Try.underlying52 rfl (infoPol _ _) ?_) | (refine at_store rfl 52 _ _ rfl g3 (pv l2 r2) rfl rfl 52 _ (q3.after beC) (infoPol _ _) rfl (pv_all _ _) ?_; intro wD U3))
        go_roundw
        case rel => exact ⟨i + 1, by omega, by omega, by go_num, l2, r2, U3.row, hd, (Below.then_ bw2 beC).trans (U3.below H3b.out)⟩
        case measure => simp [intOf] <;> omega
    · have hfin := hlt
      by_cases hi40 : i < n
      · have d1 : decide ((i : Int) < (n : Int)) = true := by simp; omega
        have d2 : decide ((i : Int) < 40) = false := by simp; omega
        clear hlt hfin
        go_upto_region 11 with fail
        go_cut [7, 8] from 44 to 45 (fun s7 s8 wc => ∃ ga gb : Nat, s7 = .pointer (some ⟨ga, 0, none⟩) ∧ s8 = .pointer (some ⟨gb, 0, none⟩) ∧ ga ≠ gb ∧ wr.heap.size ≤ ga ∧ wr.heap.size ≤ gb ∧ Blk wc ga 52 (pv l r) ∧ Blk wc gb 52 (pv l r) ∧ Below wr.heap.size wr wc)
        case first =>
          have qz0 : Blk wr.drew g3 52 (pv l r) := q3.drew
          have bb0 : Below wr.heap.size wr wr.drew := (Below.refl _ _).drew
          obtain ⟨W0, hW0⟩ : ∃ W0, wr.drew = W0 := ⟨_, rfl⟩
          refine wp_region_noPanic ?_
          refine wp_region_held_drew (S := fun W => Blk W g3 52 (pv l r)) (by kernel_rfl) qz0 (fun hHeld => ?_)
          rw [hW0] at bb0 hHeld qz0 ⊢
          clear hW0
          refine wpAnyH_take (i := 0) (oi := ⟨some 44, _, _, _, _, _⟩) (v := _) rfl (by kernel_rfl) (by kernel_rfl) (by kernel_rfl) (fun _ _ _ h => h) (yields_row (by rfl) 52 _ (by rfl) g3 (by rfl) 52 (pv l r) _ (fun W h => h) Try.underlying52 rfl (infoPol _ _)) hHeld ?_
          (try simp only [Act.put, List.setIfInBounds_toArray, List.set_cons_zero, List.set_cons_succ])
          refine wpAnyH_take (i := 1) (oi := ⟨some 45, _, _, _, _, _⟩) (v := _) rfl (by kernel_rfl) (by kernel_rfl) (by kernel_rfl) (fun _ _ _ h => h) (yields_row (by rfl) 52 _ (by rfl) g3 (by rfl) 52 (pv l r) _ (fun W h => h) Try.underlying52 rfl (infoPol _ _)) hHeld ?_
          (try simp only [Act.put, List.setIfInBounds_toArray, List.set_cons_zero, List.set_cons_succ])
          refine wpAnyH_ready (rs := [2, 3]) (by kernel_rfl) (by simp) ?_
          refine AllReadyH.cons (o := ⟨some 7, _, _, _, _, _⟩) rfl (fun K hK => ?_) (AllReadyH.cons (o := ⟨some 8, _, _, _, _, _⟩) rfl (fun K hK => ?_) (AllReadyH.nil))
          · refine step_alloc (by rfl) 52 (by rfl) (pv 0 0) zeroPol ?_
            intro W1 h1
            obtain ⟨ga, hga⟩ : ∃ g, g = W0.heap.size := ⟨_, rfl⟩
            rw [← hga]
            have qga := h1.row
            rw [← hga] at qga
            have bb1 := Below.then_ bb0 h1.bel
            have lga : g3 < ga := by have := qz0.lt; omega
            have qz1 := qz0.after h1.bel
            have HWga : Hid (wr.heap.size ≤ ga) := by unfold Hid; have := bb0.size; omega
            clear hHeld hga h1
            refine hK.out _ _ ?_ (fun hHeld => ?_)
            · exact qz1
            clear hK K
            (try simp only [Act.put, List.setIfInBounds_toArray, List.set_cons_zero, List.set_cons_succ])
            refine wpAnyH_ready (rs := [3]) (by kernel_rfl) (by simp) ?_
            refine AllReadyH.cons (o := ⟨some 8, _, _, _, _, _⟩) rfl (fun K hK => ?_) (AllReadyH.nil)
            refine step_alloc (by rfl) 52 (by rfl) (pv 0 0) zeroPol ?_
            intro W2 h2
            obtain ⟨gb, hgb⟩ : ∃ g, g = W1.heap.size := ⟨_, rfl⟩
            rw [← hgb]
            have qgb := h2.row
            rw [← hgb] at qgb
            have bb2 := Below.then_ bb1 h2.bel
            have lgb : g3 < gb := by have := qz1.lt; omega
            have qz2 := qz1.after h2.bel
            have ne : ga ≠ gb := by have := qga.lt; omega
            have lw2 := qga.lt
            replace qga := qga.after h2.bel
            have HWgb : Hid (wr.heap.size ≤ gb) := by unfold Hid; have := bb1.size; omega
            clear hHeld hgb h2
            refine hK.out _ _ ?_ (fun hHeld => ?_)
            · exact qz2
            clear hK K
            (try simp only [Act.put, List.setIfInBounds_toArray, List.set_cons_zero, List.set_cons_succ])
            refine wpAnyH_ready (rs := [4]) (by kernel_rfl) (by simp) ?_
            refine AllReadyH.cons (o := ⟨none, _, _, _, _, _⟩) rfl (fun K hK => ?_) (AllReadyH.nil)
            refine step_store (by rfl) 52 _ _ (by rfl) ga (pv l r) (by rfl) (by rfl) 52 (pv 0 0) qga (infoPol _ _) rfl (pv_all _ _) ?_
            intro W3 h3
            replace qga := h3.row
            have bb3 := bb2.trans (h3.below HWga.out)
            have qz3 := h3.blk qz2 (by omega)
            replace qgb := h3.blk qgb (by omega)
            clear hHeld h3
            refine hK.out _ _ ?_ (fun hHeld => ?_)
            · exact qz3
            clear hK K
            (try simp only [Act.put, List.setIfInBounds_toArray, List.set_cons_zero, List.set_cons_succ])
            refine wpAnyH_ready (rs := [5]) (by kernel_rfl) (by simp) ?_
            refine AllReadyH.cons (o := ⟨none, _, _, _, _, _⟩) rfl (fun K hK => ?_) (AllReadyH.nil)
            refine step_store (by rfl) 52 _ _ (by rfl) gb (pv l r) (by rfl) (by rfl) 52 (pv 0 0) qgb (infoPol _ _) rfl (pv_all _ _) ?_
            intro W4 h4
            replace qgb := h4.row
            have bb4 := bb3.trans (h4.below HWgb.out)
            have qz4 := h4.blk qz3 (by omega)
            replace qga := h4.blk qga (by omega)
            clear hHeld h4
            refine hK.out _ _ ?_ (fun hHeld => ?_)
            · exact qz4
            clear hK K
            (try simp only [Act.put, List.setIfInBounds_toArray, List.set_cons_zero, List.set_cons_succ])
            refine wpAnyH_done (by kernel_rfl) ?_ _
            refine NoPanic.normal ?_
            clear hHeld
            go_wp2_with fail
            go_meet
            case rel => exact ⟨ga, gb, rfl, rfl, ne, HWga.out, HWgb.out, qga, qgb, bb4⟩
          · refine step_alloc (by rfl) 52 (by rfl) (pv 0 0) zeroPol ?_
            intro W1 h1
            obtain ⟨gb, hgb⟩ : ∃ g, g = W0.heap.size := ⟨_, rfl⟩
            rw [← hgb]
            have qgb := h1.row
            rw [← hgb] at qgb
            have bb1 := Below.then_ bb0 h1.bel
            have lgb : g3 < gb := by have := qz0.lt; omega
            have qz1 := qz0.after h1.bel
            have HWgb : Hid (wr.heap.size ≤ gb) := by unfold Hid; have := bb0.size; omega
            clear hHeld hgb h1
            refine hK.out _ _ ?_ (fun hHeld => ?_)
            · exact qz1
            clear hK K
            (try simp only [Act.put, List.setIfInBounds_toArray, List.set_cons_zero, List.set_cons_succ])
            refine wpAnyH_ready (rs := [2]) (by kernel_rfl) (by simp) ?_
            refine AllReadyH.cons (o := ⟨some 7, _, _, _, _, _⟩) rfl (fun K hK => ?_) (AllReadyH.nil)
            refine step_alloc (by rfl) 52 (by rfl) (pv 0 0) zeroPol ?_
            intro W2 h2
            obtain ⟨ga, hga⟩ : ∃ g, g = W1.heap.size := ⟨_, rfl⟩
            rw [← hga]
            have qga := h2.row
            rw [← hga] at qga
            have bb2 := Below.then_ bb1 h2.bel
            have lga : g3 < ga := by have := qz1.lt; omega
            have qz2 := qz1.after h2.bel
            have ne : ga ≠ gb := by have := qgb.lt; omega
            have lw2 := qgb.lt
            replace qgb := qgb.after h2.bel
            have HWga : Hid (wr.heap.size ≤ ga) := by unfold Hid; have := bb1.size; omega
            clear hHeld hga h2
            refine hK.out _ _ ?_ (fun hHeld => ?_)
            · exact qz2
            clear hK K
            (try simp only [Act.put, List.setIfInBounds_toArray, List.set_cons_zero, List.set_cons_succ])
            refine wpAnyH_ready (rs := [4]) (by kernel_rfl) (by simp) ?_
            refine AllReadyH.cons (o := ⟨none, _, _, _, _, _⟩) rfl (fun K hK => ?_) (AllReadyH.nil)
            refine step_store (by rfl) 52 _ _ (by rfl) ga (pv l r) (by rfl) (by rfl) 52 (pv 0 0) qga (infoPol _ _) rfl (pv_all _ _) ?_
            intro W3 h3
            replace qga := h3.row
            have bb3 := bb2.trans (h3.below HWga.out)
            have qz3 := h3.blk qz2 (by omega)
            replace qgb := h3.blk qgb (by omega)
            clear hHeld h3
            refine hK.out _ _ ?_ (fun hHeld => ?_)
            · exact qz3
            clear hK K
            (try simp only [Act.put, List.setIfInBounds_toArray, List.set_cons_zero, List.set_cons_succ])
            refine wpAnyH_ready (rs := [5]) (by kernel_rfl) (by simp) ?_
            refine AllReadyH.cons (o := ⟨none, _, _, _, _, _⟩) rfl (fun K hK => ?_) (AllReadyH.nil)
            refine step_store (by rfl) 52 _ _ (by rfl) gb (pv l r) (by rfl) (by rfl) 52 (pv 0 0) qgb (infoPol _ _) rfl (pv_all _ _) ?_
            intro W4 h4
            replace qgb := h4.row
            have bb4 := bb3.trans (h4.below HWgb.out)
            have qz4 := h4.blk qz3 (by omega)
            replace qga := h4.blk qga (by omega)
            clear hHeld h4
            refine hK.out _ _ ?_ (fun hHeld => ?_)
            · exact qz4
            clear hK K
            (try simp only [Act.put, List.setIfInBounds_toArray, List.set_cons_zero, List.set_cons_succ])
            refine wpAnyH_done (by kernel_rfl) ?_ _
            refine NoPanic.normal ?_
            clear hHeld
            go_wp2_with fail
            go_meet
            case rel => exact ⟨ga, gb, rfl, rfl, ne, HWga.out, HWgb.out, qga, qgb, bb4⟩
        case rest =>
          obtain ⟨g7, g8, rfl, rfl, ne, hg7, hg8, q7, q8, bwc⟩ := hcut
          have bw2 : Below w.heap.size w wc := bw.trans (bwc.mono bw.size)
          have h7 : w.heap.size ≤ g7 := Nat.le_trans bw.size hg7
          have h8 : w.heap.size ≤ g8 := Nat.le_trans bw.size hg8
          clear bwc q3 hg7 hg8
          go_wp2
          obtain ⟨wo, hwo⟩ : ∃ wo : World, wo = wc := ⟨_, rfl⟩
          clear hwo
          go_loopw [9] (fun x wr => ∃ k : Nat, k ≤ 12 ∧ x = .int .i64 k ∧ ∃ l7 r7 : Int, Blk wr g7 52 (pv l7 r7) ∧ Hid ((0 ≤ l7 ∧ l7 ≤ 2 ∧ 0 ≤ r7 ∧ r7 ≤ 3) ∧ (4 * l7 - r7 ≤ 8 - k ∨ 4 * l7 - r7 ≤ 0)) ∧ Blk wr g8 52 (pv l r) ∧ Below w.heap.size w wr) (fun x _ => 12 - (intOf x).toNat)
          case atStart => exact ⟨0, by omega, rfl, l, r, q7, ⟨hlr, by omega⟩, q8, bw2⟩
          case round =>
            clear q7 q8 bw2
            obtain ⟨k, hk, rfl, l7, r7, q7, H7, q8, bw⟩ := hrel
            by_cases hlt : k < 12
            · have CG := Lib.hid (fun W => doneC l7 r7 1 W H7.out.1 (by omega))
              have HN := Lib.hid (And.intro (d_in 1 H7.out.1) (good_step H7.out.1 H7.out.2))
              generalize dl l7 r7 1 = lx at *
              generalize dr l7 r7 1 = rx at *
              have d1 : decide ((k : Int) < 12) = true := by simp; omega
              go_wp2_with (first | (refine at_load rfl 52 _ rfl g7 rfl 52 (pv l7 r7) _ q7 Try.underlying52 rfl (infoPol _ _) ?_) | (go_at_call 31; refine (CG.out _).mono ?_; rintro e w4 ⟨rfl, be4⟩) | (refine at_store rfl 52 _ _ rfl g7 (pv lx rx) rfl rfl 52 _ (q7.after be4) (infoPol _ _) rfl (pv_all _ _) ?_; intro w5 U5))
              go_roundw
              case rel => exact ⟨k + 1, by omega, by go_num, lx, rx, U5.row, ⟨HN.out.1, by have := HN.out.2; omega⟩, U5.blk (q8.after be4) (by omega), (Below.then_ bw be4).trans (U5.below h7)⟩
              case measure => simp [intOf] <;> omega
            · have HZ : Hid (l7 = 0) := by unfold Hid; have := H7.out; omega
              have d1 : decide ((k : Int) < 12) = false := by simp; omega
              have q7z : ∃ rz, Blk wr g7 52 (pv 0 rz) := ⟨r7, by rw [← HZ.out]; exact q7⟩
              obtain ⟨rz, q7z⟩ := q7z
              clear q7 H7 HZ hlt hk
              go_upto_region 16 with fail
              go_wp2
              obtain ⟨wo2, hwo2⟩ : ∃ wo : World, wo = wr := ⟨_, rfl⟩
              clear hwo2
              go_loopw [10] (fun x wr => ∃ k : Nat, k ≤ 2 ∧ x = .int .i64 k ∧ ∃ l8 r8 : Int, Blk wr g8 52 (pv l8 r8) ∧ Hid ((0 ≤ l8 ∧ l8 ≤ 2 ∧ 0 ≤ r8 ∧ r8 ≤ 3) ∧ (k = 1 → 1 ≤ l8) ∧ (k = 2 → l8 = 2 ∧ r8 = 0)) ∧ Blk wr g7 52 (pv 0 rz) ∧ Below w.heap.size w wr) (fun x _ => 2 - (intOf x).toNat)
              case atStart => exact ⟨0, by omega, rfl, l, r, q8, ⟨hlr, by omega, by omega⟩, q7z, bw⟩
              case round =>
                clear q7z q8 bw
                obtain ⟨k, hk, rfl, l8, r8, q8, H8, q7, bw⟩ := hrel
                by_cases hlt : k < 2
                · have CG := Lib.hid (fun W => doneC l8 r8 3 W H8.out.1 (by omega))
                  have HN := Lib.hid (And.intro (d_in 3 H8.out.1) (bad_step H8.out.1 k H8.out.2.1))
                  generalize dl l8 r8 3 = lx at *
                  generalize dr l8 r8 3 = rx at *
                  have d1 : decide ((k : Int) < 2) = true := by simp; omega
                  go_wp2_with (first | (refine at_load rfl 52 _ rfl g8 rfl 52 (pv l8 r8) _ q8 Try.underlying52 rfl (infoPol _ _) ?_) | (go_at_call 31; refine (CG.out _).mono ?_; rintro e w4 ⟨rfl, be4⟩) | (refine at_store rfl 52 _ _ rfl g8 (pv lx rx) rfl rfl 52 _ (q8.after be4) (infoPol _ _) rfl (pv_all _ _) ?_; intro w5 U5))
                  go_roundw
                  case rel => exact ⟨k + 1, by omega, by go_num, lx, rx, U5.row, ⟨HN.out.1, fun h => HN.out.2.1, fun h => HN.out.2.2 (by omega)⟩, U5.blk (q7.after be4) (by omega), (Below.then_ bw be4).trans (U5.below h8)⟩
                  case measure => simp [intOf] <;> omega
                · have H2 : Hid (l8 = 2 ∧ r8 = 0) := H8.out.2.2 (by omega)
                  have q82 : Blk wr g8 52 (pv 2 0) := by
                    obtain ⟨e1, e2⟩ := H2.out
                    rw [e1, e2] at q8
                    exact q8
                  have c7 : wr.cell? ⟨g7, 0, none⟩ = some (.int .i64 0) := (q7.cell 0).trans rfl
                  have d1 : decide ((k : Int) < 2) = false := by simp; omega
                  clear q8 H8 H2 hlt hk q7
                  go_wp2_with (first | (refine at_load_g rfl 52 _ rfl g8 rfl 52 (pv 2 0) _ q82 Try.underlying52 rfl (infoPol _ _) ?_) | (refine at_eqS rfl .eql 52 _ _ _ rfl (pv 2 0) (pv 2 0) rfl rfl polGuard (.bool true) (polEq 2 2 0 0 true rfl) ?_))
                  go_ret
                  exact ⟨rfl, bw⟩
      · have d1 : decide ((i : Int) < (n : Int)) = false := by simp; omega
        clear hlt hfin
        go_upto_region 11 with fail
        go_cut [7, 8] from 44 to 45 (fun s7 s8 wc => ∃ ga gb : Nat, s7 = .pointer (some ⟨ga, 0, none⟩) ∧ s8 = .pointer (some ⟨gb, 0, none⟩) ∧ ga ≠ gb ∧ wr.heap.size ≤ ga ∧ wr.heap.size ≤ gb ∧ Blk wc ga 52 (pv l r) ∧ Blk wc gb 52 (pv l r) ∧ Below wr.heap.size wr wc)
        case first =>
          have qz0 : Blk wr.drew g3 52 (pv l r) := q3.drew
          have bb0 : Below wr.heap.size wr wr.drew := (Below.refl _ _).drew
          obtain ⟨W0, hW0⟩ : ∃ W0, wr.drew = W0 := ⟨_, rfl⟩
          refine wp_region_noPanic ?_
          refine wp_region_held_drew (S := fun W => Blk W g3 52 (pv l r)) (by kernel_rfl) qz0 (fun hHeld => ?_)
          rw [hW0] at bb0 hHeld qz0 ⊢
          clear hW0
          refine wpAnyH_take (i := 0) (oi := ⟨some 44, _, _, _, _, _⟩) (v := _) rfl (by kernel_rfl) (by kernel_rfl) (by kernel_rfl) (fun _ _ _ h => h) (yields_row (by rfl) 52 _ (by rfl) g3 (by rfl) 52 (pv l r) _ (fun W h => h) Try.underlying52 rfl (infoPol _ _)) hHeld ?_
          (try simp only [Act.put, List.setIfInBounds_toArray, List.set_cons_zero, List.set_cons_succ])
          refine wpAnyH_take (i := 1) (oi := ⟨some 45, _, _, _, _, _⟩) (v := _) rfl (by kernel_rfl) (by kernel_rfl) (by kernel_rfl) (fun _ _ _ h => h) (yields_row (by rfl) 52 _ (by rfl) g3 (by rfl) 52 (pv l r) _ (fun W h => h) Try.underlying52 rfl (infoPol _ _)) hHeld ?_
          (try simp only [Act.put, List.setIfInBounds_toArray, List.set_cons_zero, List.set_cons_succ])
          refine wpAnyH_ready (rs := [2, 3]) (by kernel_rfl) (by simp) ?_
          refine AllReadyH.cons (o := ⟨some 7, _, _, _, _, _⟩) rfl (fun K hK => ?_) (AllReadyH.cons (o := ⟨some 8, _, _, _, _, _⟩) rfl (fun K hK => ?_) (AllReadyH.nil))
          · refine step_alloc (by rfl) 52 (by rfl) (pv 0 0) zeroPol ?_
            intro W1 h1
            obtain ⟨ga, hga⟩ : ∃ g, g = W0.heap.size := ⟨_, rfl⟩
            rw [← hga]
            have qga := h1.row
            rw [← hga] at qga
            have bb1 := Below.then_ bb0 h1.bel
            have lga : g3 < ga := by have := qz0.lt; omega
            have qz1 := qz0.after h1.bel
            have HWga : Hid (wr.heap.size ≤ ga) := by unfold Hid; have := bb0.size; omega
            clear hHeld hga h1
            refine hK.out _ _ ?_ (fun hHeld => ?_)
            · exact qz1
            clear hK K
            (try simp only [Act.put, List.setIfInBounds_toArray, List.set_cons_zero, List.set_cons_succ])
            refine wpAnyH_ready (rs := [3]) (by kernel_rfl) (by simp) ?_
            refine AllReadyH.cons (o := ⟨some 8, _, _, _, _, _⟩) rfl (fun K hK => ?_) (AllReadyH.nil)
            refine step_alloc (by rfl) 52 (by rfl) (pv 0 0) zeroPol ?_
            intro W2 h2
            obtain ⟨gb, hgb⟩ : ∃ g, g = W1.heap.size := ⟨_, rfl⟩
            rw [← hgb]
            have qgb := h2.row
            rw [← hgb] at qgb
            have bb2 := Below.then_ bb1 h2.bel
            have lgb : g3 < gb := by have := qz1.lt; omega
            have qz2 := qz1.after h2.bel
            have ne : ga ≠ gb := by have := qga.lt; omega
            have lw2 := qga.lt
            replace qga := qga.after h2.bel
            have HWgb : Hid (wr.heap.size ≤ gb) := by unfold Hid; have := bb1.size; omega
            clear hHeld hgb h2
            refine hK.out _ _ ?_ (fun hHeld => ?_)
            · exact qz2
            clear hK K
            (try simp only [Act.put, List.setIfInBounds_toArray, List.set_cons_zero, List.set_cons_succ])
            refine wpAnyH_ready (rs := [4]) (by kernel_rfl) (by simp) ?_
            refine AllReadyH.cons (o := ⟨none, _, _, _, _, _⟩) rfl (fun K hK => ?_) (AllReadyH.nil)
            refine step_store (by rfl) 52 _ _ (by rfl) ga (pv l r) (by rfl) (by rfl) 52 (pv 0 0) qga (infoPol _ _) rfl (pv_all _ _) ?_
            intro W3 h3
            replace qga := h3.row
            have bb3 := bb2.trans (h3.below HWga.out)
            have qz3 := h3.blk qz2 (by omega)
            replace qgb := h3.blk qgb (by omega)
            clear hHeld h3
            refine hK.out _ _ ?_ (fun hHeld => ?_)
            · exact qz3
            clear hK K
            (try simp only [Act.put, List.setIfInBounds_toArray, List.set_cons_zero, List.set_cons_succ])
            refine wpAnyH_ready (rs := [5]) (by kernel_rfl) (by simp) ?_
            refine AllReadyH.cons (o := ⟨none, _, _, _, _, _⟩) rfl (fun K hK => ?_) (AllReadyH.nil)
            refine step_store (by rfl) 52 _ _ (by rfl) gb (pv l r) (by rfl) (by rfl) 52 (pv 0 0) qgb (infoPol _ _) rfl (pv_all _ _) ?_
            intro W4 h4
            replace qgb := h4.row
            have bb4 := bb3.trans (h4.below HWgb.out)
            have qz4 := h4.blk qz3 (by omega)
            replace qga := h4.blk qga (by omega)
            clear hHeld h4
            refine hK.out _ _ ?_ (fun hHeld => ?_)
            · exact qz4
            clear hK K
            (try simp only [Act.put, List.setIfInBounds_toArray, List.set_cons_zero, List.set_cons_succ])
            refine wpAnyH_done (by kernel_rfl) ?_ _
            refine NoPanic.normal ?_
            clear hHeld
            go_wp2_with fail
            go_meet
            case rel => exact ⟨ga, gb, rfl, rfl, ne, HWga.out, HWgb.out, qga, qgb, bb4⟩
          · refine step_alloc (by rfl) 52 (by rfl) (pv 0 0) zeroPol ?_
            intro W1 h1
            obtain ⟨gb, hgb⟩ : ∃ g, g = W0.heap.size := ⟨_, rfl⟩
            rw [← hgb]
            have qgb := h1.row
            rw [← hgb] at qgb
            have bb1 := Below.then_ bb0 h1.bel
            have lgb : g3 < gb := by have := qz0.lt; omega
            have qz1 := qz0.after h1.bel
            have HWgb : Hid (wr.heap.size ≤ gb) := by unfold Hid; have := bb0.size; omega
            clear hHeld hgb h1
            refine hK.out _ _ ?_ (fun hHeld => ?_)
            · exact qz1
            clear hK K
            (try simp only [Act.put, List.setIfInBounds_toArray, List.set_cons_zero, List.set_cons_succ])
            refine wpAnyH_ready (rs := [2]) (by kernel_rfl) (by simp) ?_
            refine AllReadyH.cons (o := ⟨some 7, _, _, _, _, _⟩) rfl (fun K hK => ?_) (AllReadyH.nil)
            refine step_alloc (by rfl) 52 (by rfl) (pv 0 0) zeroPol ?_
            intro W2 h2
            obtain ⟨ga, hga⟩ : ∃ g, g = W1.heap.size := ⟨_, rfl⟩
            rw [← hga]
            have qga := h2.row
            rw [← hga] at qga
            have bb2 := Below.then_ bb1 h2.bel
            have lga : g3 < ga := by have := qz1.lt; omega
            have qz2 := qz1.after h2.bel
            have ne : ga ≠ gb := by have := qgb.lt; omega
            have lw2 := qgb.lt
            replace qgb := qgb.after h2.bel
            have HWga : Hid (wr.heap.size ≤ ga) := by unfold Hid; have := bb1.size; omega
            clear hHeld hga h2
            refine hK.out _ _ ?_ (fun hHeld => ?_)
            · exact qz2
            clear hK K
            (try simp only [Act.put, List.setIfInBounds_toArray, List.set_cons_zero, List.set_cons_succ])
            refine wpAnyH_ready (rs := [4]) (by kernel_rfl) (by simp) ?_
            refine AllReadyH.cons (o := ⟨none, _, _, _, _, _⟩) rfl (fun K hK => ?_) (AllReadyH.nil)
            refine step_store (by rfl) 52 _ _ (by rfl) ga (pv l r) (by rfl) (by rfl) 52 (pv 0 0) qga (infoPol _ _) rfl (pv_all _ _) ?_
            intro W3 h3
            replace qga := h3.row
            have bb3 := bb2.trans (h3.below HWga.out)
            have qz3 := h3.blk qz2 (by omega)
            replace qgb := h3.blk qgb (by omega)
            clear hHeld h3
            refine hK.out _ _ ?_ (fun hHeld => ?_)
            · exact qz3
            clear hK K
            (try simp only [Act.put, List.setIfInBounds_toArray, List.set_cons_zero, List.set_cons_succ])
            refine wpAnyH_ready (rs := [5]) (by kernel_rfl) (by simp) ?_
            refine AllReadyH.cons (o := ⟨none, _, _, _, _, _⟩) rfl (fun K hK => ?_) (AllReadyH.nil)
            refine step_store (by rfl) 52 _ _ (by rfl) gb (pv l r) (by rfl) (by rfl) 52 (pv 0 0) qgb (infoPol _ _) rfl (pv_all _ _) ?_
            intro W4 h4
            replace qgb := h4.row
            have bb4 := bb3.trans (h4.below HWgb.out)
            have qz4 := h4.blk qz3 (by omega)
            replace qga := h4.blk qga (by omega)
            clear hHeld h4
            refine hK.out _ _ ?_ (fun hHeld => ?_)
            · exact qz4
            clear hK K
            (try simp only [Act.put, List.setIfInBounds_toArray, List.set_cons_zero, List.set_cons_succ])
            refine wpAnyH_done (by kernel_rfl) ?_ _
            refine NoPanic.normal ?_
            clear hHeld
            go_wp2_with fail
            go_meet
            case rel => exact ⟨ga, gb, rfl, rfl, ne, HWga.out, HWgb.out, qga, qgb, bb4⟩
        case rest =>
          obtain ⟨g7, g8, rfl, rfl, ne, hg7, hg8, q7, q8, bwc⟩ := hcut
          have bw2 : Below w.heap.size w wc := bw.trans (bwc.mono bw.size)
          have h7 : w.heap.size ≤ g7 := Nat.le_trans bw.size hg7
          have h8 : w.heap.size ≤ g8 := Nat.le_trans bw.size hg8
          clear bwc q3 hg7 hg8
          go_wp2
          obtain ⟨wo, hwo⟩ : ∃ wo : World, wo = wc := ⟨_, rfl⟩
          clear hwo
          go_loopw [9] (fun x wr => ∃ k : Nat, k ≤ 12 ∧ x = .int .i64 k ∧ ∃ l7 r7 : Int, Blk wr g7 52 (pv l7 r7) ∧ Hid ((0 ≤ l7 ∧ l7 ≤ 2 ∧ 0 ≤ r7 ∧ r7 ≤ 3) ∧ (4 * l7 - r7 ≤ 8 - k ∨ 4 * l7 - r7 ≤ 0)) ∧ Blk wr g8 52 (pv l r) ∧ Below w.heap.size w wr) (fun x _ => 12 - (intOf x).toNat)
          case atStart => exact ⟨0, by omega, rfl, l, r, q7, ⟨hlr, by omega⟩, q8, bw2⟩
          case round =>
            clear q7 q8 bw2
            obtain ⟨k, hk, rfl, l7, r7, q7, H7, q8, bw⟩ := hrel
            by_cases hlt : k < 12
            · have CG := Lib.hid (fun W => doneC l7 r7 1 W H7.out.1 (by omega))
              have HN := Lib.hid (And.intro (d_in 1 H7.out.1) (good_step H7.out.1 H7.out.2))
              generalize dl l7 r7 1 = lx at *
              generalize dr l7 r7 1 = rx at *
              have d1 : decide ((k : Int) < 12) = true := by simp; omega
              go_wp2_with (first | (refine at_load rfl 52 _ rfl g7 rfl 52 (pv l7 r7) _ q7 Try.underlying52 rfl (infoPol _ _) ?_) | (go_at_call 31; refine (CG.out _).mono ?_; rintro e w4 ⟨rfl, be4⟩) | (refine at_store rfl 52 _ _ rfl g7 (pv lx rx) rfl rfl 52 _ (q7.after be4) (infoPol _ _) rfl (pv_all _ _) ?_; intro w5 U5))
              go_roundw
              case rel => exact ⟨k + 1, by omega, by go_num, lx, rx, U5.row, ⟨HN.out.1, by have := HN.out.2; omega⟩, U5.blk (q8.after be4) (by omega), (Below.then_ bw be4).trans (U5.below h7)⟩
              case measure => simp [intOf] <;> omega
            · have HZ : Hid (l7 = 0) := by unfold Hid; have := H7.out; omega
              have d1 : decide ((k : Int) < 12) = false := by simp; omega
              have q7z : ∃ rz, Blk wr g7 52 (pv 0 rz) := ⟨r7, by rw [← HZ.out]; exact q7⟩
              obtain ⟨rz, q7z⟩ := q7z
              clear q7 H7 HZ hlt hk
              go_upto_region 16 with fail
              go_wp2
              obtain ⟨wo2, hwo2⟩ : ∃ wo : World, wo = wr := ⟨_, rfl⟩
              clear hwo2
              go_loopw [10] (fun x wr => ∃ k : Nat, k ≤ 2 ∧ x = .int .i64 k ∧ ∃ l8 r8 : Int, Blk wr g8 52 (pv l8 r8) ∧ Hid ((0 ≤ l8 ∧ l8 ≤ 2 ∧ 0 ≤ r8 ∧ r8 ≤ 3) ∧ (k = 1 → 1 ≤ l8) ∧ (k = 2 → l8 = 2 ∧ r8 = 0)) ∧ Blk wr g7 52 (pv 0 rz) ∧ Below w.heap.size w wr) (fun x _ => 2 - (intOf x).toNat)
              case atStart => exact ⟨0, by omega, rfl, l, r, q8, ⟨hlr, by omega, by omega⟩, q7z, bw⟩
              case round =>
                clear q7z q8 bw
                obtain ⟨k, hk, rfl, l8, r8, q8, H8, q7, bw⟩ := hrel
                by_cases hlt : k < 2
                · have CG := Lib.hid (fun W => doneC l8 r8 3 W H8.out.1 (by omega))
                  have HN := Lib.hid (And.intro (d_in 3 H8.out.1) (bad_step H8.out.1 k H8.out.2.1))
                  generalize dl l8 r8 3 = lx at *
                  generalize dr l8 r8 3 = rx at *
                  have d1 : decide ((k : Int) < 2) = true := by simp; omega
                  go_wp2_with (first | (refine at_load rfl 52 _ rfl g8 rfl 52 (pv l8 r8) _ q8 Try.underlying52 rfl (infoPol _ _) ?_) | (go_at_call 31; refine (CG.out _).mono ?_; rintro e w4 ⟨rfl, be4⟩) | (refine at_store rfl 52 _ _ rfl g8 (pv lx rx) rfl rfl 52 _ (q8.after be4) (infoPol _ _) rfl (pv_all _ _) ?_; intro w5 U5))
                  go_roundw
                  case rel => exact ⟨k + 1, by omega, by go_num, lx, rx, U5.row, ⟨HN.out.1, fun h => HN.out.2.1, fun h => HN.out.2.2 (by omega)⟩, U5.blk (q7.after be4) (by omega), (Below.then_ bw be4).trans (U5.below h8)⟩
                  case measure => simp [intOf] <;> omega
                · have H2 : Hid (l8 = 2 ∧ r8 = 0) := H8.out.2.2 (by omega)
                  have q82 : Blk wr g8 52 (pv 2 0) := by
                    obtain ⟨e1, e2⟩ := H2.out
                    rw [e1, e2] at q8
                    exact q8
                  have c7 : wr.cell? ⟨g7, 0, none⟩ = some (.int .i64 0) := (q7.cell 0).trans rfl
                  have d1 : decide ((k : Int) < 2) = false := by simp; omega
                  clear q8 H8 H2 hlt hk q7
                  go_wp2_with (first | (refine at_load_g rfl 52 _ rfl g8 rfl 52 (pv 2 0) _ q82 Try.underlying52 rfl (infoPol _ _) ?_) | (refine at_eqS rfl .eql 52 _ _ _ rfl (pv 2 0) (pv 2 0) rfl rfl polGuard (.bool true) (polEq 2 2 0 0 true rfl) ?_))
                  go_ret
                  exact ⟨rfl, bw⟩
end Go.Proofs.Ytepcipcppdndfaa
