/-
  Contract of layer 12's reference: Weight.
-/
import Derived.Test.YtknfpdlomgllhaaDoorPb
namespace Go.Proofs.YtknfpdlomgllhaaDoor
open Go.RowKit
set_option maxRecDepth 100000
set_option linter.unusedVariables false
set_option linter.unusedSimpArgs false

theorem wcT_le (ws : List Nat) (h : ∀ y ∈ ws, y ≤ 7) (l : List Nat) (hl : ∀ y ∈ l, y ≤ 1) : ∀ k, Cv.wcT (fun v => ws.getD v 0) l k ≤ 7 * k
  | 0 => by simp [Cv.wcT]
  | k + 1 => by
    have h1 := wcT_le ws h l hl k
    have h2 := Nat.mul_le_mul (Bm.bit_le l hl k) (getD_seven ws h (Cv.vr (k % 4) (k / 4)))
    show Cv.wcT (fun v => ws.getD v 0) l k + l.getD k 0 * ws.getD (Cv.vr (k % 4) (k / 4)) 0 ≤ _
    omega
set_option maxHeartbeats 400000 in
set_option maxRecDepth 100000 in
/-- The reference's Weight. -/
theorem refWeight (A : Option Addr) (n c : Nat) (l ws : List Nat) (w : World) (hr : Rd w w.heap.size A n (U8 l)) (hbit : ∀ y ∈ l, y ≤ 1) (hn : n ≤ 100000) (hl : ws.length = 4) (hb : ∀ y ∈ ws, y ≤ 7) :
    Calls Tryd.prog 13 #[.slice A n c, .agg (W4 (nw ws))] w fun e w' => e = .returned (.int .i64 (Cv.wcT (fun v => ws.getD v 0) l n : Nat)) ∧ Below w.heap.size w w' := by
  have HW : Hid (∀ v, v < 4 → (W4 (nw ws))[v]? = some (.int .i64 ((ws.getD v 0 : Nat) : Int))) := fun v hv => by
    rw [W4_get _ v (by rw [nw_length, hl]; exact hv), nw_get]
  have HLE := Lib.hid (wcT_le ws hb l hbit)
  have HB := Lib.hid (getD_seven ws hb)
  have HBI := Lib.hid (Bm.bit_le l hbit)
  clear hb hl hbit
  go_enter Tryd.func13, Tryd.ntmps13
  generalize W4 (nw ws) = Z at *
  go_wp2_with (refine at_box rfl 22 _ rfl Z rfl ?_; intro w2 h2)
  have q5 := h2.row
  have b2 := h2.bel
  generalize hg3 : w.heap.size = g5 at *
  have HG := Lib.hid hg3
  clear hg3 h2
  go_loopw [5, 6] (fun m i wr => ∃ k : Nat, k ≤ n ∧ i = .int .i64 k ∧ m = .int .i64 (Cv.wcT (fun v => ws.getD v 0) l k : Nat) ∧ Blk wr g5 22 Z ∧ Below g5 w wr) (fun _ i _ => n - (intOf i).toNat)
  case atStart => exact ⟨0, by omega, rfl, rfl, q5, b2⟩
  case round =>
    clear q5 b2
    obtain ⟨k, hk, rfl, rfl, q5, hbel⟩ := hrel
    have hle := HLE.out k
    by_cases hlt : k < n
    · obtain ⟨i, hi⟩ : ∃ i, k % 4 = i := ⟨_, rfl⟩
      obtain ⟨t, ht⟩ : ∃ t, k / 4 = t := ⟨_, rfl⟩
      have hi4 : i < 4 := by omega
      have e1 : (k : Int) % 4 = (i : Int) := by omega
      have e1t : (k : Int).tmod 4 = (i : Int) := by rw [Int.tmod_eq_emod_of_nonneg (by omega)]; exact e1
      have e2 : (k : Int) / 4 = (t : Int) := by omega
      have e2t : (k : Int).tdiv 4 = (t : Int) := by rw [Int.tdiv_eq_ediv_of_nonneg (by omega)]; exact e2
      have e3 : IntKind.i64.wrap (t : Int) = (t : Int) := IntWalk.i64_in _ (by omega)
      have e4 : IntKind.i64.wrap (i : Int) = (i : Int) := IntWalk.i64_in _ (by omega)
      have hvr := Cv.vr_lt i t
      have CV := Lib.hid (fun W => refVersion i t W hi4 (by omega))
      have ib := fun W => run_idx (P := Tryd.prog) (sz := 1) Tryd.underlying22 (by kernel_rfl) g5 0 (Cv.vr i t) hvr .i64 W
      simp only [Nat.zero_add, Nat.one_mul] at ib
      have c5 := (q5.cell (Cv.vr i t)).trans (HW.out (Cv.vr i t) hvr)
      obtain ⟨b, off, rfl, hlt2, hcell⟩ := (hr.below hbel).cell8 k hlt
      have hy := HBI.out k
      have hz := HB.out (Cv.vr i t)
      have HE : Hid (Cv.wcT (fun v => ws.getD v 0) l (k + 1) = Cv.wcT (fun v => ws.getD v 0) l k + l.getD k 0 * ws.getD (Cv.vr i t) 0) := by
        unfold Hid
        rw [← hi, ← ht]
        rfl
      generalize Cv.wcT (fun v => ws.getD v 0) l k = m at *
      generalize l.getD k 0 = y at *
      generalize ws.getD (Cv.vr i t) 0 = z at *
      generalize Cv.vr i t = r at *
      have hyz : y * z ≤ 7 := by have := Nat.mul_le_mul hy hz; omega
      obtain ⟨p, hp⟩ : ∃ p, y * z = p := ⟨_, rfl⟩
      have f1 : (y : Int) * (z : Int) = (p : Int) := by rw [← hp]; simp
      have f1w : IntKind.i64.wrap ((y : Int) * (z : Int)) = (p : Int) := by rw [f1]; exact IntWalk.i64_in _ (by omega)
      have f1x : IntKind.i64.wrap (p : Int) = (p : Int) := IntWalk.i64_in _ (by omega)
      have f2w : IntKind.i64.wrap ((m : Int) + (p : Int)) = ((m + p : Nat) : Int) := by rw [IntWalk.i64_in _ (by omega)]; omega
      have f3 : IntKind.i64.wrap (y : Int) = (y : Int) := IntWalk.i64_in _ (by omega)
      rw [hp] at hyz HE
      clear hp hi ht
      go_wp2_with fail
      refine wp_region_noPanic ?_
      refine wp_region_held_drew (S := fun W => W.cell? ⟨b, off + k, none⟩ = some (.int .u8 (y : Int)) ∧ W.cell? ⟨g5, r, none⟩ = some (.int .i64 (z : Int))) (by kernel_rfl) ⟨hcell, c5⟩ (fun hHeld => ?_)
      refine wpAnyH_take (i := 0) (oi := ⟨some 13, _, _, _, _, _⟩) (v := ?_) rfl (by kernel_rfl) (by kernel_rfl) (by kernel_rfl) (fun _ _ _ h => h) (Or.inl ⟨by rfl, ?_⟩) hHeld ?_
      rotate_left
      · intro W hSW; obtain ⟨hSW0, hSW1⟩ := hSW; go_simp; first | done | with_reducible rfl
      (try simp only [Act.put, List.setIfInBounds_toArray, List.set_cons_zero, List.set_cons_succ])
      refine wpAnyH_take (i := 1) (oi := ⟨some 14, _, _, _, _, _⟩) (v := ?_) rfl (by kernel_rfl) (by kernel_rfl) (by kernel_rfl) (fun _ _ _ h => h) (Or.inl ⟨by rfl, ?_⟩) hHeld ?_
      rotate_left
      · intro W hSW; obtain ⟨hSW0, hSW1⟩ := hSW; go_simp; first | done | with_reducible rfl
      (try simp only [Act.put, List.setIfInBounds_toArray, List.set_cons_zero, List.set_cons_succ])
      refine wpAnyH_take (i := 2) (oi := ⟨some 15, _, _, _, _, _⟩) (v := ?_) rfl (by kernel_rfl) (by kernel_rfl) (by kernel_rfl) (fun _ _ _ h => h) (Or.inl ⟨by rfl, ?_⟩) hHeld ?_
      rotate_left
      · intro W hSW; obtain ⟨hSW0, hSW1⟩ := hSW; go_simp; first | done | with_reducible rfl
      (try simp only [Act.put, List.setIfInBounds_toArray, List.set_cons_zero, List.set_cons_succ])
      refine wpAnyH_take (i := 3) (oi := ⟨some 16, _, _, _, _, _⟩) (v := ?_) rfl (by kernel_rfl) (by kernel_rfl) (by kernel_rfl) (fun _ _ _ h => h) (Or.inl ⟨by rfl, ?_⟩) hHeld ?_
      rotate_left
      · intro W hSW; obtain ⟨hSW0, hSW1⟩ := hSW; go_simp; first | done | with_reducible rfl
      (try simp only [Act.put, List.setIfInBounds_toArray, List.set_cons_zero, List.set_cons_succ])
      refine wpAnyH_take (i := 4) (oi := ⟨some 17, _, _, _, _, _⟩) (v := ?_) rfl (by kernel_rfl) (by kernel_rfl) (by kernel_rfl) (fun _ _ _ h => h) (Or.inl ⟨by rfl, ?_⟩) hHeld ?_
      rotate_left
      · intro W hSW; obtain ⟨hSW0, hSW1⟩ := hSW; go_simp; first | done | with_reducible rfl
      (try simp only [Act.put, List.setIfInBounds_toArray, List.set_cons_zero, List.set_cons_succ])
      refine wpAnyH_take (i := 5) (oi := ⟨some 18, _, _, _, _, _⟩) (v := ?_) rfl (by kernel_rfl) (by kernel_rfl) (by kernel_rfl) (fun _ _ _ h => h) (Or.inl ⟨by rfl, ?_⟩) hHeld ?_
      rotate_left
      · intro W hSW; obtain ⟨hSW0, hSW1⟩ := hSW; go_simp; first | done | with_reducible rfl
      (try simp only [Act.put, List.setIfInBounds_toArray, List.set_cons_zero, List.set_cons_succ])
      refine wpAnyH_take (i := 6) (oi := ⟨some 19, _, _, _, _, _⟩) (v := ?_) rfl (by kernel_rfl) (by kernel_rfl) (by kernel_rfl) (fun _ _ _ h => h) (Or.inl ⟨by rfl, ?_⟩) hHeld ?_
      rotate_left
      · intro W hSW; obtain ⟨hSW0, hSW1⟩ := hSW; go_simp; first | done | with_reducible rfl
      (try simp only [Act.put, List.setIfInBounds_toArray, List.set_cons_zero, List.set_cons_succ])
      refine wpAnyH_take (i := 7) (oi := ⟨some 20, _, _, _, _, _⟩) (v := ?_) rfl (by kernel_rfl) (by kernel_rfl) (by kernel_rfl) (fun _ _ _ h => h) (Or.inl ⟨by rfl, ?_⟩) hHeld ?_
      rotate_left
      · intro W hSW; obtain ⟨hSW0, hSW1⟩ := hSW; go_simp; first | done | with_reducible rfl
      (try simp only [Act.put, List.setIfInBounds_toArray, List.set_cons_zero, List.set_cons_succ])
      refine wpAnyH_take (i := 8) (oi := ⟨some 21, _, _, _, _, _⟩) (v := ?_) rfl (by kernel_rfl) (by kernel_rfl) (by kernel_rfl) (fun _ _ _ h => h) (Or.inl ⟨by rfl, ?_⟩) hHeld ?_
      rotate_left
      · intro W hSW; obtain ⟨hSW0, hSW1⟩ := hSW; go_simp; first | done | with_reducible rfl
      (try simp only [Act.put, List.setIfInBounds_toArray, List.set_cons_zero, List.set_cons_succ])
      refine wpAnyH_take (i := 9) (oi := ⟨some 22, _, _, _, _, _⟩) (v := ?_) rfl (by kernel_rfl) (by kernel_rfl) (by kernel_rfl) (fun _ _ _ h => h) (Or.inl ⟨by rfl, ?_⟩) hHeld ?_
      rotate_left
      · intro W hSW; obtain ⟨hSW0, hSW1⟩ := hSW; go_simp; first | done | with_reducible rfl
      (try simp only [Act.put, List.setIfInBounds_toArray, List.set_cons_zero, List.set_cons_succ])
      refine wpAnyH_ready (rs := [10]) (by kernel_rfl) (by simp) ?_
      refine AllReadyH.cons (o := ⟨some 23, _, _, _, _, _⟩) rfl (fun K hK => ?_) (AllReadyH.nil)
      go_simp
      refine (CV.out _).mono ?_
      rintro e W1 ⟨rfl, rfl⟩
      have hH := hHeld
      clear hHeld
      refine hK.out _ _ ?_ (fun hHeld => ?_)
      · exact hH
      clear hK K
      (try simp only [Act.put, List.setIfInBounds_toArray, List.set_cons_zero, List.set_cons_succ])
      refine wpAnyH_take (i := 11) (oi := ⟨some 24, _, _, _, _, _⟩) (v := ?_) rfl (by kernel_rfl) (by kernel_rfl) (by kernel_rfl) (fun _ _ _ h => h) (Or.inl ⟨by rfl, ?_⟩) hHeld ?_
      rotate_left
      · intro W hSW; obtain ⟨hSW0, hSW1⟩ := hSW; go_simp; first | done | with_reducible rfl
      (try simp only [Act.put, List.setIfInBounds_toArray, List.set_cons_zero, List.set_cons_succ])
      refine wpAnyH_take (i := 12) (oi := ⟨some 25, _, _, _, _, _⟩) (v := ?_) rfl (by kernel_rfl) (by kernel_rfl) (by kernel_rfl) (fun _ _ _ h => h) (Or.inl ⟨by rfl, ?_⟩) hHeld ?_
      rotate_left
      · intro W hSW; obtain ⟨hSW0, hSW1⟩ := hSW; go_simp; first | done | with_reducible rfl
      (try simp only [Act.put, List.setIfInBounds_toArray, List.set_cons_zero, List.set_cons_succ])
      refine wpAnyH_take (i := 13) (oi := ⟨some 26, _, _, _, _, _⟩) (v := ?_) rfl (by kernel_rfl) (by kernel_rfl) (by kernel_rfl) (fun _ _ _ h => h) (Or.inl ⟨by rfl, ?_⟩) hHeld ?_
      rotate_left
      · intro W hSW; obtain ⟨hSW0, hSW1⟩ := hSW; go_simp; first | done | with_reducible rfl
      (try simp only [Act.put, List.setIfInBounds_toArray, List.set_cons_zero, List.set_cons_succ])
      refine wpAnyH_take (i := 14) (oi := ⟨some 27, _, _, _, _, _⟩) (v := ?_) rfl (by kernel_rfl) (by kernel_rfl) (by kernel_rfl) (fun _ _ _ h => h) (Or.inl ⟨by rfl, ?_⟩) hHeld ?_
      rotate_left
      · intro W hSW; obtain ⟨hSW0, hSW1⟩ := hSW; go_simp; first | done | with_reducible rfl
      (try simp only [Act.put, List.setIfInBounds_toArray, List.set_cons_zero, List.set_cons_succ])
      refine wpAnyH_take (i := 15) (oi := ⟨some 5, _, _, _, _, _⟩) (v := ?_) rfl (by kernel_rfl) (by kernel_rfl) (by kernel_rfl) (fun _ _ _ h => h) (Or.inl ⟨by rfl, ?_⟩) hHeld ?_
      rotate_left
      · intro W hSW; obtain ⟨hSW0, hSW1⟩ := hSW; go_simp; first | done | with_reducible rfl
      (try simp only [Act.put, List.setIfInBounds_toArray, List.set_cons_zero, List.set_cons_succ])
      refine wpAnyH_done (by kernel_rfl) ?_ _
      refine NoPanic.normal ?_
      go_wp2
      go_roundw
      case rel => exact ⟨k + 1, by omega, by go_num, (by rw [HE.out]; first | rfl | go_num), q5.drew, hbel.drew⟩
      case measure => simp [intOf] <;> omega
    · obtain rfl : n = k := by omega
      go_wp2
      go_ret
      exact ⟨rfl, by rw [HG.out]; exact hbel⟩
end Go.Proofs.YtknfpdlomgllhaaDoor
