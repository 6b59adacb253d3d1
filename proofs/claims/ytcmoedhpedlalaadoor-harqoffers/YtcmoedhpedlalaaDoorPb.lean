/-
  Contracts of layer 12's reference: Right, weigh, Weight.
-/
import Derived.Test.YtcmoedhpedlalaaDoorPa
import Derived.Test.YtcmoedhpedlalaaDoorTz
namespace Go.Proofs.YtcmoedhpedlalaaDoor
open Go.RowKit
set_option maxRecDepth 100000
set_option linter.unusedVariables false
set_option linter.unusedSimpArgs false

/-- Weights as cells. -/
def W4 (ws : List Int) : Array Value := (I64 ws).toArray
theorem W4_size (ws : List Int) : (W4 ws).size = ws.length := by unfold W4; rw [List.size_toArray, I64_length]
theorem W4_one (ws : List Int) : (W4 ws).all (·.oneCell') = true := all_oneCell_toArray (I64_one ws)
theorem W4_get (ws : List Int) (v : Nat) (h : v < ws.length) : (W4 ws)[v]? = some (.int .i64 (ws.getD v 0)) := by
  unfold W4; rw [List.getElem?_toArray, I64_get ws v h]
/-- Natural weights. -/
def nw (ws : List Nat) : List Int := ws.map fun (x : Nat) => (x : Int)
theorem nw_length (ws : List Nat) : (nw ws).length = ws.length := by simp [nw]
theorem nw_get (ws : List Nat) (v : Nat) : (nw ws).getD v 0 = ((ws.getD v 0 : Nat) : Int) := by
  by_cases h : v < ws.length
  · rw [Bm.getD_lt _ _ _ (by rw [nw_length]; exact h), Bm.getD_lt _ _ _ h]; simp [nw]
  · rw [Bm.getD_ge _ _ _ (by rw [nw_length]; omega), Bm.getD_ge _ _ _ (by omega)]; rfl
/-- May weights be? -/
def inW (ws : List Int) : Bool := ws.all fun z => decide (0 ≤ z ∧ z ≤ 7)
theorem inW_of_getD {ws : List Int} (h : ∀ i, i < ws.length → 0 ≤ ws.getD i 0 ∧ ws.getD i 0 ≤ 7) : inW ws = true := by
  refine List.all_eq_true.2 fun z hz => ?_
  obtain ⟨i, hi, rfl⟩ := List.getElem_of_mem hz
  have := h i hi
  rw [Bm.getD_lt _ _ _ hi] at this
  simpa using this
theorem inW_false {ws : List Int} (i : Nat) (hi : i < ws.length) (h : ¬ (0 ≤ ws.getD i 0 ∧ ws.getD i 0 ≤ 7)) : inW ws = false := by
  rw [Bool.eq_false_iff]
  intro hc
  have := List.all_eq_true.1 hc _ (List.getElem_mem hi)
  rw [Bm.getD_lt _ _ _ hi] at h
  exact h (by simpa using this)
theorem info4w : (Tryd.prog.info? 45).map (·.size) = some 4 := by kernel_rfl

/-- What the first streams of an edge weigh. -/
def eT (ws : List Nat) (t s x : Nat) : Nat → Nat
  | 0 => 0
  | k + 1 => eT ws t s x k + Cv.out s x k * ws.getD (Cv.vr k t) 0
theorem eT_four (ws : List Nat) (t s x : Nat) : eT ws t s x 4 = Cv.ew (fun v => ws.getD v 0) t s x := by
  show 0 + _ + _ + _ + _ = _
  rw [Nat.zero_add]
  rfl
theorem getD_seven (ws : List Nat) (h : ∀ y ∈ ws, y ≤ 7) (v : Nat) : ws.getD v 0 ≤ 7 := by
  by_cases hv : v < ws.length
  · rw [Bm.getD_lt _ _ _ hv]; exact h _ (List.getElem_mem hv)
  · rw [Bm.getD_ge _ _ _ (by omega)]; omega
theorem eT_le (ws : List Nat) (h : ∀ y ∈ ws, y ≤ 7) (t s x : Nat) : ∀ k, eT ws t s x k ≤ 7 * k
  | 0 => by simp [eT]
  | k + 1 => by
    have h1 := eT_le ws h t s x k
    have h2 := Nat.mul_le_mul (Cv.out_bit s x k) (getD_seven ws h (Cv.vr k t))
    show eT ws t s x k + _ ≤ _
    omega
set_option maxHeartbeats 400000 in
set_option maxRecDepth 100000 in
/-- The reference's weigh. -/
theorem weighC (s x t : Nat) (ws : List Nat) (w : World) (hl : ws.length = 4) (hb : ∀ y ∈ ws, y ≤ 7) (ht : t ≤ 1000000) :
    Calls Tryd.prog 64 #[.agg (E7 s x), .int .i64 (t : Int), .agg (W4 (nw ws))] w fun e w' => e = .returned (.int .i64 (Cv.ew (fun v => ws.getD v 0) t s x : Nat)) ∧ Below w.heap.size w w' := by
  have HO : Hid (∀ k, k < 4 → (E7 s x)[3 + k]? = some (.int .u8 (Cv.out s x k : Nat))) := fun k hk => by
    have h4 : k = 0 ∨ k = 1 ∨ k = 2 ∨ k = 3 := by omega
    rcases h4 with rfl | rfl | rfl | rfl <;> rfl
  have HW : Hid (∀ v, v < 4 → (W4 (nw ws))[v]? = some (.int .i64 ((ws.getD v 0 : Nat) : Int))) := fun v hv => by
    rw [W4_get _ v (by rw [nw_length, hl]; exact hv), nw_get]
  have HLE := Lib.hid (eT_le ws hb t s x)
  have HB := Lib.hid (getD_seven ws hb)
  have H4 := Lib.hid (eT_four ws t s x)
  clear hb hl
  go_enter Tryd.func64, Tryd.ntmps64
  generalize E7 s x = E at *
  generalize W4 (nw ws) = Z at *
  go_wp2_with (first | (refine at_box rfl 101 _ rfl E rfl ?_; intro w1 h1) | (refine at_box rfl 45 _ rfl Z rfl ?_; intro w2 h2))
  have q3 := h1.row.after h2.bel
  have q5 := h2.row
  have b2 := Below.then_ h1.bel h2.bel
  have hg : w.heap.size < w1.heap.size := by rw [h1.size]; omega
  generalize hg3 : w.heap.size = g3 at *
  generalize w1.heap.size = g5 at *
  have HG := Lib.hid hg3
  clear hg3 h1 h2
  go_loopw [7, 8] (fun n i wr => ∃ k : Nat, k ≤ 4 ∧ i = .int .i64 k ∧ n = .int .i64 (eT ws t s x k : Nat) ∧ Blk wr g3 101 E ∧ Blk wr g5 45 Z ∧ Below g3 w wr) (fun _ i _ => 4 - (intOf i).toNat)
  case atStart => exact ⟨0, by omega, rfl, rfl, q3, q5, b2⟩
  case round =>
    clear q3 q5 b2
    obtain ⟨k, hk, rfl, rfl, q3, q5, hbel⟩ := hrel
    have hle := HLE.out k
    by_cases hlt : k < 4
    · have hvr := Cv.vr_lt k t
      have CV := Lib.hid (fun W => refVersion k t W hlt (by omega))
      have ia := fun W => run_idx (P := Tryd.prog) (sz := 1) Tryd.underlying99 (by kernel_rfl) g3 3 k hlt .i64 W
      have ib := fun W => run_idx (P := Tryd.prog) (sz := 1) Tryd.underlying45 (by kernel_rfl) g5 0 (Cv.vr k t) hvr .i64 W
      simp only [Nat.zero_add, Nat.one_mul] at ia ib
      have c3 := (q3.cell (3 + k)).trans (HO.out k hlt)
      have c5 := (q5.cell (Cv.vr k t)).trans (HW.out (Cv.vr k t) hvr)
      have hy := Cv.out_bit s x k
      have hz := HB.out (Cv.vr k t)
      have HE : Hid (eT ws t s x (k + 1) = eT ws t s x k + Cv.out s x k * ws.getD (Cv.vr k t) 0) := rfl
      generalize eT ws t s x k = n at *
      generalize Cv.out s x k = y at *
      generalize ws.getD (Cv.vr k t) 0 = z at *
      generalize Cv.vr k t = r at *
      have hyz : y * z ≤ 7 := by have := Nat.mul_le_mul hy hz; omega
      obtain ⟨p, hp⟩ : ∃ p, y * z = p := ⟨_, rfl⟩
      have f1 : (y : Int) * (z : Int) = (p : Int) := by rw [← hp]; simp
      have f1w : IntKind.i64.wrap ((y : Int) * (z : Int)) = (p : Int) := by rw [f1]; exact IntWalk.i64_in _ (by omega)
      have f1x : IntKind.i64.wrap (p : Int) = (p : Int) := IntWalk.i64_in _ (by omega)
      have f2w : IntKind.i64.wrap ((n : Int) + (p : Int)) = ((n + p : Nat) : Int) := by rw [IntWalk.i64_in _ (by omega)]; omega
      have f3 : IntKind.i64.wrap (y : Int) = (y : Int) := IntWalk.i64_in _ (by omega)
      rw [hp] at hyz HE
      clear hp
      go_wp2_with fail
      refine wp_region_noPanic ?_
      refine wp_region_held_drew (S := fun W => W.cell? ⟨g3, 3 + k, none⟩ = some (.int .u8 (y : Int)) ∧ W.cell? ⟨g5, r, none⟩ = some (.int .i64 (z : Int))) (by kernel_rfl) ⟨c3, c5⟩ (fun hHeld => ?_)
      refine wpAnyH_take (i := 0) (oi := ⟨some 13, _, _, _, _, _⟩) (v := ?_) rfl (by kernel_rfl) (by kernel_rfl) (by kernel_rfl) (fun _ _ _ h => h) (Or.inl ⟨by rfl, ?_⟩) hHeld ?_
      rotate_left
      · intro W hSW; obtain ⟨hSW0, hSW1⟩ := hSW; go_simp; first | done | with_reducible rfl
      (try simp only [Act.put, List.setIfInBounds_toArray, List.set_cons_zero, List.set_cons_succ])
      refine wpAnyH_take (i := 1) (oi := ⟨some 14, _, _, _, _, _⟩) (v := ?_) rfl (by kernel_rfl) (by kernel_rfl) (by kernel_rfl) (fun _ _ _ h => h) (Or.inl ⟨by rfl, ?_⟩) hHeld ?_
      rotate_left
      · intro W hSW; obtain ⟨hSW0, hSW1⟩ := hSW; go_simp; first | done | with_reducible rfl
      (try simp only [Act.put, List.setIfInBounds_toArray, List.set_cons_zero, List.set_cons_succ])
      refine wpAnyH_take (i := 2) (oi := ⟨some 15, _, _, _, _, _⟩) (v := ?_) rfl (by kernel_rfl) (by kernel_rfl) (by kernel_rfl) (fun _ _ _ h => h) (Or.inl ⟨by rfl, ?_⟩) hHeld ?_
      rotate_left
      · intro W hSW; obtain ⟨hSW0, hSW1⟩ := hSW; go_simp; first | done | with_reducible rfl
      (try simp only [Act.put, List.setIfInBounds_toArray, List.set_cons_zero, List.set_cons_succ])
      refine wpAnyH_take (i := 3) (oi := ⟨some 16, _, _, _, _, _⟩) (v := ?_) rfl (by kernel_rfl) (by kernel_rfl) (by kernel_rfl) (fun _ _ _ h => h) (Or.inl ⟨by rfl, ?_⟩) hHeld ?_
      rotate_left
      · intro W hSW; obtain ⟨hSW0, hSW1⟩ := hSW; go_simp; first | done | with_reducible rfl
      (try simp only [Act.put, List.setIfInBounds_toArray, List.set_cons_zero, List.set_cons_succ])
      refine wpAnyH_take (i := 4) (oi := ⟨some 17, _, _, _, _, _⟩) (v := ?_) rfl (by kernel_rfl) (by kernel_rfl) (by kernel_rfl) (fun _ _ _ h => h) (Or.inl ⟨by rfl, ?_⟩) hHeld ?_
      rotate_left
      · intro W hSW; obtain ⟨hSW0, hSW1⟩ := hSW; go_simp; first | done | with_reducible rfl
      (try simp only [Act.put, List.setIfInBounds_toArray, List.set_cons_zero, List.set_cons_succ])
      refine wpAnyH_take (i := 5) (oi := ⟨some 18, _, _, _, _, _⟩) (v := ?_) rfl (by kernel_rfl) (by kernel_rfl) (by kernel_rfl) (fun _ _ _ h => h) (Or.inl ⟨by rfl, ?_⟩) hHeld ?_
      rotate_left
      · intro W hSW; obtain ⟨hSW0, hSW1⟩ := hSW; go_simp; first | done | with_reducible rfl
      (try simp only [Act.put, List.setIfInBounds_toArray, List.set_cons_zero, List.set_cons_succ])
      refine wpAnyH_take (i := 6) (oi := ⟨some 19, _, _, _, _, _⟩) (v := ?_) rfl (by kernel_rfl) (by kernel_rfl) (by kernel_rfl) (fun _ _ _ h => h) (Or.inl ⟨by rfl, ?_⟩) hHeld ?_
      rotate_left
      · intro W hSW; obtain ⟨hSW0, hSW1⟩ := hSW; go_simp; first | done | with_reducible rfl
      (try simp only [Act.put, List.setIfInBounds_toArray, List.set_cons_zero, List.set_cons_succ])
      refine wpAnyH_take (i := 7) (oi := ⟨some 20, _, _, _, _, _⟩) (v := ?_) rfl (by kernel_rfl) (by kernel_rfl) (by kernel_rfl) (fun _ _ _ h => h) (Or.inl ⟨by rfl, ?_⟩) hHeld ?_
      rotate_left
      · intro W hSW; obtain ⟨hSW0, hSW1⟩ := hSW; go_simp; first | done | with_reducible rfl
      (try simp only [Act.put, List.setIfInBounds_toArray, List.set_cons_zero, List.set_cons_succ])
      refine wpAnyH_ready (rs := [8]) (by kernel_rfl) (by simp) ?_
      refine AllReadyH.cons (o := ⟨some 21, _, _, _, _, _⟩) rfl (fun K hK => ?_) (AllReadyH.nil)
      go_simp
      refine (CV.out _).mono ?_
      rintro e W1 ⟨rfl, rfl⟩
      have hH := hHeld
      clear hHeld
      refine hK.out _ _ ?_ (fun hHeld => ?_)
      · exact hH
      clear hK K
      (try simp only [Act.put, List.setIfInBounds_toArray, List.set_cons_zero, List.set_cons_succ])
      refine wpAnyH_take (i := 9) (oi := ⟨some 22, _, _, _, _, _⟩) (v := ?_) rfl (by kernel_rfl) (by kernel_rfl) (by kernel_rfl) (fun _ _ _ h => h) (Or.inl ⟨by rfl, ?_⟩) hHeld ?_
      rotate_left
      · intro W hSW; obtain ⟨hSW0, hSW1⟩ := hSW; go_simp; first | done | with_reducible rfl
      (try simp only [Act.put, List.setIfInBounds_toArray, List.set_cons_zero, List.set_cons_succ])
      refine wpAnyH_take (i := 10) (oi := ⟨some 23, _, _, _, _, _⟩) (v := ?_) rfl (by kernel_rfl) (by kernel_rfl) (by kernel_rfl) (fun _ _ _ h => h) (Or.inl ⟨by rfl, ?_⟩) hHeld ?_
      rotate_left
      · intro W hSW; obtain ⟨hSW0, hSW1⟩ := hSW; go_simp; first | done | with_reducible rfl
      (try simp only [Act.put, List.setIfInBounds_toArray, List.set_cons_zero, List.set_cons_succ])
      refine wpAnyH_take (i := 11) (oi := ⟨some 24, _, _, _, _, _⟩) (v := ?_) rfl (by kernel_rfl) (by kernel_rfl) (by kernel_rfl) (fun _ _ _ h => h) (Or.inl ⟨by rfl, ?_⟩) hHeld ?_
      rotate_left
      · intro W hSW; obtain ⟨hSW0, hSW1⟩ := hSW; go_simp; first | done | with_reducible rfl
      (try simp only [Act.put, List.setIfInBounds_toArray, List.set_cons_zero, List.set_cons_succ])
      refine wpAnyH_take (i := 12) (oi := ⟨some 25, _, _, _, _, _⟩) (v := ?_) rfl (by kernel_rfl) (by kernel_rfl) (by kernel_rfl) (fun _ _ _ h => h) (Or.inl ⟨by rfl, ?_⟩) hHeld ?_
      rotate_left
      · intro W hSW; obtain ⟨hSW0, hSW1⟩ := hSW; go_simp; first | done | with_reducible rfl
      (try simp only [Act.put, List.setIfInBounds_toArray, List.set_cons_zero, List.set_cons_succ])
      refine wpAnyH_take (i := 13) (oi := ⟨some 7, _, _, _, _, _⟩) (v := ?_) rfl (by kernel_rfl) (by kernel_rfl) (by kernel_rfl) (fun _ _ _ h => h) (Or.inl ⟨by rfl, ?_⟩) hHeld ?_
      rotate_left
      · intro W hSW; obtain ⟨hSW0, hSW1⟩ := hSW; go_simp; first | done | with_reducible rfl
      (try simp only [Act.put, List.setIfInBounds_toArray, List.set_cons_zero, List.set_cons_succ])
      refine wpAnyH_done (by kernel_rfl) ?_ _
      refine NoPanic.normal ?_
      go_wp2
      go_roundw
      case rel => exact ⟨k + 1, by omega, by go_num, (by rw [HE.out]; first | rfl | go_num), q3.drew, q5.drew, hbel.drew⟩
      case measure => simp [intOf] <;> omega
    · obtain rfl : k = 4 := by omega
      rw [H4.out]
      go_wp2
      go_ret
      exact ⟨rfl, by rw [HG.out]; exact hbel⟩
end Go.Proofs.YtcmoedhpedlalaaDoor
