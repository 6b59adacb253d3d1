/-
  Tables of ways as lists of numbers: what a pass over all edges keeps. No function of the program is named.
-/
import Derived.Test.YtknfpdlomgllhaaDoorPb
namespace Go.Proofs.YtknfpdlomgllhaaDoor
open Go.RowKit
set_option maxRecDepth 100000
set_option linter.unusedVariables false

theorem W4nw_get (A : List Nat) (j : Nat) (h : j < A.length) : (W4 (nw A))[j]? = some (.int .i64 ((A.getD j 0 : Nat) : Int)) := by
  rw [W4_get _ j (by rw [nw_length]; exact h), nw_get]
theorem W4nw_set (A : List Nat) (j n : Nat) : (W4 (nw A)).setIfInBounds j (.int .i64 (n : Int)) = W4 (nw (A.set j n)) := by
  unfold W4 nw I64
  simp [List.map_set]
theorem W4nw_size (A : List Nat) : (W4 (nw A)).size = A.length := by rw [W4_size, nw_length]
theorem sum_set : ∀ (A : List Nat) (j n : Nat), j < A.length → (A.set j n).sum + A.getD j 0 = A.sum + n
  | [], j, n, h => by simp at h
  | a :: A, 0, n, _ => by
    show n + A.sum + a = a + A.sum + n
    omega
  | a :: A, j + 1, n, h => by
    have ih := sum_set A j n (by simpa using h)
    show a + (A.set j n).sum + A.getD j 0 = a + A.sum + n
    omega
/-- The sum of a block's numbers. -/
def bsum (w : World) (g : Nat) : Nat := match w.heap[g]? with
  | some (.cells cs _ _) => (cs.toList.map fun v => (intOf v).toNat).sum
  | _ => 0
theorem bsum_blk {w : World} {g : Nat} {t : TypeId} {A : List Nat} (h : Blk w g t (W4 (nw A))) : bsum w g = A.sum := by
  unfold Blk at h
  unfold bsum
  rw [h]
  show ((W4 (nw A)).toList.map fun v => (intOf v).toNat).sum = A.sum
  unfold W4 nw I64
  rw [List.map_map, List.map_map]
  congr 1
  exact (List.map_congr_left fun a _ => by simp [intOf]).trans (List.map_id A)
/-- A table of ways. -/
structure Tab (u : Nat → Nat) (A : List Nat) : Prop where
  len : A.length = 256
  le : ∀ j, A.getD j 0 ≤ 1073741824
  cm : ∀ s t, s < 64 → t < 4 → Cv.Cm u 1073741824 s t (A.getD (4 * s + t) 0)
theorem Tab.set {u : Nat → Nat} {A : List Nat} (h : Tab u A) (s t n : Nat) (hs : s < 64) (ht : t < 4) (hle : n ≤ 1073741824) (hc : Cv.Cm u 1073741824 s t n) : Tab u (A.set (4 * s + t) n) := by
  have hl : 4 * s + t < A.length := by rw [h.len]; omega
  refine ⟨by rw [List.length_set]; exact h.len, fun j => ?_, fun s' t' hs' ht' => ?_⟩
  · rw [Bm.set_getD A _ n j hl]
    split
    · exact hle
    · exact h.le j
  · rw [Bm.set_getD A _ n _ hl]
    split
    · rename_i e
      have e1 : s' = s := by omega
      have e2 : t' = t := by omega
      rw [e1, e2]
      exact hc
    · exact h.cm s' t' hs' ht'
theorem tab_far (u : Nat → Nat) : Tab u (List.replicate 256 1073741824) := by
  have e : ∀ j, (List.replicate 256 1073741824).getD j 0 = if j < 256 then 1073741824 else 0 := by
    intro j
    by_cases h : j < 256
    · rw [if_pos h, Bm.getD_lt _ _ _ (by rw [List.length_replicate]; exact h), List.getElem_replicate]
    · rw [if_neg h, Bm.getD_ge _ _ _ (by rw [List.length_replicate]; omega)]
  refine ⟨List.length_replicate .., fun j => ?_, fun s t hs ht => .inl ?_⟩
  · rw [e]; split <;> omega
  · rw [e, if_pos (by omega)]
/-- The first edges are in it, up to step t. -/
def Fst (u : Nat → Nat) (A : List Nat) (k : Nat) : Prop := ∀ t, t < k → A.getD (128 + (t + 1) % 4) 0 ≤ Cv.ew u t 0 1
theorem Fst.next {u : Nat → Nat} {A : List Nat} {t n : Nat} (h : Fst u A t) (ht : t < 4) (hl : A.length = 256) (hn : n ≤ Cv.ew u t 0 1) : Fst u (A.set (128 + (t + 1) % 4) n) (t + 1) := by
  intro t' ht'
  rw [Bm.set_getD A _ n _ (by rw [hl]; omega)]
  by_cases e : t' = t
  · subst e
    rw [if_pos rfl]
    exact hn
  · rw [if_neg (by omega)]
    exact h t' (by omega)
theorem Fst.less {u : Nat → Nat} {A : List Nat} {j n : Nat} (h : Fst u A 4) (hj : j < A.length) (hn : n ≤ A.getD j 0) : Fst u (A.set j n) 4 := by
  intro t ht
  have := h t ht
  rw [Bm.set_getD A _ n _ hj]
  split
  · rename_i e
    rw [← e] at this
    omega
  · exact this
/-- No way by an edge is shorter. -/
def Rlx (u : Nat → Nat) (A : List Nat) (B s t x : Nat) : Prop := (Cv.nx s x ≠ 0 → A.getD (4 * Cv.nx s x + (t + 1) % 4) 0 ≤ A.getD (4 * s + t) 0 + Cv.ew u t s x) ∧ (Cv.nx s x = 0 → B ≤ A.getD (4 * s + t) 0 + Cv.ew u t s x)
/-- A pass over the first edges. -/
structure Pass (u : Nat → Nat) (A0 A : List Nat) (B : Nat) (c : Bool) (p : Nat) : Prop where
  tab : Tab u A
  fst : Fst u A 4
  ble : B ≤ 1073741824
  cb : Cv.Cb u 1073741824 B
  sum : A.sum ≤ A0.sum
  less : c = true → A.sum < A0.sum
  rlx : c = false → ∀ s t x, 0 < s → s < 64 → t < 4 → x ≤ 1 → 8 * s + 2 * t + x < p → Rlx u A B s t x
theorem Pass.skip {u : Nat → Nat} {A0 A : List Nat} {B : Nat} {c : Bool} {s t : Nat} (h : Pass u A0 A B c (8 * s + 2 * t)) (ha : A.getD (4 * s + t) 0 = 1073741824) (ht : t < 4) : Pass u A0 A B c (8 * s + 2 * (t + 1)) :=
  ⟨h.tab, h.fst, h.ble, h.cb, h.sum, h.less, fun hc s' t' x' h1 h2 h3 h4 h5 => by
    by_cases e : 8 * s' + 2 * t' + x' < 8 * s + 2 * t
    · exact h.rlx hc s' t' x' h1 h2 h3 h4 e
    · have e1 : s' = s := by omega
      have e2 : t' = t := by omega
      subst e1 e2
      unfold Rlx
      rw [ha]
      exact ⟨fun _ => Nat.le_trans (h.tab.le _) (Nat.le_add_right _ _), fun _ => Nat.le_trans h.ble (Nat.le_add_right _ _)⟩⟩
theorem Pass.zero {u : Nat → Nat} {A0 A : List Nat} {B : Nat} {c : Bool} {s t x : Nat} (h : Pass u A0 A B c (8 * s + 2 * t + x)) (hs0 : 0 < s) (hs : s < 64) (ht : t < 4) (hx : x ≤ 1) (ha : A.getD (4 * s + t) 0 ≠ 1073741824) (hz : Cv.nx s x = 0) : Pass u A0 A (min B (A.getD (4 * s + t) 0 + Cv.ew u t s x)) c (8 * s + 2 * t + (x + 1)) := by
  have hb := h.ble
  refine ⟨h.tab, h.fst, by omega, ?_, h.sum, h.less, fun hc s' t' x' h1 h2 h3 h4 h5 => ?_⟩
  · rcases Nat.le_total B (A.getD (4 * s + t) 0 + Cv.ew u t s x) with hle | hle
    · rw [Nat.min_eq_left hle]; exact h.cb
    · rw [Nat.min_eq_right hle]; exact (h.tab.cm s t hs ht).back ha x hx hz
  · by_cases e : 8 * s' + 2 * t' + x' < 8 * s + 2 * t + x
    · have := h.rlx hc s' t' x' h1 h2 h3 h4 e
      exact ⟨this.1, fun h0 => Nat.le_trans (Nat.min_le_left _ _) (this.2 h0)⟩
    · have e1 : s' = s := by omega
      have e2 : t' = t := by omega
      have e3 : x' = x := by omega
      subst e1 e2 e3
      exact ⟨fun h0 => absurd hz h0, fun _ => Nat.min_le_right _ _⟩
theorem Pass.keep {u : Nat → Nat} {A0 A : List Nat} {B : Nat} {c : Bool} {s t x : Nat} (h : Pass u A0 A B c (8 * s + 2 * t + x)) (ht : t < 4) (hx : x ≤ 1) (hz : Cv.nx s x ≠ 0) (hn : A.getD (4 * Cv.nx s x + (t + 1) % 4) 0 ≤ A.getD (4 * s + t) 0 + Cv.ew u t s x) : Pass u A0 A B c (8 * s + 2 * t + (x + 1)) :=
  ⟨h.tab, h.fst, h.ble, h.cb, h.sum, h.less, fun hc s' t' x' h1 h2 h3 h4 h5 => by
    by_cases e : 8 * s' + 2 * t' + x' < 8 * s + 2 * t + x
    · exact h.rlx hc s' t' x' h1 h2 h3 h4 e
    · have e1 : s' = s := by omega
      have e2 : t' = t := by omega
      have e3 : x' = x := by omega
      subst e1 e2 e3
      exact ⟨fun _ => hn, fun h0 => absurd h0 hz⟩⟩
theorem Pass.less_ {u : Nat → Nat} {A0 A : List Nat} {B : Nat} {c : Bool} {s t x : Nat} (h : Pass u A0 A B c (8 * s + 2 * t + x)) (hs : s < 64) (ht : t < 4) (hx : x ≤ 1) (ha : A.getD (4 * s + t) 0 ≠ 1073741824) (hn : A.getD (4 * s + t) 0 + Cv.ew u t s x < A.getD (4 * Cv.nx s x + (t + 1) % 4) 0) :
    Pass u A0 (A.set (4 * Cv.nx s x + (t + 1) % 4) (A.getD (4 * s + t) 0 + Cv.ew u t s x)) B true (8 * s + 2 * t + (x + 1)) := by
  have hnx := Cv.nx_lt s x hs hx
  have hl : 4 * Cv.nx s x + (t + 1) % 4 < A.length := by rw [h.tab.len]; omega
  have hle := h.tab.le (4 * Cv.nx s x + (t + 1) % 4)
  have hss := sum_set A _ (A.getD (4 * s + t) 0 + Cv.ew u t s x) hl
  have hsm := h.sum
  refine ⟨h.tab.set _ _ _ hnx (by omega) (by omega) ((h.tab.cm s t hs ht).next ha x hx), h.fst.less hl (by omega), h.ble, h.cb, by omega, fun _ => by omega, fun hc => by cases hc⟩
/-- A pass that changed nothing. -/
theorem Pass.fix {u : Nat → Nat} {A0 A : List Nat} {B : Nat} {c : Bool} (h : Pass u A0 A B c 512) (hc : c = false) : Cv.Fix u (fun s t => A.getD (4 * s + t) 0) B := by
  refine ⟨fun t ht => ?_, fun s h1 h2 t h3 x h4 h5 => (h.rlx hc s t x h1 h2 h3 h4 (by omega)).1 h5, fun s h1 h2 t h3 x h4 h5 => (h.rlx hc s t x h1 h2 h3 h4 (by omega)).2 h5⟩
  exact h.fst t ht
end Go.Proofs.YtknfpdlomgllhaaDoor
