/-
  Tables of ways by place (64 * phase + state), all hops in one row: what a pass over all hops keeps. No function of the program is named.
-/
import Derived.Test.YtknfpdlomgllhaaDoorPt
namespace Go.Proofs.YtknfpdlomgllhaaDoor
open Go.RowKit
set_option maxRecDepth 100000
set_option linter.unusedVariables false

/-- A table of ways. -/
structure T2 (u : Nat → Nat) (A : List Nat) : Prop where
  len : A.length = 256
  le : ∀ j, A.getD j 0 ≤ 7169
  cm : ∀ s t, s < 64 → t < 4 → Cv.Cm u 7169 s t (A.getD (64 * t + s) 0)
theorem T2.set {u : Nat → Nat} {A : List Nat} (h : T2 u A) (s t n : Nat) (hs : s < 64) (ht : t < 4) (hle : n ≤ 7169) (hc : Cv.Cm u 7169 s t n) : T2 u (A.set (64 * t + s) n) := by
  have hl : 64 * t + s < A.length := by rw [h.len]; omega
  refine ⟨by rw [List.length_set]; exact h.len, fun j => ?_, fun s' t' hs' ht' => ?_⟩
  · rw [Bm.set_getD A _ n j hl]
    split
    · exact hle
    · exact h.le j
  · rw [Bm.set_getD A _ n _ hl]
    split
    · rename_i e
      have e1 : s' = s := by omega
      have e2 : t' = t := by omega
      rw [e1, e2]
      exact hc
    · exact h.cm s' t' hs' ht'
theorem t2_far (u : Nat → Nat) : T2 u (List.replicate 256 7169) := by
  have e : ∀ j, (List.replicate 256 7169).getD j 0 = if j < 256 then 7169 else 0 := by
    intro j
    by_cases h : j < 256
    · rw [if_pos h, Bm.getD_lt _ _ _ (by rw [List.length_replicate]; exact h), List.getElem_replicate]
    · rw [if_neg h, Bm.getD_ge _ _ _ (by rw [List.length_replicate]; omega)]
  refine ⟨List.length_replicate .., fun j => ?_, fun s t hs ht => .inl ?_⟩
  · rw [e]; split <;> omega
  · rw [e, if_pos (by omega)]
/-- The first edges are in it, up to step k. -/
def F2 (u : Nat → Nat) (A : List Nat) (k : Nat) : Prop := ∀ t, t < k → A.getD (64 * ((t + 1) % 4) + 32) 0 ≤ Cv.ew u t 0 1
theorem F2.next {u : Nat → Nat} {A : List Nat} {t : Nat} (h : F2 u A t) (ht : t < 4) (hl : A.length = 256) : F2 u (A.set (64 * ((t + 1) % 4) + 32) (Cv.ew u t 0 1)) (t + 1) := by
  intro t' ht'
  rw [Bm.set_getD A _ _ _ (by rw [hl]; omega)]
  by_cases e : t' = t
  · subst e
    rw [if_pos rfl]
    exact Nat.le_refl _
  · rw [if_neg (by omega)]
    exact h t' (by omega)
theorem F2.less {u : Nat → Nat} {A : List Nat} {j n : Nat} (h : F2 u A 4) (hj : j < A.length) (hn : n ≤ A.getD j 0) : F2 u (A.set j n) 4 := by
  intro t ht
  have := h t ht
  rw [Bm.set_getD A _ n _ hj]
  split
  · rename_i e
    rw [← e] at this
    omega
  · exact this
theorem T2.first {u : Nat → Nat} {A : List Nat} (h : T2 u A) (t : Nat) (ht : t < 4) (hu : ∀ v, v < 4 → u v ≤ 7) : T2 u (A.set (64 * ((t + 1) % 4) + 32) (Cv.ew u t 0 1)) :=
  h.set 32 ((t + 1) % 4) _ (by omega) (by omega) (by have := Cv.ew_bound hu t 0 1; omega) (Cv.Cm.one u 7169 t)
/-- A hop's phase, state and bit; where it comes from, where it leads to, its weight. -/
def hpT (i : Nat) : Nat := i / 126
def hpS (i : Nat) : Nat := 1 + i % 126 / 2
def hpX (i : Nat) : Nat := i % 2
def hpF (i : Nat) : Nat := 64 * hpT i + hpS i
def hpG (i : Nat) : Nat := 64 * ((hpT i + 1) % 4) + Cv.nx (hpS i) (hpX i)
def hpW (u : Nat → Nat) (i : Nat) : Nat := Cv.ew u (hpT i) (hpS i) (hpX i)
theorem hp_bounds (i : Nat) (hi : i < 504) : hpT i < 4 ∧ 0 < hpS i ∧ hpS i < 64 ∧ hpX i ≤ 1 := by unfold hpT hpS hpX; omega
theorem hpF_lt (i : Nat) (hi : i < 504) : hpF i < 256 := by have := hp_bounds i hi; unfold hpF; omega
theorem hpG_lt (i : Nat) (hi : i < 504) : hpG i < 256 := by
  obtain ⟨h1, h2, h3, h4⟩ := hp_bounds i hi
  have := Cv.nx_lt (hpS i) (hpX i) h3 h4
  unfold hpG
  omega
theorem hp_of (t s x : Nat) (ht : t < 4) (h0 : 0 < s) (hs : s < 64) (hx : x ≤ 1) : hpT (126 * t + 2 * (s - 1) + x) = t ∧ hpS (126 * t + 2 * (s - 1) + x) = s ∧ hpX (126 * t + 2 * (s - 1) + x) = x ∧ 126 * t + 2 * (s - 1) + x < 504 := by
  unfold hpT hpS hpX
  omega
/-- No way by a hop is shorter. -/
def R2 (u : Nat → Nat) (A : List Nat) (i : Nat) : Prop := A.getD (hpG i) 0 ≤ A.getD (hpF i) 0 + hpW u i
/-- A pass over the first hops. -/
structure Pass2 (u : Nat → Nat) (A0 A : List Nat) (c : Bool) (k : Nat) : Prop where
  tab : T2 u A
  fst : F2 u A 4
  or_ : (c = false ∧ A = A0 ∧ ∀ i, i < k → R2 u A i) ∨ (c = true ∧ A.sum < A0.sum)
theorem Pass2.start {u : Nat → Nat} {A : List Nat} (h : T2 u A) (hf : F2 u A 4) : Pass2 u A A false 0 := ⟨h, hf, .inl ⟨rfl, rfl, fun i hi => by omega⟩⟩
theorem Pass2.keep {u : Nat → Nat} {A0 A : List Nat} {c : Bool} {k : Nat} (h : Pass2 u A0 A c k) (hn : ¬ A.getD (hpF k) 0 + hpW u k < A.getD (hpG k) 0) : Pass2 u A0 A c (k + 1) := by
  refine ⟨h.tab, h.fst, ?_⟩
  rcases h.or_ with ⟨h1, h2, h3⟩ | h1
  · refine .inl ⟨h1, h2, fun i hi => ?_⟩
    by_cases e : i = k
    · subst e; unfold R2; omega
    · exact h3 i (by omega)
  · exact .inr h1
theorem Pass2.less {u : Nat → Nat} {A0 A : List Nat} {c : Bool} {k : Nat} (h : Pass2 u A0 A c k) (hk : k < 504) (hn : A.getD (hpF k) 0 + hpW u k < A.getD (hpG k) 0) : Pass2 u A0 (A.set (hpG k) (A.getD (hpF k) 0 + hpW u k)) true (k + 1) := by
  obtain ⟨h1, h2, h3, h4⟩ := hp_bounds k hk
  have hnx := Cv.nx_lt (hpS k) (hpX k) h3 h4
  have hl : hpG k < A.length := by rw [h.tab.len]; exact hpG_lt k hk
  have hle := h.tab.le (hpG k)
  have hss := sum_set A _ (A.getD (hpF k) 0 + hpW u k) hl
  have hcm := (h.tab.cm (hpS k) (hpT k) h3 h1).next (x := hpX k) (by show A.getD (hpF k) 0 ≠ 7169; omega) h4
  refine ⟨h.tab.set _ _ _ hnx (by omega) (by omega) hcm, h.fst.less hl (by omega), .inr ⟨rfl, ?_⟩⟩
  rcases h.or_ with ⟨_, e, _⟩ | ⟨_, e⟩
  · rw [e] at hss hn ⊢; omega
  · omega
/-- The least at the end, of the first phases. -/
def Mn2 (A : List Nat) (b k : Nat) : Prop := (b = 7169 ∨ ∃ t, t < k ∧ b = A.getD (64 * t) 0) ∧ b ≤ 7169 ∧ ∀ t, t < k → b ≤ A.getD (64 * t) 0
theorem Mn2.next {A : List Nat} {b k : Nat} (h : Mn2 A b k) : Mn2 A (min b (A.getD (64 * k) 0)) (k + 1) := by
  obtain ⟨h1, h2, h3⟩ := h
  refine ⟨?_, by omega, fun t ht => ?_⟩
  · rcases Nat.le_total b (A.getD (64 * k) 0) with hle | hle
    · rw [Nat.min_eq_left hle]
      rcases h1 with h1 | ⟨t, ht, e⟩
      · exact .inl h1
      · exact .inr ⟨t, by omega, e⟩
    · rw [Nat.min_eq_right hle]
      exact .inr ⟨k, by omega, rfl⟩
  · by_cases e : t = k
    · subst e; exact Nat.min_le_right _ _
    · exact Nat.le_trans (Nat.min_le_left _ _) (h3 t (by omega))
/-- A pass that changed nothing: the least. -/
theorem Pass2.lst {u : Nat → Nat} {A0 A : List Nat} {b : Nat} (h : Pass2 u A0 A false 504) (hb : Mn2 A b 4) (hu : ∀ v, v < 4 → u v ≤ 7) : Cv.Lst u b := by
  have hr : ∀ i, i < 504 → R2 u A i := by
    rcases h.or_ with ⟨_, _, h3⟩ | ⟨h1, _⟩
    · exact h3
    · cases h1
  have key : ∀ s, 0 < s → s < 64 → ∀ t, t < 4 → ∀ x, x ≤ 1 → A.getD (64 * ((t + 1) % 4) + Cv.nx s x) 0 ≤ A.getD (64 * t + s) 0 + Cv.ew u t s x := by
    intro s h0 hs t ht x hx
    obtain ⟨e1, e2, e3, e4⟩ := hp_of t s x ht h0 hs hx
    have := hr _ e4
    unfold R2 hpG hpF hpW at this
    rw [e1, e2, e3] at this
    exact this
  have hf : Cv.Fix u (fun s t => A.getD (64 * t + s) 0) b := by
    refine ⟨fun t ht => h.fst t ht, fun s h0 hs t ht x hx _ => key s h0 hs t ht x hx, fun s h0 hs t ht x hx hz => ?_⟩
    have := key s h0 hs t ht x hx
    rw [hz, Nat.add_zero] at this
    exact Nat.le_trans (hb.2.2 ((t + 1) % 4) (by omega)) this
  refine hf.lst (far := 7169) ?_ hu (by omega)
  rcases hb.1 with e | ⟨t, ht, e⟩
  · exact .inl e
  · have := h.tab.cm 0 t (by omega) ht
    rw [Nat.add_zero, ← e] at this
    rcases this with e2 | ⟨t0, c, hw, _, hp⟩
    · exact .inl e2
    · exact .inr ⟨t0, c, hw, hp⟩
end Go.Proofs.YtknfpdlomgllhaaDoor
