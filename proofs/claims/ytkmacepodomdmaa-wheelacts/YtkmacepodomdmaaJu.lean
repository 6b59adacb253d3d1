/-
  Layer 19 (what is due at which tick): a number put into its place, from the right. No program.
-/
import Derived.Test.YtkmacepodomdmaaJk
namespace Go.Proofs.Ytkmacepodomdmaa
open Go.RowKit
set_option maxRecDepth 100000
set_option linter.unusedVariables false

/-- a between the first k and the others. -/
def ro (mo : List Nat) (a k : Nat) : List Nat := mo.take k ++ a :: mo.drop k
theorem ro_len (mo : List Nat) (a k : Nat) (h : k ≤ mo.length) : (ro mo a k).length = mo.length + 1 := by
  unfold ro; simp; omega
theorem ro_end (mo : List Nat) (a : Nat) : ro mo a mo.length = mo ++ [a] := by unfold ro; simp
theorem ro_step (mo : List Nat) (a k : Nat) (h : k + 1 ≤ mo.length) : ((ro mo a (k + 1)).set (k + 1) (mo.getD k 0)).set k a = ro mo a k := by
  have hk : mo[k]? = some (mo.getD k 0) := by rw [List.getElem?_eq_getElem (by omega)]; simp [List.getD_eq_getElem?_getD, List.getElem?_eq_getElem (show k < mo.length by omega)]
  apply List.ext_getElem?
  intro j
  unfold ro
  rw [List.getElem?_set, List.getElem?_set]
  simp only [List.length_set, List.length_append, List.length_cons, List.length_take, List.length_drop]
  by_cases h1 : k = j
  · subst h1
    rw [if_pos rfl, if_pos (by omega), List.getElem?_append_right (by simp; omega), List.length_take, Nat.min_eq_left (by omega), Nat.sub_self]
    rfl
  · rw [if_neg h1]
    by_cases h2 : k + 1 = j
    · subst h2
      rw [if_pos rfl, if_pos (by omega), List.getElem?_append_right (by simp; omega), List.length_take, Nat.min_eq_left (by omega), show k + 1 - k = 0 + 1 by omega, List.getElem?_cons_succ, List.getElem?_drop, Nat.add_zero, hk]
    · rw [if_neg h2]
      by_cases h3 : j < k
      · rw [List.getElem?_append_left (by simp; omega), List.getElem?_append_left (by simp; omega), List.getElem?_take, List.getElem?_take, if_pos (by omega), if_pos h3]
      · rw [List.getElem?_append_right (by simp; omega), List.getElem?_append_right (by simp; omega), List.length_take, List.length_take, Nat.min_eq_left (by omega), Nat.min_eq_left (by omega)]
        obtain ⟨d, rfl⟩ : ∃ d, j = k + 2 + d := ⟨j - (k + 2), by omega⟩
        rw [show k + 2 + d - (k + 1) = d + 1 by omega, show k + 2 + d - k = (d + 1) + 1 by omega, List.getElem?_cons_succ, List.getElem?_cons_succ, List.getElem?_drop, List.getElem?_drop, show k + 1 + d = k + (d + 1) by omega]
theorem ro_at (mo : List Nat) (a k : Nat) (h : k + 1 ≤ mo.length) : (ro mo a (k + 1))[k]? = some (mo.getD k 0) := by
  unfold ro
  rw [List.getElem?_append_left (by simp; omega), List.getElem?_take, if_pos (by omega), List.getElem?_eq_getElem (by omega)]
  simp [List.getD_eq_getElem?_getD, List.getElem?_eq_getElem (show k < mo.length by omega)]
theorem ro_mid (mo : List Nat) (a k : Nat) (h : k ≤ mo.length) : (ro mo a k)[k]? = some a := by
  unfold ro
  rw [List.getElem?_append_right (by simp; omega), List.length_take, Nat.min_eq_left h, Nat.sub_self]
  rfl
theorem ro_drop (mo : List Nat) (a k : Nat) (h : k + 1 ≤ mo.length) (hd : ∀ x ∈ mo.drop (k + 1), a < x) (hk : a < mo.getD k 0) : ∀ x ∈ mo.drop k, a < x := by
  intro x hx
  rw [List.drop_eq_getElem_cons (by omega)] at hx
  rcases List.mem_cons.1 hx with e | hx
  · rw [e]; simpa [List.getD_eq_getElem?_getD, List.getElem?_eq_getElem (show k < mo.length by omega)] using hk
  · exact hd x hx
theorem due_no {M : List (Nat × Nat)} {t : Nat} {mo : List Nat} {p : Nat × Nat} (h : Due M t mo) (hp : p.2 ≠ t) : Due (M ++ [p]) t mo :=
  ⟨h.rise, fun a => by
    rw [h.mem, List.mem_append]
    constructor
    · exact .inl
    · rintro (h1 | h1)
      · exact h1
      · have : (a, t) = p := by simpa using h1
        rw [← this] at hp; exact absurd rfl hp⟩
theorem due_ins {M : List (Nat × Nat)} {t a k : Nat} {mo : List Nat} (h : Due M t mo) (hk : k ≤ mo.length) (h1 : k = 0 ∨ mo.getD (k - 1) 0 < a) (h2 : ∀ x ∈ mo.drop k, a < x) : Due (M ++ [(a, t)]) t (ro mo a k) := by
  have hr := h.rise
  have hsplit : mo = mo.take k ++ mo.drop k := (List.take_append_drop k mo).symm
  have hlo : ∀ x ∈ mo.take k, x < a := by
    intro x hx
    obtain ⟨j, hj, rfl⟩ := List.getElem_of_mem hx
    rw [List.length_take] at hj
    rcases h1 with h1 | h1
    · omega
    · rw [List.getElem_take]
      have e : mo.getD (k - 1) 0 = mo[k - 1]'(by omega) := by simp [List.getD_eq_getElem?_getD, List.getElem?_eq_getElem (show k - 1 < mo.length by omega)]
      rw [e] at h1
      by_cases hjk : j = k - 1
      · subst hjk; exact h1
      · have := List.pairwise_iff_getElem.1 hr j (k - 1) (by omega) (by omega) (by omega)
        omega
  refine ⟨?_, fun x => ?_⟩
  · unfold ro
    rw [hsplit, List.pairwise_append] at hr
    obtain ⟨r1, r2, r3⟩ := hr
    refine List.pairwise_append.2 ⟨r1, List.pairwise_cons.2 ⟨h2, r2⟩, fun x hx y hy => ?_⟩
    rcases List.mem_cons.1 hy with e | hy
    · rw [e]; exact hlo x hx
    · exact r3 x hx y hy
  · have e : x ∈ ro mo a k ↔ x = a ∨ x ∈ mo := by
      unfold ro
      rw [List.mem_append, List.mem_cons]
      conv => rhs; rw [hsplit, List.mem_append]
      constructor
      · rintro (h | h | h)
        · exact .inr (.inl h)
        · exact .inl h
        · exact .inr (.inr h)
      · rintro (h | h | h)
        · exact .inr (.inl h)
        · exact .inl h
        · exact .inr (.inr h)
    rw [e, List.mem_append, h.mem]
    constructor
    · rintro (h | h)
      · rw [h]; exact .inr (by simp)
      · exact .inl h
    · rintro (h | h)
      · exact .inr h
      · have : (x, t) = (a, t) := by simpa using h
        injection this with h3 _
        exact .inl h3
theorem rest_snoc (M : List (Nat × Nat)) (p : Nat × Nat) (t : Nat) : restL (M ++ [p]) t = if p.2 = t then restL M t else restL M t ++ [p] := by
  unfold restL
  rw [List.filter_append]
  by_cases h : p.2 = t
  · rw [if_pos h]; simp [h]
  · rw [if_neg h]; simp [h]
theorem not_due {L : List (Nat × Nat)} (hn : (L.map Prod.fst).Nodup) {t i : Nat} {mo : List Nat} (h : Due (L.take i) t mo) (hi : i < L.length) : L[i].1 ∉ mo := by
  intro hm
  have h1 := (h.mem _).1 hm
  obtain ⟨j, hj, e⟩ := List.getElem_of_mem h1
  rw [List.length_take] at hj
  rw [List.getElem_take] at e
  have hp := List.pairwise_iff_getElem.1 (List.nodup_iff_pairwise_ne.1 hn) j i (by simp; omega) (by simp; omega) (by omega)
  simp only [List.getElem_map] at hp
  rw [e] at hp
  exact hp rfl
end Go.Proofs.Ytkmacepodomdmaa
