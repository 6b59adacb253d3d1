/-
  Plain mathematics for layer 8 (soft): within the bounds; all within the bounds. No program is named.
-/
import Derived.Test.YtibddlldgmidlabDoorVn
namespace Go.Proofs.YtibddlldgmidlabDoor.Cv
set_option linter.unusedVariables false

/-- Within the bounds. -/
def clip (z : Int) : Int := if 31 < z then 31 else if z < -31 then -31 else z
theorem clip_hi {z : Int} (h : 31 < z) : clip z = 31 := by unfold clip; rw [if_pos h]
theorem clip_lo {z : Int} (h : z < -31) : clip z = -31 := by unfold clip; rw [if_neg (by omega), if_pos h]
theorem clip_in {z : Int} (h : ¬ 31 < z) (h2 : ¬ z < -31) : clip z = z := by unfold clip; rw [if_neg h, if_neg h2]
theorem clip_bounds (z : Int) : -31 ≤ clip z ∧ clip z ≤ 31 := by unfold clip; split <;> (try split) <;> omega
theorem clip_eq (z : Int) : z = clip z ↔ -31 ≤ z ∧ z ≤ 31 := by unfold clip; split <;> (try split) <;> omega
/-- Are all within the bounds? -/
def inB (l : List Int) : Bool := l.all fun z => decide (-31 ≤ z ∧ z ≤ 31)
theorem inB_true {l : List Int} (h : inB l = true) : ∀ z ∈ l, -31 ≤ z ∧ z ≤ 31 := by
  intro z hz
  simpa using List.all_eq_true.1 h z hz
theorem inB_of {l : List Int} (h : ∀ z ∈ l, -31 ≤ z ∧ z ≤ 31) : inB l = true := List.all_eq_true.2 fun z hz => by simpa using h z hz
theorem inB_of_getD {l : List Int} (h : ∀ i, i < l.length → -31 ≤ l.getD i 0 ∧ l.getD i 0 ≤ 31) : inB l = true := by
  refine inB_of fun z hz => ?_
  obtain ⟨i, hi, rfl⟩ := List.getElem_of_mem hz
  have := h i hi
  rwa [Bm.getD_lt _ _ _ hi] at this
theorem inB_false {l : List Int} (i : Nat) (hi : i < l.length) (h : ¬ (-31 ≤ l.getD i 0 ∧ l.getD i 0 ≤ 31)) : inB l = false := by
  rw [Bool.eq_false_iff]
  intro hc
  apply h
  rw [Bm.getD_lt _ _ _ hi]
  exact inB_true hc _ (List.getElem_mem _)
theorem inB_getD {l : List Int} (h : ∀ z ∈ l, -31 ≤ z ∧ z ≤ 31) (i : Nat) : -31 ≤ l.getD i 0 ∧ l.getD i 0 ≤ 31 := by
  by_cases hi : i < l.length
  · rw [Bm.getD_lt _ _ _ hi]; exact h _ (List.getElem_mem _)
  · rw [Bm.getD_ge _ _ _ (by omega)]; omega
theorem sg_bounds {c : Nat} {x K : Int} (h : -K ≤ x ∧ x ≤ K) : -K ≤ sg c x ∧ sg c x ≤ K := by unfold sg; split <;> omega
theorem sc_bounds {l : List Int} (h : ∀ z ∈ l, -31 ≤ z ∧ z ≤ 31) (c : List Nat) : ∀ k : Nat, -(31 * (k : Int)) ≤ scTo l c k ∧ scTo l c k ≤ 31 * (k : Int)
  | 0 => by simp [scTo]
  | k + 1 => by
    have ih := sc_bounds h c k
    have h2 := sg_bounds (c := c.getD k 0) (inB_getD h k)
    show -(31 * ((k + 1 : Nat) : Int)) ≤ scTo l c k + _ ∧ scTo l c k + _ ≤ _
    omega
/-- A number times 1 or -1. -/
theorem sg_mul (c : Nat) (x : Int) : x * (if c = 0 then 1 else -1) = sg c x := by unfold sg; split <;> omega
/-- The bits that numbers are rather. -/
def hard (l : List Int) : List Nat := l.map fun z => if z < 0 then 1 else 0
theorem hard_length (l : List Int) : (hard l).length = l.length := by simp [hard]
theorem hard_getD (l : List Int) (k : Nat) : (hard l).getD k 0 = if l.getD k 0 < 0 then 1 else 0 := by
  by_cases h : k < l.length
  · rw [Bm.getD_lt _ _ _ (by rw [hard_length]; exact h), Bm.getD_lt _ _ _ h]; simp [hard]
  · rw [Bm.getD_ge _ _ _ (by rw [hard_length]; omega), Bm.getD_ge _ _ _ (by omega)]; rfl
theorem hard_bit (l : List Int) : ∀ x ∈ hard l, x ≤ 1 := by
  intro x hx
  obtain ⟨z, _, rfl⟩ := List.mem_map.1 hx
  split <;> omega
theorem hard_soft (t : List Nat) (h : ∀ x ∈ t, x ≤ 1) : hard (soft t) = t := by
  refine Bm.ext_getD (by rw [hard_length, soft_length]) fun i hi => ?_
  rw [hard_length, soft_length] at hi
  rw [hard_getD, soft_getD t i hi]
  have := Bm.bit_le t h i
  by_cases h0 : t.getD i 0 = 0
  · rw [if_pos h0, h0]; rfl
  · rw [if_neg h0, if_pos (by omega)]; omega
theorem soft_bounds (t : List Nat) : ∀ z ∈ soft t, -31 ≤ z ∧ z ≤ 31 := by
  intro z hz
  obtain ⟨x, _, rfl⟩ := List.mem_map.1 hz
  split <;> omega
theorem soft_take (t : List Nat) (k : Nat) (h : k < t.length) : soft (t.take (k + 1)) = soft (t.take k) ++ [if t.getD k 0 = 0 then 1 else -1] := by
  rw [List.take_succ_eq_append_getElem h, Bm.getD_lt _ _ _ h]
  unfold soft
  rw [List.map_append]
  rfl
end Go.Proofs.YtibddlldgmidlabDoor.Cv
