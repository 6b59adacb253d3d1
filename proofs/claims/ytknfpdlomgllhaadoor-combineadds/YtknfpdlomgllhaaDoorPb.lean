/-
  Contracts of layer 12's reference: Right, weigh, Weight.
-/
import Derived.Test.YtknfpdlomgllhaaDoorPa
import Derived.Test.YtknfpdlomgllhaaDoorTz
namespace Go.Proofs.YtknfpdlomgllhaaDoor
open Go.RowKit
set_option maxRecDepth 100000
set_option linter.unusedVariables false
set_option linter.unusedSimpArgs false

/-- Weights as cells. -/
def W4 (ws : List Int) : Array Value := (I64 ws).toArray
theorem W4_size (ws : List Int) : (W4 ws).size = ws.length := by unfold W4; rw [List.size_toArray, I64_length]
theorem W4_one (ws : List Int) : (W4 ws).all (·.oneCell') = true := all_oneCell_toArray (I64_one ws)
theorem W4_get (ws : List Int) (v : Nat) (h : v < ws.length) : (W4 ws)[v]? = some (.int .i64 (ws.getD v 0)) := by
  unfold W4; rw [List.getElem?_toArray, I64_get ws v h]
/-- Natural weights. -/
def nw (ws : List Nat) : List Int := ws.map fun (x : Nat) => (x : Int)
theorem nw_length (ws : List Nat) : (nw ws).length = ws.length := by simp [nw]
theorem nw_get (ws : List Nat) (v : Nat) : (nw ws).getD v 0 = ((ws.getD v 0 : Nat) : Int) := by
  by_cases h : v < ws.length
  · rw [Bm.getD_lt _ _ _ (by rw [nw_length]; exact h), Bm.getD_lt _ _ _ h]; simp [nw]
  · rw [Bm.getD_ge _ _ _ (by rw [nw_length]; omega), Bm.getD_ge _ _ _ (by omega)]; rfl
/-- May weights be? -/
def inW (ws : List Int) : Bool := ws.all fun z => decide (0 ≤ z ∧ z ≤ 7)
theorem inW_of_getD {ws : List Int} (h : ∀ i, i < ws.length → 0 ≤ ws.getD i 0 ∧ ws.getD i 0 ≤ 7) : inW ws = true := by
  refine List.all_eq_true.2 fun z hz => ?_
  obtain ⟨i, hi, rfl⟩ := List.getElem_of_mem hz
  have := h i hi
  rw [Bm.getD_lt _ _ _ hi] at this
  simpa using this
theorem inW_false {ws : List Int} (i : Nat) (hi : i < ws.length) (h : ¬ (0 ≤ ws.getD i 0 ∧ ws.getD i 0 ≤ 7)) : inW ws = false := by
  rw [Bool.eq_false_iff]
  intro hc
  have := List.all_eq_true.1 hc _ (List.getElem_mem hi)
  rw [Bm.getD_lt _ _ _ hi] at h
  exact h (by simpa using this)
theorem info4w : (Tryd.prog.info? 22).map (·.size) = some 4 := by kernel_rfl

/-- What the first streams of an edge weigh. -/
def eT (ws : List Nat) (t s x : Nat) : Nat → Nat
  | 0 => 0
  | k + 1 => eT ws t s x k + Cv.out s x k * ws.getD (Cv.vr k t) 0
theorem eT_four (ws : List Nat) (t s x : Nat) : eT ws t s x 4 = Cv.ew (fun v => ws.getD v 0) t s x := by
  show 0 + _ + _ + _ + _ = _
  rw [Nat.zero_add]
  rfl
theorem getD_seven (ws : List Nat) (h : ∀ y ∈ ws, y ≤ 7) (v : Nat) : ws.getD v 0 ≤ 7 := by
  by_cases hv : v < ws.length
  · rw [Bm.getD_lt _ _ _ hv]; exact h _ (List.getElem_mem hv)
  · rw [Bm.getD_ge _ _ _ (by omega)]; omega
theorem eT_le (ws : List Nat) (h : ∀ y ∈ ws, y ≤ 7) (t s x : Nat) : ∀ k, eT ws t s x k ≤ 7 * k
  | 0 => by simp [eT]
  | k + 1 => by
    have h1 := eT_le ws h t s x k
    have h2 := Nat.mul_le_mul (Cv.out_bit s x k) (getD_seven ws h (Cv.vr k t))
    show eT ws t s x k + _ ≤ _
    omega
end Go.Proofs.YtknfpdlomgllhaaDoor
