/-
  Arrays as values in a region that draws its order.
-/
import Derived.Test.YtknfpdlomgllhaaDoorVb
namespace Go.Proofs.YtknfpdlomgllhaaDoor
open Go.RowKit
set_option maxRecDepth 100000
set_option linter.unusedVariables false

/-- The numbers of a step. -/
def nums (l : List Int) (t : Nat) : List Int := (l.drop (4 * t)).take 4
theorem nums_length (l : List Int) (t : Nat) (h : 4 * t + 4 ≤ l.length) : (nums l t).length = 4 := by unfold nums; rw [List.length_take, List.length_drop]; omega
theorem nums_in {l : List Int} (h : ∀ z ∈ l, -31 ≤ z ∧ z ≤ 31) (t : Nat) : ∀ z ∈ nums l t, -31 ≤ z ∧ z ≤ 31 := fun z hz => h z (List.mem_of_mem_drop (List.mem_of_mem_take hz))
theorem rd_nums {w : World} {B b off n : Nat} {l : List Int} (h : Rd w B (some ⟨b, off, none⟩) n (I64 l)) (t : Nat) (ht : 4 * t + 4 ≤ n) : Rd w B (some ⟨b, off + 4 * t, none⟩) 4 (I64 (nums l t)) := by
  have hl := h.len64
  refine ⟨by rw [I64_length, nums_length l t (by omega)], fun _ => ?_⟩
  obtain ⟨b', off', e, hlt, hc⟩ := h.at_ (by omega)
  injection e with e
  injection e with e1 e2
  subst e1 e2
  refine ⟨b, off + 4 * t, rfl, hlt, fun i u hu => ?_⟩
  rw [Nat.add_assoc]
  refine hc (4 * t + i) u ?_
  unfold I64 nums at *
  rw [List.map_take, List.getElem?_take, List.map_drop] at hu
  split at hu
  · rw [List.getElem?_drop] at hu; exact hu
  · cases hu
/-- The scores of the noughts behind a list. -/
def en (l : List Int) : Nat → List Int
  | 0 => List.replicate 64 0
  | m + 1 => byL (nums l (5 - m)) 0 (en l m)
theorem en_length (l : List Int) : ∀ m, (en l m).length = 64
  | 0 => by simp [en]
  | m + 1 => byL_length _ _ _
theorem byL_bounds {ns : List Int} (h : ∀ z ∈ ns, -31 ≤ z ∧ z ≤ 31) (hl : ns.length = 4) (x : Nat) (B : List Int) (K : Int) (hK : 0 ≤ K) (hB : ∀ i, -K ≤ B.getD i 0 ∧ B.getD i 0 ≤ K) : ∀ i, -(K + 124) ≤ (byL ns x B).getD i 0 ∧ (byL ns x B).getD i 0 ≤ K + 124 := by
  intro i
  by_cases hi : i < 64
  · rw [byL_get _ _ _ _ hi]
    have h1 := g4_bounds h hl i x
    have h2 := hB (Cv.nx i x)
    omega
  · rw [Bm.getD_ge _ _ _ (by rw [byL_length]; omega)]; omega
theorem en_bounds {l : List Int} (h : ∀ z ∈ l, -31 ≤ z ∧ z ≤ 31) (hl : l.length = 24) : ∀ m : Nat, m ≤ 6 → ∀ i : Nat, -(124 * (m : Int)) ≤ (en l m).getD i 0 ∧ (en l m).getD i 0 ≤ 124 * (m : Int)
  | 0, _, i => by
    have : (en l 0).getD i 0 = 0 := Cv.getD_noughts 64 i
    rw [this]; omega
  | m + 1, hm, i => by
    have := byL_bounds (nums_in h (5 - m)) (nums_length l (5 - m) (by omega)) 0 (en l m) (124 * (m : Int)) (by omega) (en_bounds h hl m (by omega)) i
    have e : en l (m + 1) = byL (nums l (5 - m)) 0 (en l m) := rfl
    rw [e]
    constructor <;> omega
end Go.Proofs.YtknfpdlomgllhaaDoor
