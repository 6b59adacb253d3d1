/-
  From an array of numbers that came in to a list.
-/
import Derived.Test.YtoiibjblaafgpabMem
import Derived.Deep.SlicePairs
import Derived.OpenShut
namespace Go.Proofs.Ytoiibjblaafgpab
open Go.RowKit Go.WideShapes
set_option linter.unusedVariables false

theorem okWide_row {P : Program} {w : World} {r : Reach} {base : Nat} {t e : TypeId} {n : Nat} {v : Value} (ht : P.underlying t = some (.array n e)) (h : Value.okWide P w r base t v) : ∃ cs, v = .agg cs ∧ cs.size = P.cellsOf t := by
  simp only [Value.okWide, ht] at h
  obtain ⟨cs, h1, h2, _⟩ := h
  exact ⟨cs, h1, h2⟩
/-- An array of numbers that came in. -/
theorem cameRow {P : Program} {H : Type} {enc : TypeId × Value → H} {W : World} {fuel n : Nat} {t : TypeId} {xs : Array Value} {x : DataW H × List MemPlace} {spare : Nat → Bool} {held : Bool} (ht : P.underlying t = some (.array n 3)) (h3 : P.underlying 3 = some (.int .i64)) (hc : P.cellsOf 3 = 1) (hs : xs.size = n)
    (h : DataW.trod enc P W 0 spare held fuel t xs.toList = some x) : ∃ zs : List Int, zs.length = n ∧ xs = (I64 zs).toArray ∧ ∀ z ∈ zs, (Lit.int .i64 z).wf = true := by
  obtain ⟨ys, m, _, _, _, hn, hf⟩ := DataW.trod_array ht h
  have each : ∀ i, i < n → ∃ z : Int, xs[i]? = some (.int .i64 z) ∧ (Lit.int .i64 z).wf = true := by
    intro i hi
    have h1 := hf i hi
    rw [hc, Nat.mul_one, List.getElem?_eq_getElem (by omega)] at h1
    obtain ⟨z, e, _, hw⟩ := DataW.trod_int h3 h1
    refine ⟨z, ?_, hw⟩
    have e2 := congrArg (fun l => l[0]?) e
    simp only [List.getElem?_take, List.getElem?_drop] at e2
    simpa using e2
  obtain ⟨q, hq⟩ := Deep.choose_lt each
  refine ⟨(List.range n).map q, by simp, ?_, fun z hz => ?_⟩
  · apply Array.ext_getElem?
    intro i
    by_cases hi : i < n
    · have e : (I64 ((List.range n).map q)).toArray[i]? = some (.int .i64 (((List.range n).map q).getD i 0)) := by
        rw [List.getElem?_toArray, I64_get _ i (by simpa using hi)]
      rw [e, (hq i hi).1]
      congr 2
      simp [List.getD, hi]
    · rw [Array.getElem?_eq_none (by omega)]
      exact (Array.getElem?_eq_none (by rw [List.size_toArray, I64_length]; simp; omega)).symm
  · obtain ⟨i, hi, rfl⟩ := List.mem_map.1 hz
    exact (hq i (List.mem_range.1 hi)).2
end Go.Proofs.Ytoiibjblaafgpab
