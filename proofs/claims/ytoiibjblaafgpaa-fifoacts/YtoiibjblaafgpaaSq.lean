/-
  From a struct of one-cell fields that came in to its cells.
-/
import Derived.Test.YtoiibjblaafgpaaMem
import Derived.OpenShut
import Derived.ProofKit
import Derived.ChangeOld
import Derived.Test.YtoiibjblaafgpaaArg
namespace Go.Proofs.Ytoiibjblaafgpaa
open Go.RowKit Go.WideShapes Go.ChangeShapes Go.ChangeAt
set_option maxRecDepth 100000
set_option linter.unusedVariables false

theorem okWide_st {P : Program} {w : World} {r : Reach} {base : Nat} {t : TypeId} {fs : Array Field} {v : Value} (ht : P.underlying t = some (.struct fs)) (h : Value.okWide P w r base t v) : ∃ cs, v = .agg cs ∧ cs.size = P.cellsOf t := by
  simp only [Value.okWide, ht] at h
  obtain ⟨cs, h1, h2, _⟩ := h
  exact ⟨cs, h1, h2⟩
/-- Each field of one cell reads by itself. -/
theorem cameField {P : Program} {H : Type} {enc : TypeId × Value → H} {W : World} {fuel : Nat} {t : TypeId} {cs : Array Value} {fs : Array Field} {x : DataW H × List MemPlace} {spare : Nat → Bool} {held : Bool} (ht : P.underlying t = some (.struct fs)) (h : DataW.trod enc P W 0 spare held fuel t cs.toList = some x)
    (i : Nat) (f : Field) (hf : fs[i]? = some f) (ho : f.offset = i) (hc : P.cellsOf f.type = 1) (hi : i < cs.size) : ∃ (v : Value) (n : Nat) (y : DataW H × List MemPlace), cs[i]? = some v ∧ DataW.trod enc P W 0 spare held n f.type [v] = some y := by
  obtain ⟨xs, n, _, _, _, hl, hg⟩ := DataW.trod_struct ht h
  have h1 := hg i f hf
  have hil : i < xs.length := by rw [hl]; exact (Array.getElem?_eq_some_iff.1 hf).1
  rw [ho, hc, List.getElem?_eq_getElem hil, List.drop_eq_getElem_cons (by simpa using hi)] at h1
  refine ⟨cs[i], n, xs[i], Array.getElem?_eq_getElem hi, ?_⟩
  simpa using h1
theorem cameInt {P : Program} {H : Type} {enc : TypeId × Value → H} {W : World} {fuel : Nat} {t : TypeId} {cs : Array Value} {fs : Array Field} {x : DataW H × List MemPlace} {spare : Nat → Bool} {held : Bool} (ht : P.underlying t = some (.struct fs)) (h : DataW.trod enc P W 0 spare held fuel t cs.toList = some x)
    (i : Nat) (f : Field) (hf : fs[i]? = some f) (ho : f.offset = i) (hc : P.cellsOf f.type = 1) (hi : i < cs.size) (k : IntKind) (hk : P.underlying f.type = some (.int k)) : ∃ z : Int, cs[i]? = some (.int k z) ∧ (Lit.int k z).wf = true := by
  obtain ⟨v, n, y, h1, h2⟩ := cameField ht h i f hf ho hc hi
  obtain ⟨z, e, _, hw⟩ := DataW.trod_int hk h2
  simp at e
  exact ⟨z, by rw [h1, e], hw⟩
end Go.Proofs.Ytoiibjblaafgpaa
