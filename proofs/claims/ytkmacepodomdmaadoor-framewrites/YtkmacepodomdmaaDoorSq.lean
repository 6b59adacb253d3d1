/-
  From a struct of one-cell fields that came in to its cells.
-/
import Derived.Test.YtkmacepodomdmaaDoorMem
import Derived.OpenShut
import Derived.ProofKit
import Derived.ChangeOld
import Derived.Test.YtkmacepodomdmaaDoorArg
namespace Go.Proofs.YtkmacepodomdmaaDoor
open Go.RowKit Go.WideShapes Go.ChangeShapes Go.ChangeAt
set_option maxRecDepth 100000
set_option linter.unusedVariables false

theorem okWide_st {P : Program} {w : World} {r : Reach} {base : Nat} {t : TypeId} {fs : Array Field} {v : Value} (ht : P.underlying t = some (.struct fs)) (h : Value.okWide P w r base t v) : ∃ cs, v = .agg cs ∧ cs.size = P.cellsOf t := by
  simp only [Value.okWide, ht] at h
  obtain ⟨cs, h1, h2, _⟩ := h
  exact ⟨cs, h1, h2⟩
/-- Each field of one cell reads by itself. -/
theorem cameField {P : Program} {H : Type} {enc : TypeId × Value → H} {W : World} {fuel : Nat} {t : TypeId} {cs : Array Value} {fs : Array Field} {x : DataW H × List MemPlace} {spare : Nat → Bool} {held : Bool} (ht : P.underlying t = some (.struct fs)) (h : DataW.trod enc P W 0 spare held fuel t cs.toList = some x)
    (i : Nat) (f : Field) (hf : fs[i]? = some f) (ho : f.offset = i) (hc : P.cellsOf f.type = 1) (hi : i < cs.size) : ∃ (v : Value) (n : Nat) (y : DataW H × List MemPlace), cs[i]? = some v ∧ DataW.trod enc P W 0 spare held n f.type [v] = some y := by
  obtain ⟨xs, n, _, _, _, hl, hg⟩ := DataW.trod_struct ht h
  have h1 := hg i f hf
  have hil : i < xs.length := by rw [hl]; exact (Array.getElem?_eq_some_iff.1 hf).1
  rw [ho, hc, List.getElem?_eq_getElem hil, List.drop_eq_getElem_cons (by simpa using hi)] at h1
  refine ⟨cs[i], n, xs[i], Array.getElem?_eq_getElem hi, ?_⟩
  simpa using h1
theorem cameInt {P : Program} {H : Type} {enc : TypeId × Value → H} {W : World} {fuel : Nat} {t : TypeId} {cs : Array Value} {fs : Array Field} {x : DataW H × List MemPlace} {spare : Nat → Bool} {held : Bool} (ht : P.underlying t = some (.struct fs)) (h : DataW.trod enc P W 0 spare held fuel t cs.toList = some x)
    (i : Nat) (f : Field) (hf : fs[i]? = some f) (ho : f.offset = i) (hc : P.cellsOf f.type = 1) (hi : i < cs.size) (k : IntKind) (hk : P.underlying f.type = some (.int k)) : ∃ z : Int, cs[i]? = some (.int k z) ∧ (Lit.int k z).wf = true := by
  obtain ⟨v, n, y, h1, h2⟩ := cameField ht h i f hf ho hc hi
  obtain ⟨z, e, _, hw⟩ := DataW.trod_int hk h2
  simp at e
  exact ⟨z, by rw [h1, e], hw⟩
theorem cameFrame {H : Type} {enc : TypeId × Value → H} {W : World} {fuel : Nat} {cs : Array Value} {x : DataW H × List MemPlace} (hs : cs.size = Tryd.prog.cellsOf 25) (h : DataW.trod enc Tryd.prog W 0 (fun _ => true) true fuel 25 cs.toList = some x) :
    ∃ (k q v l : Int) (a : Option Addr) (len cap : Nat) (zs : List Int) (b m : Int), cs = #[.int .i64 k, .int .i64 q, .int .i64 v, .int .i64 l, .slice a len cap, .int .i64 b, .int .u32 m] ∧ Came .u8 W a len cap zs ∧ (Lit.int .i64 v).wf = true ∧ (Lit.int .u32 m).wf = true := by
  have hs2 : cs.size = 7 := hs.trans (by kernel_rfl)
  have hu := Tryd.underlying25
  obtain ⟨k, k1, _⟩ := cameInt hu h 0 _ rfl rfl (by kernel_rfl) (by omega) .i64 Tryd.underlying3
  obtain ⟨q, q1, _⟩ := cameInt hu h 1 _ rfl rfl (by kernel_rfl) (by omega) .i64 Tryd.underlying3
  obtain ⟨v, v1, v2⟩ := cameInt hu h 2 _ rfl rfl (by kernel_rfl) (by omega) .i64 Tryd.underlying3
  obtain ⟨l, l1, _⟩ := cameInt hu h 3 _ rfl rfl (by kernel_rfl) (by omega) .i64 Tryd.underlying3
  obtain ⟨u, fu, y, u1, u2⟩ := cameField hu h 4 _ rfl rfl (by kernel_rfl) (by omega)
  obtain ⟨b, b1, _⟩ := cameInt hu h 5 _ rfl rfl (by kernel_rfl) (by omega) .i64 Tryd.underlying3
  obtain ⟨m, m1, m2⟩ := cameInt hu h 6 _ rfl rfl (by kernel_rfl) (by omega) .u32 Tryd.underlying23
  obtain ⟨a, len, cap, zs, rfl, hc⟩ : ∃ a len cap zs, u = .slice a len cap ∧ Came .u8 W a len cap zs := by
    rcases open_ints Tryd.underlying22 Tryd.underlying5 (by kernel_rfl) u2 with ⟨hcs, _⟩ | ⟨x, l, c, zs, hcs, _, hl, hm, hz, _, hcell, hwz⟩
    · simp at hcs
      exact ⟨none, 0, 0, [], hcs, .inl ⟨rfl, rfl, rfl, rfl⟩⟩
    · simp at hcs
      exact ⟨_, _, _, zs, hcs, .inr ⟨_, rfl, hl, hm, by simpa using hz, hcell, hwz⟩⟩
  refine ⟨k, q, v, l, a, len, cap, zs, b, m, ?_, hc, v2, m2⟩
  apply Array.ext_getElem?
  intro i
  match i with
  | 0 => rw [k1]; rfl
  | 1 => rw [q1]; rfl
  | 2 => rw [v1]; rfl
  | 3 => rw [l1]; rfl
  | 4 => rw [u1]; rfl
  | 5 => rw [b1]; rfl
  | 6 => rw [m1]; rfl
  | i + 7 => rw [Array.getElem?_eq_none (by omega)]; exact (Array.getElem?_eq_none (by simp)).symm
end Go.Proofs.YtkmacepodomdmaaDoor
