/-
  Contract of layer 12's reference: Least.
-/
import Derived.Test.YtknfpdlomgllhaaDoorPb
import Derived.Test.YtknfpdlomgllhaaDoorPt
import Derived.Test.YtknfpdlomgllhaaDoorTs
import Derived.Test.YtknfpdlomgllhaaDoorMh
namespace Go.Proofs.YtknfpdlomgllhaaDoor
open Go.RowKit
set_option maxRecDepth 100000
set_option linter.unusedVariables false
set_option linter.unusedSimpArgs false

noncomputable def zcells (t : TypeId) : Array Value := ((Tryd.prog.info? t).bind (fun i => i.zero.map (fun z => z.cells))).getD #[]
theorem ZA_eq : (Tryd.prog.info? 108).bind (fun i => i.zero.map (fun z => z.cells)) = some (zcells 108) := by kernel_rfl
theorem ZA_size : (zcells 108).size = 896 := by kernel_rfl
/-- The edges of the first q. -/
def EdT (cs : Array Value) (q : Nat) : Prop := cs.size = 896 ∧ ∀ s x, s < 64 → x ≤ 1 → 2 * s + x < q → ∀ i u, (E7 s x).toList[i]? = some u → cs[14 * s + 7 * x + i]? = some u
/-- The weights of the first p. -/
def WtT (w : Nat → Nat) (ds : Array Value) (p : Nat) : Prop := ds.size = 512 ∧ ∀ s x t, s < 64 → x ≤ 1 → t < 4 → 8 * s + 4 * x + t < p → ds[8 * s + 4 * x + t]? = some (.int .i64 (Cv.ew w t s x : Nat))
theorem EdT.next {cs cs' : Array Value} {s x : Nat} (h : EdT cs (2 * s + x)) (hs : s < 64) (hx : x ≤ 1) (hz : cs'.size = cs.size) (hg : ∀ i, cs'[i]? = if 14 * s + 7 * x ≤ i ∧ i < 14 * s + 7 * x + (E7 s x).size then (E7 s x)[i - (14 * s + 7 * x)]? else cs[i]?) : EdT cs' (2 * s + x + 1) := by
  refine ⟨hz.trans h.1, fun s' x' hs' hx' hlt i u hu => ?_⟩
  have hi : i < 7 := by
    have := (List.getElem?_eq_some_iff.1 hu).1
    rw [Array.length_toList, E7_size] at this
    exact this
  rw [hg, E7_size]
  by_cases he : s' = s ∧ x' = x
  · obtain ⟨rfl, rfl⟩ := he
    rw [if_pos (by omega), show 14 * s' + 7 * x' + i - (14 * s' + 7 * x') = i by omega, ← Array.getElem?_toList]
    exact hu
  · rw [if_neg (by omega)]
    exact h.2 s' x' hs' hx' (by omega) i u hu
theorem WtT.next {w : Nat → Nat} {ds : Array Value} {s x t : Nat} (h : WtT w ds (8 * s + 4 * x + t)) (hs : s < 64) (hx : x ≤ 1) (ht : t < 4) : WtT w (ds.setIfInBounds (8 * s + 4 * x + t) (.int .i64 (Cv.ew w t s x : Nat))) (8 * s + 4 * x + t + 1) := by
  refine ⟨by rw [Array.size_setIfInBounds]; exact h.1, fun s' x' t' hs' hx' ht' hlt => ?_⟩
  by_cases he : 8 * s' + 4 * x' + t' = 8 * s + 4 * x + t
  · have e1 : s' = s := by omega
    have e2 : x' = x := by omega
    have e3 : t' = t := by omega
    subst e1 e2 e3
    rw [Array.getElem?_setIfInBounds_self_of_lt (by rw [h.1]; omega)]
  · rw [Array.getElem?_setIfInBounds_ne (by omega)]
    exact h.2 s' x' t' hs' hx' ht' (by omega)
/-- What Least gives. -/
def Leasted (u : Nat → Nat) (w : World) (e : Ending) (w' : World) : Prop := ∃ n : Nat, e = .returned (.int .i64 (n : Int)) ∧ Cv.Lst u n ∧ Below w.heap.size w w'

end Go.Proofs.YtknfpdlomgllhaaDoor
