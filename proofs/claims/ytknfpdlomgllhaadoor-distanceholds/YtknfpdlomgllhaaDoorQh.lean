/-
  The walk of DistanceTurns.
-/
import Derived.Test.YtknfpdlomgllhaaDoorQg
namespace Go.Proofs.YtknfpdlomgllhaaDoor
open Go.RowKit
set_option maxRecDepth 100000
set_option linter.unusedVariables false
set_option linter.unusedSimpArgs false

theorem W4_set (A : List Int) (j : Nat) (z : Int) : (W4 A).setIfInBounds j (.int .i64 z) = W4 (A.set j z) := by
  unfold W4 I64
  simp [List.map_set]
theorem Z4w_eq : (Tryd.prog.info? 22).bind (fun i => i.zero.map (fun z => z.cells)) = some (W4 [0, 0, 0, 0]) := by kernel_rfl
theorem wrap_u64_is (a : Int) : IntKind.u64.wrap a = (((a % 18446744073709551616).toNat : Nat) : Int) := by
  have h : IntKind.u64.wrap a = a % 18446744073709551616 := IntKind.wrap_u64 a
  rw [h]; omega
/-- A number's rest by eight. -/
def rd8 (z : Int) : Nat := (z % 18446744073709551616).toNat % 8
theorem rd8_lt (z : Int) : rd8 z ≤ 7 := by unfold rd8; omega
theorem set_int (l : List Int) (i : Nat) (x : Int) (j : Nat) (h : i < l.length) : (l.set i x).getD j 0 = if i = j then x else l.getD j 0 := by
  by_cases hj : j < l.length
  · rw [Bm.getD_lt _ _ _ (by rw [List.length_set]; exact hj), Bm.getD_lt _ _ _ hj, List.getElem_set]
  · rw [Bm.getD_ge _ _ _ (by rw [List.length_set]; omega), Bm.getD_ge _ _ _ (by omega), if_neg (by omega)]
theorem nw_of (A : List Int) (f : Nat → Nat) (n : Nat) (hl : A.length = n) (h : ∀ j, j < n → A.getD j 0 = ((f j : Nat) : Int)) : A = nw ((List.range n).map f) := by
  refine Cv.ext_int (by rw [nw_length, hl]; simp) fun j hj => ?_
  rw [hl] at hj
  rw [h j hj, nw_get]
  simp [List.getD, hj]
theorem range_getD (f : Nat → Nat) (n j : Nat) (hj : j < n) : ((List.range n).map f).getD j 0 = f j := by simp [List.getD, hj]

end Go.Proofs.YtknfpdlomgllhaaDoor
