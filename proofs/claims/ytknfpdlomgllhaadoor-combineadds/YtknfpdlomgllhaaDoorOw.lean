/-
  The order of what came: rows that are turned about.
-/
import Derived.Test.YtknfpdlomgllhaaDoorMz
namespace Go.Proofs.YtknfpdlomgllhaaDoor
set_option linter.unusedVariables false
namespace Cv
/-- One taken out of the middle, put at the end of what came. -/
theorem order_step {α : Type} (f : Nat → α) (row : List α) (L : List Nat) (k : Nat) (hk : k < L.length) :
    (row ++ [f (L.getD k 0)] ++ (L.take k ++ L.drop (k + 1)).map f).Perm (row ++ L.map f) := by
  have e : L = L.take k ++ L.getD k 0 :: L.drop (k + 1) := by
    have h : L.getD k 0 = L[k] := by simp [hk]
    rw [h, ← List.drop_eq_getElem_cons hk, List.take_append_drop]
  rw [List.append_assoc]
  refine List.Perm.append_left row ?_
  conv => rhs; rw [e]
  rw [List.map_append, List.map_append, List.map_cons]
  rw [List.singleton_append]
  exact List.perm_middle.symm
theorem cv_perm {a b : List (Nat × List Nat)} (h : a.Perm b) (v : Nat) : cv a v = cv b v := by
  unfold cv
  exact (h.filter _).length_eq
end Cv
end Go.Proofs.YtknfpdlomgllhaaDoor
