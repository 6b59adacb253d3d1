/-
  min of two lengths, as the walk meets it.
-/
import Derived.Test.YtknfpdlomgllhaaDoorMem
namespace Go.Proofs.YtknfpdlomgllhaaDoor
open Go.RowKit
set_option maxRecDepth 100000
theorem minTwo (n1 n2 : Nat) : ∃ k : Nat, k ≤ n1 ∧ k ≤ n2 ∧ (k = n1 ∨ k = n2) ∧ ∀ (ts : Array TypeId) (t : TypeId) (W : World),
    (Builtin.min_ ts t #[.int .i64 (n1 : Int), .int .i64 (n2 : Int)]).run Tryd.prog W = .ok (.int .i64 (k : Int)) W := by
  refine ⟨min n1 n2, by omega, by omega, by omega, fun ts t W => ?_⟩
  have e1 : (if (n2 : Int) < (n1 : Int) then (n2 : Int) else (n1 : Int)) = ((min n1 n2 : Nat) : Int) := by split <;> omega
  have h : (Builtin.min_ ts t #[.int .i64 (n1 : Int), .int .i64 (n2 : Int)]) = pure (.int .i64 (if (n2 : Int) < (n1 : Int) then (n2 : Int) else (n1 : Int))) := by
    simp only [Builtin.min_, List.foldlM_cons, List.foldlM_nil, Builtin.min2, pure_bind]
  rw [h, e1]
  rfl
end Go.Proofs.YtknfpdlomgllhaaDoor
