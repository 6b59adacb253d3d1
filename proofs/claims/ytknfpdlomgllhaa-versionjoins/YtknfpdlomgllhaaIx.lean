/-
  An element of an array that is a value.
-/
import Derived.Test.YtknfpdlomgllhaaBk
namespace Go.Proofs.Ytknfpdlomgllhaa
open Go.RowKit
set_option maxRecDepth 100000
set_option linter.unusedVariables false

theorem run_index1 {P : Program} {t e : TypeId} {n : Nat} (ht : P.underlying t = some (.array n e)) {d : TypeDesc} (he : P.underlying e = some d) (hd : d.isRow = false) (hs : (P.info? e).map (·.size) = some 1) (cs : Array Value) (i : Nat) (hi : i < n) (k : IntKind) (v : Value) (hv : cs[i]? = some v) (w : World) :
    (Instr.index t (.agg cs) (.int k (i : Int))).run P w = .ok v w := by
  have h1 : (0 : Int) ≤ (i : Int) ∧ (i : Int) < (n : Int) := by omega
  cases hq : P.info? e with
  | none => simp [hq] at hs
  | some j =>
    have hj : j.size = 1 := by simpa [hq] using hs
    cases d <;> simp_all [Instr.index, run_underlying ht, asIntOf, part, isAgg, sizeOf, typeInfo, run_underlying he, TypeDesc.isRow]
theorem run_indexP {P : Program} {t e : TypeId} {n sz : Nat} (ht : P.underlying t = some (.array n e)) {d : TypeDesc} (he : P.underlying e = some d) (hd : d.isRow = true) (hs : (P.info? e).map (·.size) = some sz) (cs : Array Value) (i : Nat) (hi : i < n) (k : IntKind) (w : World) :
    (Instr.index t (.agg cs) (.int k (i : Int))).run P w = .ok (.agg (cs.extract (i * sz) (i * sz + sz))) w := by
  have h1 : (0 : Int) ≤ (i : Int) ∧ (i : Int) < (n : Int) := by omega
  cases hq : P.info? e with
  | none => simp [hq] at hs
  | some j =>
    have hj : j.size = sz := by simpa [hq] using hs
    cases d <;> simp_all [Instr.index, run_underlying ht, asIntOf, part, isAgg, sizeOf, typeInfo, run_underlying he, TypeDesc.isRow]
end Go.Proofs.Ytknfpdlomgllhaa
