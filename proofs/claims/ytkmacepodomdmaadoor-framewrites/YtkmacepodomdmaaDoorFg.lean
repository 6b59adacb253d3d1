/-
  errors.As at a target of type *told.
-/
import Derived.Test.YtkmacepodomdmaaDoorFf
namespace Go.Proofs.YtkmacepodomdmaaDoor
open Go.RowKit Go.Extern.Stop Go.Stop Go.Extern
set_option maxRecDepth 100000
set_option linter.unusedVariables false
set_option linter.unusedSimpArgs false

set_option maxHeartbeats 4000000 in
/-- errors.As of what wraps a told number. -/
theorem as_told (g : Nat) (e : Int) (t : Addr) (old : Value) (w : World) (hg : w.cell? ⟨5, 0, none⟩ = some (.iface 221 (.agg #[.pointer (some ⟨7, 80, none⟩)]))) (h5 : 5 < w.heap.size) (h1 : w.cell? ⟨g, 1, none⟩ = some (.iface 136 (.int .i64 e))) (hgl : g < w.heap.size) (ht0 : w.cell? t = some old) (hf0 : w.frozen? t = false) (htl : t.block < w.heap.size) :
    Calls Tryd.prog 83 #[.iface 130 (.pointer (some ⟨g, 0, none⟩)), .iface 138 (.pointer (some t))] w fun ev w' => ev = .returned (.bool true) ∧ w' = ((((w.alloc (.cells #[.pointer (some t)] 138)).alloc (.cells #[.pointer (some ⟨7, 138, none⟩), .pointer (some ⟨w.heap.size, 0, none⟩), .int .u64 150] 188)).alloc (.cells #[.pointer (some ⟨7, 138, none⟩), .pointer (some ⟨w.heap.size, 0, none⟩), .int .u64 150] 188)).alloc (.cells #[.int .i64 e] 136)).setCell t (.int .i64 e) := by
  have hV := hValueOf
  have hT := hType
  have hN := hIsNil
  have hK := hKind
  have hE := hElemT
  have hI := hImplements
  have hTO := hTypeOf
  have hA := hAssignable
  have f1 := valueOfPT
  have f2 := typePT
  have m1 := methodKind
  have m2 := methodElem
  have m3 := methodImplements
  have m4 := methodAssignableTo
  have k1 := kindPT
  have k2 := kindTT
  have e1 := elemPT
  have i1 := implementsTT
  have t1 := typeOfU
  have a1 := assignableU
  have nA := noAsU
  have uW := hasUnwrapU
  have mU := methodUnwrap
  have n8 := isNilPT ⟨w.heap.size, 0, none⟩ t ((w.alloc (.cells #[.pointer (some t)] 138)).alloc (.cells #[.pointer (some ⟨7, 138, none⟩), .pointer (some ⟨w.heap.size, 0, none⟩), .int .u64 150] 188)) (by simp)
  have hg2 : ((w.alloc (.cells #[.pointer (some t)] 138)).alloc (.cells #[.pointer (some ⟨7, 138, none⟩), .pointer (some ⟨w.heap.size, 0, none⟩), .int .u64 150] 188)).cell? ⟨5, 0, none⟩ = some (.iface 221 (.agg #[.pointer (some ⟨7, 80, none⟩)])) := by
    rw [World.cell?_alloc_lt _ _ ⟨5, 0, none⟩ (by simp; omega), World.cell?_alloc_lt _ _ ⟨5, 0, none⟩ h5]; exact hg
  have hu3 : (((w.alloc (.cells #[.pointer (some t)] 138)).alloc (.cells #[.pointer (some ⟨7, 138, none⟩), .pointer (some ⟨w.heap.size, 0, none⟩), .int .u64 150] 188)).alloc (.cells #[.pointer (some ⟨7, 138, none⟩), .pointer (some ⟨w.heap.size, 0, none⟩), .int .u64 150] 188)).cell? ⟨g, 1, none⟩ = some (.iface 136 (.int .i64 e)) := by
    rw [World.cell?_alloc_lt _ _ ⟨g, 1, none⟩ (by simp; omega), World.cell?_alloc_lt _ _ ⟨g, 1, none⟩ (by simp; omega), World.cell?_alloc_lt _ _ ⟨g, 1, none⟩ hgl]; exact h1
  have t2 := typeOfTT
  have a2 := assignableTT
  have v2 := valueOfTT
  have hEV := hElemV
  have hS := hSet
  have el := elemVPT ⟨w.heap.size, 0, none⟩ t (((w.alloc (.cells #[.pointer (some t)] 138)).alloc (.cells #[.pointer (some ⟨7, 138, none⟩), .pointer (some ⟨w.heap.size, 0, none⟩), .int .u64 150] 188)).alloc (.cells #[.pointer (some ⟨7, 138, none⟩), .pointer (some ⟨w.heap.size, 0, none⟩), .int .u64 150] 188)) (by rw [World.cell?_alloc_lt _ _ ⟨w.heap.size, 0, none⟩ (by simp; omega)]; simp)
  have st := setTT t ⟨w.heap.size + 1 + 1 + 1, 0, none⟩ e old ((((w.alloc (.cells #[.pointer (some t)] 138)).alloc (.cells #[.pointer (some ⟨7, 138, none⟩), .pointer (some ⟨w.heap.size, 0, none⟩), .int .u64 150] 188)).alloc (.cells #[.pointer (some ⟨7, 138, none⟩), .pointer (some ⟨w.heap.size, 0, none⟩), .int .u64 150] 188)).alloc (.cells #[.int .i64 e] 136))
    (by rw [World.cell?_alloc_at _ _ _ _ (by simp)]; rfl)
    (by rw [World.cell?_alloc_lt _ _ t (by simp; omega), World.cell?_alloc_lt _ _ t (by simp; omega), World.cell?_alloc_lt _ _ t (by simp; omega), World.cell?_alloc_lt _ _ t htl]; exact ht0)
    (by rw [World.frozen?_alloc_old _ _ t (by simp; omega), World.frozen?_alloc_old _ _ t (by simp; omega), World.frozen?_alloc_old _ _ t (by simp; omega), World.frozen?_alloc_old _ _ t (Nat.ne_of_lt htl)]; exact hf0)
  go_enter Tryd.func83, Tryd.ntmps83
  go_wp2
  refine wp_loop_rounds 2 ?_
  rw [rounds_succ]
  go_wp2
  rw [rounds_succ]
  go_wp2
  go_ret
  exact ⟨rfl, rfl⟩
set_option maxHeartbeats 4000000 in
/-- errors.As of what wraps none. -/
theorem as_none (g : Nat) (b t : Addr) (w : World) (hg : w.cell? ⟨5, 0, none⟩ = some (.iface 221 (.agg #[.pointer (some ⟨7, 80, none⟩)]))) (h5 : 5 < w.heap.size) (h1 : w.cell? ⟨g, 1, none⟩ = some (.iface 296 (.pointer (some b)))) (hgl : g < w.heap.size) :
    Calls Tryd.prog 83 #[.iface 130 (.pointer (some ⟨g, 0, none⟩)), .iface 138 (.pointer (some t))] w fun ev w' => ev = .returned (.bool false) ∧ w' = (((w.alloc (.cells #[.pointer (some t)] 138)).alloc (.cells #[.pointer (some ⟨7, 138, none⟩), .pointer (some ⟨w.heap.size, 0, none⟩), .int .u64 150] 188)).alloc (.cells #[.pointer (some ⟨7, 138, none⟩), .pointer (some ⟨w.heap.size, 0, none⟩), .int .u64 150] 188)) := by
  have hV := hValueOf
  have hT := hType
  have hN := hIsNil
  have hK := hKind
  have hE := hElemT
  have hI := hImplements
  have hTO := hTypeOf
  have hA := hAssignable
  have f1 := valueOfPT
  have f2 := typePT
  have m1 := methodKind
  have m2 := methodElem
  have m3 := methodImplements
  have m4 := methodAssignableTo
  have k1 := kindPT
  have k2 := kindTT
  have e1 := elemPT
  have i1 := implementsTT
  have t1 := typeOfU
  have a1 := assignableU
  have nA := noAsU
  have uW := hasUnwrapU
  have mU := methodUnwrap
  have n8 := isNilPT ⟨w.heap.size, 0, none⟩ t ((w.alloc (.cells #[.pointer (some t)] 138)).alloc (.cells #[.pointer (some ⟨7, 138, none⟩), .pointer (some ⟨w.heap.size, 0, none⟩), .int .u64 150] 188)) (by simp)
  have hg2 : ((w.alloc (.cells #[.pointer (some t)] 138)).alloc (.cells #[.pointer (some ⟨7, 138, none⟩), .pointer (some ⟨w.heap.size, 0, none⟩), .int .u64 150] 188)).cell? ⟨5, 0, none⟩ = some (.iface 221 (.agg #[.pointer (some ⟨7, 80, none⟩)])) := by
    rw [World.cell?_alloc_lt _ _ ⟨5, 0, none⟩ (by simp; omega), World.cell?_alloc_lt _ _ ⟨5, 0, none⟩ h5]; exact hg
  have hu3 : (((w.alloc (.cells #[.pointer (some t)] 138)).alloc (.cells #[.pointer (some ⟨7, 138, none⟩), .pointer (some ⟨w.heap.size, 0, none⟩), .int .u64 150] 188)).alloc (.cells #[.pointer (some ⟨7, 138, none⟩), .pointer (some ⟨w.heap.size, 0, none⟩), .int .u64 150] 188)).cell? ⟨g, 1, none⟩ = some (.iface 296 (.pointer (some b))) := by
    rw [World.cell?_alloc_lt _ _ ⟨g, 1, none⟩ (by simp; omega), World.cell?_alloc_lt _ _ ⟨g, 1, none⟩ (by simp; omega), World.cell?_alloc_lt _ _ ⟨g, 1, none⟩ hgl]; exact h1
  have t2 := eTypeOf
  have a2 := assignableES
  have nE := noAsE
  have uE := noUnwrapE
  have vE := noUnwrapsE
  go_enter Tryd.func83, Tryd.ntmps83
  go_wp2
  refine wp_loop_rounds 2 ?_
  rw [rounds_succ]
  go_wp2
  rw [rounds_succ]
  go_wp2
  go_ret
  exact ⟨rfl, rfl⟩
end Go.Proofs.YtkmacepodomdmaaDoor
