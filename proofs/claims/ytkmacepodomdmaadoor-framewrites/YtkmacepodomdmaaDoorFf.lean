/-
  What errors.As answers of the errors that frame.read makes, at a target of type *told.
-/
import Derived.Test.YtkmacepodomdmaaDoorFe
namespace Go.Proofs.YtkmacepodomdmaaDoor
open Go.RowKit Go.Extern.Stop Go.Stop Go.Extern
set_option maxRecDepth 100000
set_option linter.unusedVariables false
set_option linter.unusedSimpArgs false

theorem valueOfPT (t : Addr) (w : World) : (xf Tryd.f124 #[.iface 138 (.pointer (some t))]).run Tryd.prog w = .ok (.agg #[.pointer (some ⟨7, 138, none⟩), .pointer (some ⟨w.heap.size, 0, none⟩), .int .u64 150]) (w.alloc (.cells #[.pointer (some t)] 138)) := by kernel_rfl
theorem valueOfTT (e : Int) (w : World) : (xf Tryd.f124 #[.iface 136 (.int .i64 e)]).run Tryd.prog w = .ok (.agg #[.pointer (some ⟨7, 136, none⟩), .pointer (some ⟨w.heap.size, 0, none⟩), .int .u64 130]) (w.alloc (.cells #[.int .i64 e] 136)) := by kernel_rfl
theorem typePT (a : Addr) (w : World) : (xf Tryd.f125 #[.agg #[.pointer (some ⟨7, 138, none⟩), .pointer (some a), .int .u64 150]]).run Tryd.prog w = .ok (.iface 221 (.agg #[.pointer (some ⟨7, 138, none⟩)])) w := by kernel_rfl
theorem methodKind (h : Value) (w : World) : (Go.method 427 221 (.agg #[h]) "Kind").run Tryd.prog w = .ok (226, h) w := by kernel_rfl
theorem methodElem (h : Value) (w : World) : (Go.method 427 221 (.agg #[h]) "Elem").run Tryd.prog w = .ok (242, .agg #[h]) w := by kernel_rfl
theorem methodImplements (h : Value) (w : World) : (Go.method 427 221 (.agg #[h]) "Implements").run Tryd.prog w = .ok (243, .agg #[h]) w := by kernel_rfl
theorem methodAssignableTo (h : Value) (w : World) : (Go.method 427 221 (.agg #[h]) "AssignableTo").run Tryd.prog w = .ok (240, .agg #[h]) w := by kernel_rfl
theorem kindPT (w : World) : (xf Tryd.f226 #[.pointer (some ⟨7, 138, none⟩)]).run Tryd.prog w = .ok (.int .u8 22) w := by kernel_rfl
theorem kindTT (w : World) : (xf Tryd.f226 #[.pointer (some ⟨7, 136, none⟩)]).run Tryd.prog w = .ok (.int .u8 2) w := by kernel_rfl
theorem elemPT (w : World) : (xf Tryd.f242 #[.agg #[.pointer (some ⟨7, 138, none⟩)]]).run Tryd.prog w = .ok (.iface 221 (.agg #[.pointer (some ⟨7, 136, none⟩)])) w := by kernel_rfl
theorem implementsTT (w : World) : (xf Tryd.f243 #[.agg #[.pointer (some ⟨7, 136, none⟩)], .iface 221 (.agg #[.pointer (some ⟨7, 80, none⟩)])]).run Tryd.prog w = .ok (.bool true) w := by kernel_rfl
theorem typeOfU (v : Value) (w : World) : (xf Tryd.f128 #[.iface 130 v]).run Tryd.prog w = .ok (.iface 221 (.agg #[.pointer (some ⟨7, 130, none⟩)])) w := by kernel_rfl
theorem typeOfTT (v : Value) (w : World) : (xf Tryd.f128 #[.iface 136 v]).run Tryd.prog w = .ok (.iface 221 (.agg #[.pointer (some ⟨7, 136, none⟩)])) w := by kernel_rfl
theorem assignableU (w : World) : (xf Tryd.f240 #[.agg #[.pointer (some ⟨7, 130, none⟩)], .iface 221 (.agg #[.pointer (some ⟨7, 136, none⟩)])]).run Tryd.prog w = .ok (.bool false) w := by kernel_rfl
theorem assignableTT (w : World) : (xf Tryd.f240 #[.agg #[.pointer (some ⟨7, 136, none⟩)], .iface 221 (.agg #[.pointer (some ⟨7, 136, none⟩)])]).run Tryd.prog w = .ok (.bool true) w := by kernel_rfl
theorem assignableES (w : World) : (xf Tryd.f240 #[.agg #[.pointer (some ⟨7, 296, none⟩)], .iface 221 (.agg #[.pointer (some ⟨7, 136, none⟩)])]).run Tryd.prog w = .ok (.bool false) w := by kernel_rfl
theorem rlm (z : Sem Value) (f : TypeId → Addr → Nat → Nat → Sem Value) (v : Value) :
    ReflectliteValue.method z f #[v] = (do match ← ReflectliteValue.parts v with | none => z | some (t, a, fl) => f t a fl (fl % 32)) := rfl
theorem partsPT (a : Addr) (w : World) : (ReflectliteValue.parts (.agg #[.pointer (some ⟨7, 138, none⟩), .pointer (some a), .int .u64 150])).run Tryd.prog w = .ok (some (138, a, 150)) w := by kernel_rfl
theorem partsTT (a : Addr) (w : World) : (ReflectliteValue.parts (.agg #[.pointer (some ⟨7, 136, none⟩), .pointer (some a), .int .u64 130])).run Tryd.prog w = .ok (some (136, a, 130)) w := by kernel_rfl
theorem partsTA (a : Addr) (w : World) : (ReflectliteValue.parts (.agg #[.pointer (some ⟨7, 136, none⟩), .pointer (some a), .int .u64 386])).run Tryd.prog w = .ok (some (136, a, 386)) w := by kernel_rfl
theorem elemOfPT (w : World) : (Rtype.elem? 138).run Tryd.prog w = .ok (some 136) w := by kernel_rfl
theorem mkTT (p : Addr) (w : World) : (ReflectliteValue.mk 136 p ReflectliteValue.flagAddr).run Tryd.prog w = .ok (.agg #[.pointer (some ⟨7, 136, none⟩), .pointer (some p), .int .u64 386]) w := by kernel_rfl
theorem directTT (w : World) : (Rtype.directlyAssignable 136 136).run Tryd.prog w = .ok true w := by kernel_rfl
theorem sizeTT (w : World) : (sizeOf 136).run Tryd.prog w = .ok 1 w := by kernel_rfl
theorem xIsNil : xf Tryd.f126 = ReflectliteValue.method (ReflectliteValue.valueError "reflectlite.Value.IsNil" 0) ReflectliteValue.isNil := by kernel_rfl
theorem xElemV : xf Tryd.f152 = ReflectliteValue.method (ReflectliteValue.valueError "reflectlite.Value.Elem" 0) ReflectliteValue.elem := by kernel_rfl
theorem isNilPT (a p : Addr) (W : World) (ha : W.cell? a = some (.pointer (some p))) : (xf Tryd.f126 #[.agg #[.pointer (some ⟨7, 138, none⟩), .pointer (some a), .int .u64 150]]).run Tryd.prog W = .ok (.bool false) W := by
  rw [xIsNil, rlm]
  simp only [Sem.run_bind, partsPT, Result.andThen]
  simp [ReflectliteValue.isNil, loadVar, isAgg, underlying, Tryd.underlying138, ha, Result.andThen]
theorem elemVPT (a p : Addr) (W : World) (ha : W.cell? a = some (.pointer (some p))) : (xf Tryd.f152 #[.agg #[.pointer (some ⟨7, 138, none⟩), .pointer (some a), .int .u64 150]]).run Tryd.prog W = .ok (.agg #[.pointer (some ⟨7, 136, none⟩), .pointer (some p), .int .u64 386]) W := by
  rw [xElemV, rlm]
  simp only [Sem.run_bind, partsPT, Result.andThen]
  simp [ReflectliteValue.elem, loadVar, isAgg, underlying, Tryd.underlying138, ha, Result.andThen, elemOfPT, mkTT]
theorem xSet : xf Tryd.f153 = ReflectliteValue.set := by kernel_rfl
theorem lit0 (a b : Value) (h1 : (#[a, b] : Array Value).size = 2) (h2 : 0 < 2) : (#[a, b] : Array Value).getLit 0 h1 h2 = a := rfl
theorem lit1 (a b : Value) (h1 : (#[a, b] : Array Value).size = 2) (h2 : 1 < 2) : (#[a, b] : Array Value).getLit 1 h1 h2 = b := rfl
theorem setTT (ta b : Addr) (e : Int) (old : Value) (W : World) (hb : W.cell? b = some (.int .i64 e)) (ht : W.cell? ta = some old) (hf : W.frozen? ta = false) :
    (xf Tryd.f153 #[.agg #[.pointer (some ⟨7, 136, none⟩), .pointer (some ta), .int .u64 386], .agg #[.pointer (some ⟨7, 136, none⟩), .pointer (some b), .int .u64 130]]).run Tryd.prog W = .ok (.tuple #[]) (W.setCell ta (.int .i64 e)) := by
  rw [xSet]
  unfold ReflectliteValue.set
  delta ReflectliteValue.set.match_3
  simp [lit0, lit1, partsTA, partsTT, directTT, ReflectliteValue.flagAddr, Sem.run_bind, Result.andThen, loadVar, isAgg, underlying, Tryd.underlying136, hb, storeVar, sizeTT, Value.cells, storeCells, Addr.add]
  rw [run_store Tryd.prog W ta _ _ (by rfl)]
  simp [ht, hf]
end Go.Proofs.YtkmacepodomdmaaDoor
