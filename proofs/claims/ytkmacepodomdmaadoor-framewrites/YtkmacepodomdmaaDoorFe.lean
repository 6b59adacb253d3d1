/-
  What errors.Is and errors.As answer of the errors that frame.read makes. The manner is that of the guide's worked examples (one fact for each entry of the model, then Go's own text walked).
-/
import Derived.Test.YtkmacepodomdmaaDoorBk
import Derived.LaidEql
import Derived.Stop.Asserts
import Derived.RowKitTokens
namespace Go.Proofs.YtkmacepodomdmaaDoor
open Go.RowKit Go.Extern.Stop Go.Stop Go.Extern
set_option maxRecDepth 100000
set_option linter.unusedVariables false
set_option linter.unusedSimpArgs false

theorem typesN : Tryd.prog.types.size = 327 := by kernel_rfl
/-- The model's entry for a function without a body. -/
noncomputable def xf (fn : Func) : Array Value → Sem Value := (Go.Extern.find fn).getD fun _ => pure (.tuple #[])
/-! Is -/
theorem eTypeOf (v : Value) (w : World) : (xf Tryd.f128 #[.iface 296 v]).run Tryd.prog w = .ok (.iface 221 (.agg #[.pointer (some ⟨7, 296, none⟩)])) w := by kernel_rfl
theorem eComparable (w : World) : (xf Tryd.f241 #[.agg #[.pointer (some ⟨7, 296, none⟩)]]).run Tryd.prog w = .ok (.bool true) w := by kernel_rfl
theorem eMethodComparable (v : Value) (w : World) : (Go.method 427 221 v "Comparable").run Tryd.prog w = .ok (241, v) w := by kernel_rfl
theorem eComp : (Tryd.prog.info? 296).map (·.comparable) = some true := by kernel_rfl
theorem eSize : (Tryd.prog.info? 316).map (·.size) = some 1 := by kernel_rfl
theorem noIsE (v : Value) (xT : TypeId) (w : World) : (Instr.typeAssert (.iface 296 v) xT 233 true).run Tryd.prog w = .ok (.tuple #[.nilIface, .bool false]) w := run_typeAssert_lacksB Tryd.underlying233 (by kernel_rfl) (by kernel_rfl) v xT w
theorem noUnwrapE (v : Value) (xT : TypeId) (w : World) : (Instr.typeAssert (.iface 296 v) xT 228 true).run Tryd.prog w = .ok (.tuple #[.nilIface, .bool false]) w := run_typeAssert_lacksB Tryd.underlying228 (by kernel_rfl) (by kernel_rfl) v xT w
theorem noUnwrapsE (v : Value) (xT : TypeId) (w : World) : (Instr.typeAssert (.iface 296 v) xT 230 true).run Tryd.prog w = .ok (.tuple #[.nilIface, .bool false]) w := run_typeAssert_lacksB Tryd.underlying230 (by kernel_rfl) (by kernel_rfl) v xT w
theorem noAsE (v : Value) (xT : TypeId) (w : World) : (Instr.typeAssert (.iface 296 v) xT 225 true).run Tryd.prog w = .ok (.tuple #[.nilIface, .bool false]) w := run_typeAssert_lacksB Tryd.underlying225 (by kernel_rfl) (by kernel_rfl) v xT w
theorem noIsU (v : Value) (xT : TypeId) (w : World) : (Instr.typeAssert (.iface 130 v) xT 233 true).run Tryd.prog w = .ok (.tuple #[.nilIface, .bool false]) w := run_typeAssert_lacksB Tryd.underlying233 (by kernel_rfl) (by kernel_rfl) v xT w
theorem noAsU (v : Value) (xT : TypeId) (w : World) : (Instr.typeAssert (.iface 130 v) xT 225 true).run Tryd.prog w = .ok (.tuple #[.nilIface, .bool false]) w := run_typeAssert_lacksB Tryd.underlying225 (by kernel_rfl) (by kernel_rfl) v xT w
theorem hasUnwrapU (v : Value) (xT : TypeId) (w : World) : (Instr.typeAssert (.iface 130 v) xT 228 true).run Tryd.prog w = .ok (.tuple #[.iface 130 v, .bool true]) w := run_typeAssert_hasB Tryd.underlying228 (by kernel_rfl) v xT w
theorem methodUnwrap (v : Value) (w : World) : (Go.method 427 130 v "Unwrap").run Tryd.prog w = .ok (233, v) w := by kernel_rfl

theorem hTypeOf (args : Array Value) (w : World) : (callFunc 128 args).run Tryd.prog w = ((xf Tryd.f128 args).run Tryd.prog w).andThen fun v w' => .ok (.value v) w' := @run_callFunc_extern Tryd.prog 128 _ (xf Tryd.f128) Tryd.func128 (by kernel_rfl) (by kernel_rfl) (by kernel_rfl) (by kernel_rfl) args w
theorem hComparable (args : Array Value) (w : World) : (callFunc 241 args).run Tryd.prog w = ((xf Tryd.f241 args).run Tryd.prog w).andThen fun v w' => .ok (.value v) w' := @run_callFunc_extern Tryd.prog 241 _ (xf Tryd.f241) Tryd.func241 (by kernel_rfl) (by kernel_rfl) (by kernel_rfl) (by kernel_rfl) args w
theorem hValueOf (args : Array Value) (w : World) : (callFunc 124 args).run Tryd.prog w = ((xf Tryd.f124 args).run Tryd.prog w).andThen fun v w' => .ok (.value v) w' := @run_callFunc_extern Tryd.prog 124 _ (xf Tryd.f124) Tryd.func124 (by kernel_rfl) (by kernel_rfl) (by kernel_rfl) (by kernel_rfl) args w
theorem hType (args : Array Value) (w : World) : (callFunc 125 args).run Tryd.prog w = ((xf Tryd.f125 args).run Tryd.prog w).andThen fun v w' => .ok (.value v) w' := @run_callFunc_extern Tryd.prog 125 _ (xf Tryd.f125) Tryd.func125 (by kernel_rfl) (by kernel_rfl) (by kernel_rfl) (by kernel_rfl) args w
theorem hIsNil (args : Array Value) (w : World) : (callFunc 126 args).run Tryd.prog w = ((xf Tryd.f126 args).run Tryd.prog w).andThen fun v w' => .ok (.value v) w' := @run_callFunc_extern Tryd.prog 126 _ (xf Tryd.f126) Tryd.func126 (by kernel_rfl) (by kernel_rfl) (by kernel_rfl) (by kernel_rfl) args w
theorem hKind (args : Array Value) (w : World) : (callFunc 226 args).run Tryd.prog w = ((xf Tryd.f226 args).run Tryd.prog w).andThen fun v w' => .ok (.value v) w' := @run_callFunc_extern Tryd.prog 226 _ (xf Tryd.f226) Tryd.func226 (by kernel_rfl) (by kernel_rfl) (by kernel_rfl) (by kernel_rfl) args w
theorem hElemT (args : Array Value) (w : World) : (callFunc 242 args).run Tryd.prog w = ((xf Tryd.f242 args).run Tryd.prog w).andThen fun v w' => .ok (.value v) w' := @run_callFunc_extern Tryd.prog 242 _ (xf Tryd.f242) Tryd.func242 (by kernel_rfl) (by kernel_rfl) (by kernel_rfl) (by kernel_rfl) args w
theorem hImplements (args : Array Value) (w : World) : (callFunc 243 args).run Tryd.prog w = ((xf Tryd.f243 args).run Tryd.prog w).andThen fun v w' => .ok (.value v) w' := @run_callFunc_extern Tryd.prog 243 _ (xf Tryd.f243) Tryd.func243 (by kernel_rfl) (by kernel_rfl) (by kernel_rfl) (by kernel_rfl) args w
theorem hAssignable (args : Array Value) (w : World) : (callFunc 240 args).run Tryd.prog w = ((xf Tryd.f240 args).run Tryd.prog w).andThen fun v w' => .ok (.value v) w' := @run_callFunc_extern Tryd.prog 240 _ (xf Tryd.f240) Tryd.func240 (by kernel_rfl) (by kernel_rfl) (by kernel_rfl) (by kernel_rfl) args w
theorem hElemV (args : Array Value) (w : World) : (callFunc 152 args).run Tryd.prog w = ((xf Tryd.f152 args).run Tryd.prog w).andThen fun v w' => .ok (.value v) w' := @run_callFunc_extern Tryd.prog 152 _ (xf Tryd.f152) Tryd.func152 (by kernel_rfl) (by kernel_rfl) (by kernel_rfl) (by kernel_rfl) args w
theorem hSet (args : Array Value) (w : World) : (callFunc 153 args).run Tryd.prog w = ((xf Tryd.f153 args).run Tryd.prog w).andThen fun v w' => .ok (.value v) w' := @run_callFunc_extern Tryd.prog 153 _ (xf Tryd.f153) Tryd.func153 (by kernel_rfl) (by kernel_rfl) (by kernel_rfl) (by kernel_rfl) args w
set_option maxHeartbeats 1000000 in
/-- errors.Is of what wraps the one that is asked for. -/
theorem is_same (g : Nat) (b : Addr) (w : World) (h1 : w.cell? ⟨g, 1, none⟩ = some (.iface 296 (.pointer (some b)))) :
    Calls Tryd.prog 84 #[.iface 130 (.pointer (some ⟨g, 0, none⟩)), .iface 296 (.pointer (some b))] w fun e w' => e = .returned (.bool true) ∧ w' = w := by
  obtain ⟨i, hi, hcmp⟩ := Option.map_eq_some_iff.1 eComp
  obtain ⟨j, hj, hjs⟩ := Option.map_eq_some_iff.1 eSize
  have h8 := hTypeOf
  have h32 := hComparable
  have tT := eTypeOf
  have cT := eComparable
  have mR := eMethodComparable
  have nE := noIsE
  have uE := noUnwrapE
  have vE := noUnwrapsE
  have nW := noIsU
  have uW := hasUnwrapU
  have mU := methodUnwrap
  have heq := run_eql_iface_ptr_same (P := Tryd.prog) w b Tryd.underlying80 Tryd.underlying296 hi hcmp hj
  have hty := run_eql_iface_types (P := Tryd.prog) 130 296 (.pointer (some ⟨g, 0, none⟩)) (.pointer (some b)) Tryd.underlying80 (by decide) w
  go_enter Tryd.func84, Tryd.ntmps84
  go_wp2
  refine wp_loop_rounds 2 ?_
  rw [rounds_succ]
  go_wp2
  rw [rounds_succ]
  go_wp2
  go_ret
  exact ⟨rfl, rfl⟩
set_option maxHeartbeats 1000000 in
/-- errors.Is of what wraps another one. -/
theorem is_other (g : Nat) (a b : Addr) (ca cb : Array Value) (ta tb : TypeId) (w : World) (h1 : w.cell? ⟨g, 1, none⟩ = some (.iface 296 (.pointer (some a)))) (hne : a ≠ b) (ha : w.heap[a.block]? = some (.cells ca ta (0, 0))) (hb : w.heap[b.block]? = some (.cells cb tb (0, 0))) :
    Calls Tryd.prog 84 #[.iface 130 (.pointer (some ⟨g, 0, none⟩)), .iface 296 (.pointer (some b))] w fun e w' => e = .returned (.bool false) ∧ w' = w := by
  obtain ⟨i, hi, hcmp⟩ := Option.map_eq_some_iff.1 eComp
  obtain ⟨j, hj, hjs⟩ := Option.map_eq_some_iff.1 eSize
  have h8 := hTypeOf
  have h32 := hComparable
  have tT := eTypeOf
  have cT := eComparable
  have mR := eMethodComparable
  have nE := noIsE
  have uE := noUnwrapE
  have vE := noUnwrapsE
  have nW := noIsU
  have uW := hasUnwrapU
  have mU := methodUnwrap
  have heq := run_eql_iface_ptr_other (P := Tryd.prog) w Tryd.underlying80 Tryd.underlying296 hi hcmp hj (by rw [hjs]; decide) hne ha hb
  have hty := run_eql_iface_types (P := Tryd.prog) 130 296 (.pointer (some ⟨g, 0, none⟩)) (.pointer (some b)) Tryd.underlying80 (by decide) w
  go_enter Tryd.func84, Tryd.ntmps84
  go_wp2
  refine wp_loop_rounds 2 ?_
  rw [rounds_succ]
  go_wp2
  rw [rounds_succ]
  go_wp2
  go_ret
  exact ⟨rfl, rfl⟩
set_option maxHeartbeats 400000 in
theorem is_nil (b : Addr) (w : World) :
    Calls Tryd.prog 84 #[.nilIface, .iface 296 (.pointer (some b))] w fun e w' => e = .returned (.bool false) ∧ w' = w := by
  have hn := run_eql_iface_nil_left (P := Tryd.prog) w 296 (.pointer (some b)) Tryd.underlying80
  go_enter Tryd.func84, Tryd.ntmps84
  go_wp2
  go_ret
  exact ⟨rfl, rfl⟩
set_option maxHeartbeats 400000 in
theorem as_nil (t : Value) (w : World) :
    Calls Tryd.prog 83 #[.nilIface, t] w fun e w' => e = .returned (.bool false) ∧ w' = w := by
  go_enter Tryd.func83, Tryd.ntmps83
  go_wp2
  go_ret
  exact ⟨rfl, rfl⟩
end Go.Proofs.YtkmacepodomdmaaDoor
