/-
  What errors.Is and errors.As answer of the errors that frame.read makes. The manner is that of the guide's worked examples (one fact for each entry of the model, then Go's own text walked).
-/
import Derived.Test.YtboloaglakehkaaDoorBk
import Derived.LaidEql
import Derived.Stop.Asserts
import Derived.RowKitTokens
namespace Go.Proofs.YtboloaglakehkaaDoor
open Go.RowKit Go.Extern.Stop Go.Stop Go.Extern
set_option maxRecDepth 100000
set_option linter.unusedVariables false
set_option linter.unusedSimpArgs false

theorem typesN : Tryd.prog.types.size = 172 := by kernel_rfl
/-- The model's entry for a function without a body. -/
noncomputable def xf (fn : Func) : Array Value → Sem Value := (Go.Extern.find fn).getD fun _ => pure (.tuple #[])
/-! Is -/
theorem eTypeOf (v : Value) (w : World) : (xf Tryd.f71 #[.iface 140 v]).run Tryd.prog w = .ok (.iface 125 (.agg #[.pointer (some ⟨6, 140, none⟩)])) w := by kernel_rfl
theorem eComparable (w : World) : (xf Tryd.f105 #[.agg #[.pointer (some ⟨6, 140, none⟩)]]).run Tryd.prog w = .ok (.bool true) w := by kernel_rfl
theorem eMethodComparable (v : Value) (w : World) : (Go.method 272 125 v "Comparable").run Tryd.prog w = .ok (105, v) w := by kernel_rfl
theorem eComp : (Tryd.prog.info? 140).map (·.comparable) = some true := by kernel_rfl
theorem eSize : (Tryd.prog.info? 161).map (·.size) = some 1 := by kernel_rfl
theorem noIsE (v : Value) (xT : TypeId) (w : World) : (Instr.typeAssert (.iface 140 v) xT 137 true).run Tryd.prog w = .ok (.tuple #[.nilIface, .bool false]) w := run_typeAssert_lacksB Tryd.underlying137 (by kernel_rfl) (by kernel_rfl) v xT w
theorem noUnwrapE (v : Value) (xT : TypeId) (w : World) : (Instr.typeAssert (.iface 140 v) xT 132 true).run Tryd.prog w = .ok (.tuple #[.nilIface, .bool false]) w := run_typeAssert_lacksB Tryd.underlying132 (by kernel_rfl) (by kernel_rfl) v xT w
theorem noUnwrapsE (v : Value) (xT : TypeId) (w : World) : (Instr.typeAssert (.iface 140 v) xT 134 true).run Tryd.prog w = .ok (.tuple #[.nilIface, .bool false]) w := run_typeAssert_lacksB Tryd.underlying134 (by kernel_rfl) (by kernel_rfl) v xT w
theorem noAsE (v : Value) (xT : TypeId) (w : World) : (Instr.typeAssert (.iface 140 v) xT 129 true).run Tryd.prog w = .ok (.tuple #[.nilIface, .bool false]) w := run_typeAssert_lacksB Tryd.underlying129 (by kernel_rfl) (by kernel_rfl) v xT w
theorem noIsU (v : Value) (xT : TypeId) (w : World) : (Instr.typeAssert (.iface 88 v) xT 137 true).run Tryd.prog w = .ok (.tuple #[.nilIface, .bool false]) w := run_typeAssert_lacksB Tryd.underlying137 (by kernel_rfl) (by kernel_rfl) v xT w
theorem noAsU (v : Value) (xT : TypeId) (w : World) : (Instr.typeAssert (.iface 88 v) xT 129 true).run Tryd.prog w = .ok (.tuple #[.nilIface, .bool false]) w := run_typeAssert_lacksB Tryd.underlying129 (by kernel_rfl) (by kernel_rfl) v xT w
theorem hasUnwrapU (v : Value) (xT : TypeId) (w : World) : (Instr.typeAssert (.iface 88 v) xT 132 true).run Tryd.prog w = .ok (.tuple #[.iface 88 v, .bool true]) w := run_typeAssert_hasB Tryd.underlying132 (by kernel_rfl) v xT w
theorem methodUnwrap (v : Value) (w : World) : (Go.method 272 88 v "Unwrap").run Tryd.prog w = .ok (97, v) w := by kernel_rfl

theorem hTypeOf (args : Array Value) (w : World) : (callFunc 71 args).run Tryd.prog w = ((xf Tryd.f71 args).run Tryd.prog w).andThen fun v w' => .ok (.value v) w' := @run_callFunc_extern Tryd.prog 71 _ (xf Tryd.f71) Tryd.func71 (by kernel_rfl) (by kernel_rfl) (by kernel_rfl) (by kernel_rfl) args w
theorem hComparable (args : Array Value) (w : World) : (callFunc 105 args).run Tryd.prog w = ((xf Tryd.f105 args).run Tryd.prog w).andThen fun v w' => .ok (.value v) w' := @run_callFunc_extern Tryd.prog 105 _ (xf Tryd.f105) Tryd.func105 (by kernel_rfl) (by kernel_rfl) (by kernel_rfl) (by kernel_rfl) args w
theorem hValueOf (args : Array Value) (w : World) : (callFunc 67 args).run Tryd.prog w = ((xf Tryd.f67 args).run Tryd.prog w).andThen fun v w' => .ok (.value v) w' := @run_callFunc_extern Tryd.prog 67 _ (xf Tryd.f67) Tryd.func67 (by kernel_rfl) (by kernel_rfl) (by kernel_rfl) (by kernel_rfl) args w
theorem hType (args : Array Value) (w : World) : (callFunc 68 args).run Tryd.prog w = ((xf Tryd.f68 args).run Tryd.prog w).andThen fun v w' => .ok (.value v) w' := @run_callFunc_extern Tryd.prog 68 _ (xf Tryd.f68) Tryd.func68 (by kernel_rfl) (by kernel_rfl) (by kernel_rfl) (by kernel_rfl) args w
theorem hIsNil (args : Array Value) (w : World) : (callFunc 69 args).run Tryd.prog w = ((xf Tryd.f69 args).run Tryd.prog w).andThen fun v w' => .ok (.value v) w' := @run_callFunc_extern Tryd.prog 69 _ (xf Tryd.f69) Tryd.func69 (by kernel_rfl) (by kernel_rfl) (by kernel_rfl) (by kernel_rfl) args w
theorem hKind (args : Array Value) (w : World) : (callFunc 92 args).run Tryd.prog w = ((xf Tryd.f92 args).run Tryd.prog w).andThen fun v w' => .ok (.value v) w' := @run_callFunc_extern Tryd.prog 92 _ (xf Tryd.f92) Tryd.func92 (by kernel_rfl) (by kernel_rfl) (by kernel_rfl) (by kernel_rfl) args w
theorem hElemT (args : Array Value) (w : World) : (callFunc 106 args).run Tryd.prog w = ((xf Tryd.f106 args).run Tryd.prog w).andThen fun v w' => .ok (.value v) w' := @run_callFunc_extern Tryd.prog 106 _ (xf Tryd.f106) Tryd.func106 (by kernel_rfl) (by kernel_rfl) (by kernel_rfl) (by kernel_rfl) args w
theorem hImplements (args : Array Value) (w : World) : (callFunc 107 args).run Tryd.prog w = ((xf Tryd.f107 args).run Tryd.prog w).andThen fun v w' => .ok (.value v) w' := @run_callFunc_extern Tryd.prog 107 _ (xf Tryd.f107) Tryd.func107 (by kernel_rfl) (by kernel_rfl) (by kernel_rfl) (by kernel_rfl) args w
theorem hAssignable (args : Array Value) (w : World) : (callFunc 104 args).run Tryd.prog w = ((xf Tryd.f104 args).run Tryd.prog w).andThen fun v w' => .ok (.value v) w' := @run_callFunc_extern Tryd.prog 104 _ (xf Tryd.f104) Tryd.func104 (by kernel_rfl) (by kernel_rfl) (by kernel_rfl) (by kernel_rfl) args w
theorem hElemV (args : Array Value) (w : World) : (callFunc 76 args).run Tryd.prog w = ((xf Tryd.f76 args).run Tryd.prog w).andThen fun v w' => .ok (.value v) w' := @run_callFunc_extern Tryd.prog 76 _ (xf Tryd.f76) Tryd.func76 (by kernel_rfl) (by kernel_rfl) (by kernel_rfl) (by kernel_rfl) args w
theorem hSet (args : Array Value) (w : World) : (callFunc 77 args).run Tryd.prog w = ((xf Tryd.f77 args).run Tryd.prog w).andThen fun v w' => .ok (.value v) w' := @run_callFunc_extern Tryd.prog 77 _ (xf Tryd.f77) Tryd.func77 (by kernel_rfl) (by kernel_rfl) (by kernel_rfl) (by kernel_rfl) args w
set_option maxHeartbeats 1000000 in
/-- errors.Is of what wraps the one that is asked for. -/
theorem is_same (g : Nat) (b : Addr) (w : World) (h1 : w.cell? ⟨g, 1, none⟩ = some (.iface 140 (.pointer (some b)))) :
    Calls Tryd.prog 57 #[.iface 88 (.pointer (some ⟨g, 0, none⟩)), .iface 140 (.pointer (some b))] w fun e w' => e = .returned (.bool true) ∧ w' = w := by
  obtain ⟨i, hi, hcmp⟩ := Option.map_eq_some_iff.1 eComp
  obtain ⟨j, hj, hjs⟩ := Option.map_eq_some_iff.1 eSize
  have h8 := hTypeOf
  have h32 := hComparable
  have tT := eTypeOf
  have cT := eComparable
  have mR := eMethodComparable
  have nE := noIsE
  have uE := noUnwrapE
  have vE := noUnwrapsE
  have nW := noIsU
  have uW := hasUnwrapU
  have mU := methodUnwrap
  have heq := run_eql_iface_ptr_same (P := Tryd.prog) w b Tryd.underlying67 Tryd.underlying140 hi hcmp hj
  have hty := run_eql_iface_types (P := Tryd.prog) 88 140 (.pointer (some ⟨g, 0, none⟩)) (.pointer (some b)) Tryd.underlying67 (by decide) w
  go_enter Tryd.func57, Tryd.ntmps57
  go_wp2
  refine wp_loop_rounds 2 ?_
  rw [rounds_succ]
  go_wp2
  rw [rounds_succ]
  go_wp2
  go_ret
  exact ⟨rfl, rfl⟩
set_option maxHeartbeats 1000000 in
/-- errors.Is of what wraps another one. -/
theorem is_other (g : Nat) (a b : Addr) (ca cb : Array Value) (ta tb : TypeId) (w : World) (h1 : w.cell? ⟨g, 1, none⟩ = some (.iface 140 (.pointer (some a)))) (hne : a ≠ b) (ha : w.heap[a.block]? = some (.cells ca ta (0, 0))) (hb : w.heap[b.block]? = some (.cells cb tb (0, 0))) :
    Calls Tryd.prog 57 #[.iface 88 (.pointer (some ⟨g, 0, none⟩)), .iface 140 (.pointer (some b))] w fun e w' => e = .returned (.bool false) ∧ w' = w := by
  obtain ⟨i, hi, hcmp⟩ := Option.map_eq_some_iff.1 eComp
  obtain ⟨j, hj, hjs⟩ := Option.map_eq_some_iff.1 eSize
  have h8 := hTypeOf
  have h32 := hComparable
  have tT := eTypeOf
  have cT := eComparable
  have mR := eMethodComparable
  have nE := noIsE
  have uE := noUnwrapE
  have vE := noUnwrapsE
  have nW := noIsU
  have uW := hasUnwrapU
  have mU := methodUnwrap
  have heq := run_eql_iface_ptr_other (P := Tryd.prog) w Tryd.underlying67 Tryd.underlying140 hi hcmp hj (by rw [hjs]; decide) hne ha hb
  have hty := run_eql_iface_types (P := Tryd.prog) 88 140 (.pointer (some ⟨g, 0, none⟩)) (.pointer (some b)) Tryd.underlying67 (by decide) w
  go_enter Tryd.func57, Tryd.ntmps57
  go_wp2
  refine wp_loop_rounds 2 ?_
  rw [rounds_succ]
  go_wp2
  rw [rounds_succ]
  go_wp2
  go_ret
  exact ⟨rfl, rfl⟩
set_option maxHeartbeats 400000 in
theorem is_nil (b : Addr) (w : World) :
    Calls Tryd.prog 57 #[.nilIface, .iface 140 (.pointer (some b))] w fun e w' => e = .returned (.bool false) ∧ w' = w := by
  have hn := run_eql_iface_nil_left (P := Tryd.prog) w 140 (.pointer (some b)) Tryd.underlying67
  go_enter Tryd.func57, Tryd.ntmps57
  go_wp2
  go_ret
  exact ⟨rfl, rfl⟩
set_option maxHeartbeats 400000 in
theorem as_nil (t : Value) (w : World) :
    Calls Tryd.prog 56 #[.nilIface, t] w fun e w' => e = .returned (.bool false) ∧ w' = w := by
  go_enter Tryd.func56, Tryd.ntmps56
  go_wp2
  go_ret
  exact ⟨rfl, rfl⟩
end Go.Proofs.YtboloaglakehkaaDoor
