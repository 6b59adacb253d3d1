/-
  Edges against edges: '==' of arrays and structs.
-/
import Derived.Test.YtlnjealhiikmeaaDoorTa
namespace Go.Proofs.YtlnjealhiikmeaaDoor
open Go.RowKit
set_option linter.unusedVariables false
set_option linter.unusedSimpArgs false

theorem part5 (cs : Array Value) (off : Nat) (v : Value) (h : cs[off]? = some v) (w : World) : (part 5 cs off).run Tryd.prog w = .ok v w := by
  simp [part, isAgg, run_underlying Tryd.underlying5, h]
theorem part3 (cs : Array Value) (off : Nat) (v : Value) (h : cs[off]? = some v) (w : World) : (part 3 cs off).run Tryd.prog w = .ok v w := by
  simp [part, isAgg, run_underlying Tryd.underlying3, h]
theorem size5 (w : World) : (sizeOf 5).run Tryd.prog w = .ok 1 w := by
  obtain ⟨i0, hi0, hz0, hz1, hz2⟩ := info_parts info5
  simp [sizeOf, typeInfo, hi0, hz1]
theorem eq4 (d : Nat) (a b c e : Nat) (w : World) : (Op.equalIn (d + 2) 22 (.agg #[.int .u8 (a : Int), .int .u8 (b : Int), .int .u8 (c : Int), .int .u8 (e : Int)]) (.agg #[.int .u8 (a : Int), .int .u8 (b : Int), .int .u8 (c : Int), .int .u8 (e : Int)])).run Tryd.prog w = .ok true w := by
  rw [Op.equalIn]
  simp [run_underlying Tryd.underlying22, size5, Std.Legacy.Range.forIn_eq_forIn_range', List.range', part5, run_equalIn_int]
theorem eql4 (a b c e : Nat) (w : World) : (binOp .eql 22 (.agg #[.int .u8 (a : Int), .int .u8 (b : Int), .int .u8 (c : Int), .int .u8 (e : Int)]) (.agg #[.int .u8 (a : Int), .int .u8 (b : Int), .int .u8 (c : Int), .int .u8 (e : Int)])).run Tryd.prog w = .ok (.bool true) w := by
  rw [run_eql_struct, show (10000 : Nat) = 9998 + 2 from rfl, eq4]
  rfl
theorem part4 (s t x a b c e : Nat) (w : World) : (part 22 (C7 s t x a b c e) 3).run Tryd.prog w = .ok (.agg #[.int .u8 (a : Int), .int .u8 (b : Int), .int .u8 (c : Int), .int .u8 (e : Int)]) w := by
  have h4 : (Tryd.prog.info? 22).map (·.size) = some 4 := by kernel_rfl
  cases hq : Tryd.prog.info? 22 with
  | none => simp [hq] at h4
  | some i =>
    have h5 : i.size = 4 := by simpa [hq] using h4
    simp [part, isAgg, run_underlying Tryd.underlying22, sizeOf, typeInfo, hq, h5, C7]
theorem eqE (s t x a b c e : Nat) (w : World) : (binOp .neq 44 (.agg (C7 s t x a b c e)) (.agg (C7 s t x a b c e))).run Tryd.prog w = .ok (.bool false) w := by
  have h0 : (C7 s t x a b c e)[0]? = some (.int .i64 (s : Int)) := rfl
  have h1 : (C7 s t x a b c e)[1]? = some (.int .i64 (t : Int)) := rfl
  have h2 : (C7 s t x a b c e)[2]? = some (.int .u8 (x : Int)) := rfl
  rw [run_neq_struct, show (10000 : Nat) = 9999 + 1 from rfl, run_equalIn_agg _ _ _ _ _ (by kernel_rfl) (by kernel_rfl), show (9999 : Nat) = 9997 + 2 from rfl]
  simp [Program.fieldsOf, Tryd.underlying44, Op.eqFields, part3 _ _ _ h0, part3 _ _ _ h1, part5 _ _ _ h2, part4, eq4, run_equalIn_int]
theorem neE (s t x a b c e s' t' x' a' b' c' e' : Nat) (hne : s ≠ s') (w : World) : (binOp .neq 44 (.agg (C7 s t x a b c e)) (.agg (C7 s' t' x' a' b' c' e'))).run Tryd.prog w = .ok (.bool true) w := by
  have h0 : (C7 s t x a b c e)[0]? = some (.int .i64 (s : Int)) := rfl
  have h1 : (C7 s' t' x' a' b' c' e')[0]? = some (.int .i64 (s' : Int)) := rfl
  have hb : ((s : Int) == (s' : Int)) = false := by simp; omega
  rw [run_neq_struct, show (10000 : Nat) = 9999 + 1 from rfl, run_equalIn_agg _ _ _ _ _ (by kernel_rfl) (by kernel_rfl), show (9999 : Nat) = 9998 + 1 from rfl]
  simp [Program.fieldsOf, Tryd.underlying44, Op.eqFields, part3 _ _ _ h0, part3 _ _ _ h1, run_equalIn_int, hb]

set_option maxHeartbeats 400000 in
set_option maxRecDepth 100000 in
/-- 'same' of edges of one state and bit. -/
theorem sameC (s x : Nat) (w : World) : Calls Tryd.prog 24 #[.agg (E7 s x), .agg (E7 s x)] w fun e w' => e = .returned (.bool true) ∧ Below w.heap.size w w' := by
  have HQ := Lib.hid eql4
  unfold E7
  generalize Cv.nx s x = t at *
  generalize Cv.out s x 0 = a at *
  generalize Cv.out s x 1 = b at *
  generalize Cv.out s x 2 = c at *
  generalize Cv.out s x 3 = d at *
  have heq := HQ.out a b c d
  go_enter Tryd.func24, Tryd.ntmps24
  go_upto_region 1 with (first | (refine at_box rfl 44 _ rfl (C7 s t x a b c d) rfl ?_; intro w1 h1) | (refine at_box rfl 49 _ rfl (C7 s t x a b c d) rfl ?_; intro w2 h2))
  have q := h1.row.after h2.bel
  have r := h2.row
  have bel := Below.then_ h1.bel h2.bel
  have q0 := q.cell 0
  have q1 := q.cell 1
  have q2 := q.cell 2
  have q3 := q.cell 3
  have q4 := q.cell 4
  have q5 := q.cell 5
  have q6 := q.cell 6
  have r0 := r.cell 0
  have r1 := r.cell 1
  have r2 := r.cell 2
  have r3 := r.cell 3
  have r4 := r.cell 4
  have r5 := r.cell 5
  have r6 := r.cell 6
  simp only [C7, List.getElem?_toArray, List.getElem?_cons_zero, List.getElem?_cons_succ] at q0 q1 q2 q3 q4 q5 q6 r0 r1 r2 r3 r4 r5 r6
  clear q r h1 h2
  go_wp2
  go_ret
  exact ⟨rfl, bel⟩
end Go.Proofs.YtlnjealhiikmeaaDoor
