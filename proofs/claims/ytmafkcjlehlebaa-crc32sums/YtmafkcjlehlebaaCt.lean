/-
  One step of the reference's Sum of 32 bits: the polynomial's coefficients are laid as an array of thirty-three bytes.
-/
import Derived.Test.YtmafkcjlehlebaaCg
import Derived.Test.YtmafkcjlehlebaaCp
import Derived.Laws.Tables
namespace Go.Proofs.Ytmafkcjlehlebaa
open Go.RowKit
set_option linter.unusedVariables false

/-- The array's cells. -/
def PC : Array Value := #[.int .u8 1, .int .u8 0, .int .u8 0, .int .u8 0, .int .u8 0, .int .u8 0, .int .u8 1, .int .u8 0, .int .u8 0, .int .u8 1, .int .u8 1, .int .u8 0, .int .u8 0, .int .u8 0, .int .u8 0, .int .u8 0, .int .u8 1, .int .u8 0, .int .u8 0, .int .u8 0, .int .u8 1, .int .u8 1, .int .u8 1, .int .u8 0, .int .u8 1, .int .u8 1, .int .u8 0, .int .u8 1, .int .u8 1, .int .u8 0, .int .u8 1, .int .u8 1, .int .u8 1]
theorem PC_list : PC.toList = U8 Crc.pcL := rfl
theorem PC_size : PC.size = 33 := rfl

theorem built48 : Try.prog.built 48 [(0, .int .u8 1), (6, .int .u8 1), (9, .int .u8 1), (10, .int .u8 1), (16, .int .u8 1), (20, .int .u8 1), (21, .int .u8 1), (22, .int .u8 1), (24, .int .u8 1), (25, .int .u8 1), (27, .int .u8 1), (28, .int .u8 1), (30, .int .u8 1), (31, .int .u8 1), (32, .int .u8 1)] = some PC := by kernel_rfl
theorem info48 : (Try.prog.info? 48).map (fun i => (i.zero.map (fun z => z.cells.size), i.size)) = some (some 33, 33) := by kernel_rfl

theorem alloc48 (w : World) : ∃ old : Array Value, old.size = 33 ∧ (Instr.alloc 48 true (.tuple #[])).run Try.prog w = .ok (.pointer (some ⟨w.heap.size, 0, none⟩)) (w.alloc (.cells old 48)) := by
  cases hi : Try.prog.info? 48 with
  | none => have := info48; rw [hi] at this; cases this
  | some i =>
    have h := info48
    rw [hi] at h
    simp only [Option.map_some, Option.some.injEq, Prod.mk.injEq] at h
    cases hz : i.zero with
    | none => rw [hz] at h; simp at h
    | some z =>
      rw [hz] at h
      simp only [Option.map_some, Option.some.injEq] at h
      refine ⟨z.cells, h.1, ?_⟩
      simp [Instr.alloc, zeroValue, typeInfo, hi, hz, newVar, newRow]

/-- What holds behind it. -/
structure Laid (w w' : World) : Prop where
  size : w'.heap.size = w.heap.size + 1
  row : w'.heap[w.heap.size]? = some (.cells PC 48 (0, 0))
  bel : Below w.heap.size w w'

theorem reg17 {ops : Array Oper} {Q : Exit → Act → World → Prop} {a : Act} {w : World} {o1 o2 o3 : Oper} (g1 : o1.guard = none) (g2 : o2.guard = none) (g3 : o3.guard = none)
    (h1 : o1.op = .build 48 #[(0, .const (.int .u8 1)), (6, .const (.int .u8 1)), (9, .const (.int .u8 1)), (10, .const (.int .u8 1)), (16, .const (.int .u8 1)), (20, .const (.int .u8 1)), (21, .const (.int .u8 1)), (22, .const (.int .u8 1)), (24, .const (.int .u8 1)), (25, .const (.int .u8 1)), (27, .const (.int .u8 1)), (28, .const (.int .u8 1)), (30, .const (.int .u8 1)), (31, .const (.int .u8 1)), (32, .const (.int .u8 1))])
    (h2 : o2.op = .alloc 48) (h3 : o3.op = .store 48 (.tmp 8) (.tmp 53)) (d1 : o1.dst = some 53) (d2 : o2.dst = some 8) (hs : 53 < a.tmps.size)
    (h : ∀ w', Laid w w' → Q .normal (((a.put (some 53) (.agg PC)).put (some 8) (.pointer (some ⟨w.heap.size, 0, none⟩))).put o3.dst undef) w') : wpList Try.prog ops Q [o1, o2, o3] a w := by
  refine wpList_build g1 48 _ h1 (by show (Try.prog.built 48 _).isSome = true; kernel_rfl) ?_
  generalize hB : Try.prog.built 48 _ = B
  have e : B = some PC := by rw [← hB]; kernel_rfl
  rw [e, Option.getD_some]
  clear hB e
  obtain ⟨old, ho, hrun⟩ := alloc48 w
  refine wpList_plain g2 fun K hK => ?_
  unfold Oper.wp execOp
  simp only [h2, Sem.run_bind, hrun, Result.andThen_ok, Sem.run_pure]
  refine hK _ _ ?_
  rw [d1, d2]
  have hg : (w.alloc (.cells old 48)).heap[w.heap.size]? = some (.cells old 48 (0, 0)) := by
    show (w.heap.push _)[w.heap.size]? = _
    simp
  refine wpList_store_row g3 48 _ _ h3 w.heap.size PC ?_ ?_ 48 old hg (by kernel_rfl) (by rw [ho]; rfl) (by kernel_rfl) ?_
  · simp [Act.put, Act.eval, Array.getD]
    omega
  · simp [Act.put, Act.eval, Array.getD]
    rw [dif_pos hs, Array.getElem_setIfInBounds (by simpa using hs), if_neg (by decide), Array.getElem_setIfInBounds hs, if_pos rfl]
  · refine wpList_nil (h _ ⟨by simp, setRow_heap _ _ _ _ _ _ hg, ?_⟩)
    refine ⟨rfl, rfl, rfl, by simp, fun k hk => ?_⟩
    rw [setRow_other _ _ _ _ (by omega)]
    exact Below.heap_alloc _ _ _ hk
end Go.Proofs.Ytmafkcjlehlebaa
