/-
  Layer 11: Split; the statements' first test.
-/
import Derived.Test.YtcmoedhpedlalaaDoorNa
import Derived.Test.YtcmoedhpedlalaaDoorRr
import Derived.Deep.DeepCutAuto
namespace Go.Proofs.YtcmoedhpedlalaaDoor
open Go.RowKit
set_option maxRecDepth 100000
set_option linter.unusedVariables false
set_option linter.unusedSimpArgs false

/-- Four slices. -/
def S4 (a b c d : Value) : Array Value := #[a, b, c, d]
/-- A slice of a block of its own. -/
def sl (g T : Nat) : Value := .slice (some ⟨g, 0, none⟩) T T
theorem S4_size (a b c d : Value) : (S4 a b c d).size = 4 := rfl
theorem S4_one (a b c d T : Nat) : (S4 (sl a T) (sl b T) (sl c T) (sl d T)).all (·.oneCell') = true := by simp [S4, sl, Value.oneCell']
theorem infoS4 : (Tryd.prog.info? 49).map (·.size) = some 4 := by kernel_rfl
theorem infoS1 : (Tryd.prog.info? 22).map (·.size) = some 1 := by kernel_rfl
theorem ZS_eq : (Tryd.prog.info? 49).bind (fun i => i.zero.map (fun z => z.cells)) = some (S4 (.slice none 0 0) (.slice none 0 0) (.slice none 0 0) (.slice none 0 0)) := by kernel_rfl
/-- What Split gives. -/
def SplitOk (w : World) (T : Nat) (l : List Nat) (e : Ending) (w' : World) : Prop := ∃ g0 g1 g2 g3, e = .returned (.tuple #[.agg (S4 (sl g0 T) (sl g1 T) (sl g2 T) (sl g3 T)), .int .i64 0]) ∧ Blk w' g0 5 (B8 (Cv.pick l 0)) ∧ Blk w' g1 5 (B8 (Cv.pick l 1)) ∧ Blk w' g2 5 (B8 (Cv.pick l 2)) ∧ Blk w' g3 5 (B8 (Cv.pick l 3)) ∧ Below w.heap.size w w' ∧ w.heap.size < g0 ∧ w.heap.size < g1 ∧ w.heap.size < g2 ∧ w.heap.size < g3
end Go.Proofs.YtcmoedhpedlalaaDoor
