/-
  Edges as cells. No function of the program is named.
-/
import Derived.Test.YtknfpdlomgllhaaDoorBk
import Derived.Test.YtknfpdlomgllhaaDoorMz
namespace Go.Proofs.YtknfpdlomgllhaaDoor
open Go.RowKit
set_option maxRecDepth 100000
set_option linter.unusedVariables false

/-- An edge as cells. -/
def C7 (s t x a b c d : Nat) : Array Value := #[.int .i64 (s : Int), .int .i64 (t : Int), .int .u8 (x : Int), .int .u8 (a : Int), .int .u8 (b : Int), .int .u8 (c : Int), .int .u8 (d : Int)]
/-- The edge of a state and a bit. -/
def E7 (s x : Nat) : Array Value := C7 s (Cv.nx s x) x (Cv.out s x 0) (Cv.out s x 1) (Cv.out s x 2) (Cv.out s x 3)
theorem C7_one (s t x a b c d : Nat) : (C7 s t x a b c d).all (·.oneCell') = true := by simp [C7, Value.oneCell']
theorem E7_size (s x : Nat) : (E7 s x).size = 7 := rfl
theorem E7_one (s x : Nat) : (E7 s x).all (·.oneCell') = true := C7_one _ _ _ _ _ _ _
/-- Two edges as cells. -/
def E14 (s x r y : Nat) : Array Value := E7 s x ++ E7 r y
theorem E14_size (s x r y : Nat) : (E14 s x r y).size = 14 := rfl
theorem E14_one (s x r y : Nat) : (E14 s x r y).all (·.oneCell') = true := by
  unfold E14
  rw [Array.all_append, E7_one, E7_one]
  rfl
/-- Noughts. -/
def Z14 : Array Value := C7 0 0 0 0 0 0 0 ++ C7 0 0 0 0 0 0 0
theorem Z14_size : Z14.size = 14 := rfl
end Go.Proofs.YtknfpdlomgllhaaDoor
