/-
  Layer 15: rows of numbers; Of.
-/
import Derived.Test.YtkmacepodomdmaaDoorZc
import Derived.Test.YtkmacepodomdmaaDoorNu
import Derived.Test.YtkmacepodomdmaaDoorMh
namespace Go.Proofs.YtkmacepodomdmaaDoor
open Go.RowKit
set_option maxRecDepth 100000
set_option linter.unusedVariables false
set_option linter.unusedSimpArgs false

theorem infoU32 : (Tryd.prog.info? 23).map (·.size) = some 1 := by kernel_rfl
theorem infoMap (b : Int) (m : Nat) : (Tryd.prog.info? 30).map (·.size) = some (mv b m).size := (show (Tryd.prog.info? 30).map (·.size) = some 2 by kernel_rfl)
theorem zeroMap : (Tryd.prog.info? 30).bind (fun i => i.zero.map (fun z => z.cells)) = some (mv 0 0) := by kernel_rfl
theorem mv_all (b : Int) (m : Nat) : (mv b m).all (·.oneCell') = true := by simp [mv, Value.oneCell']
theorem mv_set (b : Int) (m m2 : Nat) : (mv b m).setIfInBounds 1 (.int .u32 (m2 : Int)) = mv b m2 := rfl

/-- How far a number is ahead. -/
def dsn (base : Int) (a : Nat) : Nat := (((a : Int) - base) % 65536).toNat
theorem dsn_eq (base : Int) (a : Nat) : ((dsn base a : Nat) : Int) = ((a : Int) - base) % 65536 := by unfold dsn; omega
theorem dsn_lt (base : Int) (a : Nat) : dsn base a < 65536 := by unfold dsn; omega
def orS (base : Int) (m a : Nat) : Nat := if bf a base = true ∨ dsn base a = 0 then m else m ||| 2 ^ (dsn base a - 1)
/-- The bits of those that have come. -/
def orl (base : Int) (l : List Nat) : Nat := l.foldl (orS base) 0
def farA (base : Int) (l : List Nat) : Bool := l.any fun a => !bf a base && decide (32 < dsn base a)
def ownA (base : Int) (l : List Nat) : Bool := l.any fun a => decide (dsn base a = 0)
theorem bf_zero {base : Int} {a : Nat} (h : dsn base a = 0) (hb : 0 ≤ base ∧ base < 65536) (ha : a < 65536) : bf a base = false := by
  have := dsn_eq base a
  exact bf_false (by omega)
theorem orl_take (base : Int) (l : List Nat) (k : Nat) (h : k < l.length) : orl base (l.take (k + 1)) = orS base (orl base (l.take k)) (l.getD k 0) := by
  unfold orl
  rw [List.take_succ_eq_append_getElem h, List.foldl_append, Bm.getD_lt _ _ _ h]
  rfl
theorem any_take (f : Nat → Bool) (l : List Nat) (k : Nat) (h : k < l.length) : (l.take (k + 1)).any f = ((l.take k).any f || f (l.getD k 0)) := by
  rw [List.take_succ_eq_append_getElem h, List.any_append, Bm.getD_lt _ _ _ h]
  simp
theorem any_of_take {f : Nat → Bool} {l : List Nat} {k : Nat} (h : (l.take k).any f = true) : l.any f = true := by
  rw [List.any_eq_true] at *
  obtain ⟨x, hx, hf⟩ := h
  exact ⟨x, List.mem_of_mem_take hx, hf⟩
def ofV (base : Int) (l : List Nat) : Array Value := if farA base l = true ∨ ownA base l = true then mv 0 0 else mv base (orl base l)
def ofE (base : Int) (l : List Nat) : Int := if farA base l = true then 11 else if ownA base l = true then 13 else 0
theorem or_lt {m p : Nat} (h : m < 4294967296) (hp : p < 4294967296) : m ||| p < 4294967296 := Nat.or_lt_two_pow (n := 32) h hp
theorem orS_lt {base : Int} {m a : Nat} (h : m < 4294967296) (hd : dsn base a ≤ 32) : orS base m a < 4294967296 := by
  unfold orS
  split
  · exact h
  · exact or_lt h (Nat.lt_of_lt_of_le (Nat.pow_lt_pow_right (by omega) (show dsn base a - 1 < 32 by omega)) (by decide))

end Go.Proofs.YtkmacepodomdmaaDoor
