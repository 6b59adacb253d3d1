/-
  Layer 33: Apart, either way; the first test.
-/
import Derived.Test.YtoiibjblaafgpabShb
namespace Go.Proofs.Ytoiibjblaafgpab
open Go.RowKit
set_option linter.unusedVariables false
set_option linter.unusedSimpArgs false
set_option maxRecDepth 100000

theorem Own.whole_ {w : World} {base : Nat} {e : TypeId} {g n : Nat} {xs : List Value} (h : Own w base e (some ⟨g, 0, none⟩) n n xs) : Blk w g e xs.toArray := by
  rcases h.row.2 with ⟨hv, _⟩ | ⟨g', cap, cur, hv, hb, hg, h1, h2, h3, h4⟩
  · cases hv
  · injection hv with e1 e2 e3
    injection e1 with e1
    injection e1 with e1
    subst e1 e3
    have : cur = xs.toArray := by
      rw [← h4, List.take_of_length_le (by rw [Array.length_toList]; omega)]
    show w.heap[g]? = _
    rw [hg, this]
/-- Numbers as a block of ints. -/
def Q64 (l : List Nat) : Array Value := (I64 (In l)).toArray
theorem Q64_size (l : List Nat) : (Q64 l).size = l.length := by unfold Q64; rw [List.size_toArray, I64_length, In_length]
theorem Q64_get (l : List Nat) (i : Nat) (h : i < l.length) : (Q64 l)[i]? = some (.int .i64 ((l.getD i 0 : Nat) : Int)) := by
  unfold Q64; rw [List.getElem?_toArray, I64_get _ i (by rw [In_length]; exact h), In_get]
theorem Q64_set (l : List Nat) (i x : Nat) : (Q64 l).setIfInBounds i (.int .i64 (x : Int)) = Q64 (l.set i x) := by
  unfold Q64; rw [← In_set]; unfold I64; simp [List.map_set]
theorem mk64 (n : Nat) : (madeCells (Value.int .i64 0).cells (n * 1)).toList = I64 (In (List.replicate n 0)) := by
  show (madeCells #[Value.int .i64 0] (n * 1)).toList = _
  rw [toList_madeCells_one, Nat.mul_one]
  simp [I64, In]
theorem cell64one : (Try.prog.info? 3).map (·.size) = some 1 := by kernel_rfl
theorem Rd.cellN {w : World} {B : Nat} {A : Option Addr} {n : Nat} {l : List Nat} (h : Rd w B A n (I64 (In l))) (k : Nat) (hk : k < n) :
    ∃ b off, A = some ⟨b, off, none⟩ ∧ b < B ∧ w.cell? ⟨b, off + k, none⟩ = some (.int .i64 ((l.getD k 0 : Nat) : Int)) := by
  obtain ⟨b, off, e, hlt, hc⟩ := h.cell64 k hk
  exact ⟨b, off, e, hlt, by rw [hc, In_get]⟩
theorem tk_start (n : Nat) (O l : List Nat) : Sh.Tk n O l (List.replicate n 0) 0 := ⟨by simp, fun j hj => absurd hj (by omega)⟩
theorem range_getD (n k : Nat) (h : k < n) : (List.range n).getD k 0 = k := by rw [Bm.getD_lt _ _ _ (by simpa using h), List.getElem_range]
/-- The answer of Apart. -/
def apr33 (n rows : Nat) (A : List Nat) : Nat := if n < 2 then 0 else Sh.apm A n (n - 1)
end Go.Proofs.Ytoiibjblaafgpab
