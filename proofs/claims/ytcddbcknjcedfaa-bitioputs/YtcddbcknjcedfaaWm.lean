/-
  Words for layer 2 (bitio): the bits of a number; a Writer's memory; what one call may change.
-/
import Derived.Test.YtcddbcknjcedfaaBf
import Derived.Maps.AppendAt
namespace Go.Proofs.Ytcddbcknjcedfaa
open Go.RowKit
set_option linter.unusedVariables false

/-- The first j of a number's bits, the highest of 'width' first. -/
def pre (n width : Nat) : Nat → List Nat
  | 0 => []
  | j + 1 => pre n width j ++ [n / 2 ^ (width - 1 - j) % 2]
theorem pre_length (n width : Nat) : ∀ j, (pre n width j).length = j
  | 0 => rfl
  | j + 1 => by simp [pre, pre_length n width j]
theorem pre_bit (n width : Nat) : ∀ j, ∀ x ∈ pre n width j, x ≤ 1
  | 0, x, h => by simp [pre] at h
  | j + 1, x, h => by
    simp only [pre, List.mem_append, List.mem_cons, List.not_mem_nil, or_false] at h
    rcases h with h | h
    · exact pre_bit n width j x h
    · omega

/-- Nothing that was there has changed, but block g and the row. -/
structure Fr (w w' : World) (g : Nat) (row : Option Nat) : Prop where
  os : w'.os = w.os
  tape : w'.tape = w.tape
  output : w'.output = w.output
  size : w.heap.size ≤ w'.heap.size
  block : ∀ k, k < w.heap.size → k ≠ g → some k ≠ row → w'.heap[k]? = w.heap[k]?

theorem Fr.refl (w : World) (g : Nat) (row : Option Nat) : Fr w w g row := ⟨rfl, rfl, rfl, Nat.le_refl _, fun _ _ _ _ => rfl⟩

/-- The object at block g, one cell of type t, that holds a slice. -/
def Box (w : World) (t : TypeId) (g : Nat) (A : Option Addr) (n c : Nat) : Prop := w.heap[g]? = some (.cells #[.slice A n c] t (0, 0))
theorem Box.lt {w : World} {t : TypeId} {g : Nat} {A : Option Addr} {n c : Nat} (h : Box w t g A n c) : g < w.heap.size := by
  unfold Box at h
  exact (Array.getElem?_eq_some_iff.1 h).1
theorem Box.cell {w : World} {t : TypeId} {g : Nat} {A : Option Addr} {n c : Nat} (h : Box w t g A n c) : w.cell? ⟨g, 0, none⟩ = some (.slice A n c) := by
  rw [cell_of_row w g 0 _ t (0, 0) h]; rfl
theorem Box.frozen {w : World} {t : TypeId} {g : Nat} {A : Option Addr} {n c : Nat} (h : Box w t g A n c) : w.frozen? ⟨g, 0, none⟩ = false := frozen_of_row w g 0 _ t h
theorem Box.set {w : World} {t : TypeId} {g : Nat} {A A' : Option Addr} {n c n' c' : Nat} (h : Box w t g A n c) : Box (w.setCell ⟨g, 0, none⟩ (.slice A' n' c')) t g A' n' c' := by
  unfold Box at *
  simp [World.setCell, Array.getElem?_modify, h]
theorem Box.keep {w w' : World} {t : TypeId} {g : Nat} {A : Option Addr} {n c : Nat} (h : Box w t g A n c) (hb : w'.heap[g]? = w.heap[g]?) : Box w' t g A n c := hb.trans h
theorem Own.ne_box {w : World} {base : Nat} {e t : TypeId} {A A' : Option Addr} {n c n' c' g : Nat} {xs : List Value} (h : Own w base e A n c xs) (hb : Box w t g A' n' c') (hne : e ≠ t) : (Value.slice A n c).ownBlock ≠ some g := by
  rcases h.row.2 with ⟨hv, _⟩ | ⟨g', cap, cur, hv, _, hh, _⟩
  · injection hv with h1 _ _
    subst h1; simp [Value.ownBlock]
  · injection hv with h1 _ _
    subst h1
    intro he
    have : g' = g := by simpa [Value.ownBlock] using he
    subst this
    unfold Box at hb
    rw [hb] at hh
    injection hh with hh
    injection hh with _ ht
    exact hne ht.symm
theorem Own.keep {w w' : World} {base : Nat} {e : TypeId} {A : Option Addr} {n c : Nat} {xs : List Value} (h : Own w base e A n c xs) (hb : ∀ k, (Value.slice A n c).ownBlock = some k → w'.heap[k]? = w.heap[k]?) : Own w' base e A n c xs := by
  refine ⟨h.row.1, ?_⟩
  rcases h.row.2 with h1 | ⟨g, cap, cur, hv, hbg, hg, rest⟩
  · exact .inl h1
  · refine .inr ⟨g, cap, cur, hv, hbg, ?_, rest⟩
    rw [hb g (by rw [hv]; rfl)]
    exact hg

/-- A Writer: its object and its row. -/
structure Wr (w : World) (base g : Nat) (A : Option Addr) (n c : Nat) (bs : List Nat) : Prop where
  box : Box w 44 g A n c
  own : Own w base 5 A n c (U8 bs)

/-- One bit more in the row, and the row anew in the object. -/
theorem put_step {w wr w3 : World} {base g : Nat} {A1 A3 : Option Addr} {n1 c1 c3 : Nat} {bs bs3 : List Nat} {row : Option Nat} (hwr : Wr wr base g A1 n1 c1 bs) (hfr : Fr w wr g row)
    (hrw : (Value.slice A1 n1 c1).ownBlock = row ∨ ∃ j, (Value.slice A1 n1 c1).ownBlock = some j ∧ w.heap.size ≤ j)
    (hown3 : Own w3 base 5 A3 (n1 + 1) c3 (U8 bs3)) (hgrow : wr.drew.grownBy w3 (Value.slice A1 n1 c1).ownBlock)
    (hat : (Value.slice A3 (n1 + 1) c3).ownBlock = (Value.slice A1 n1 c1).ownBlock ∨ (Value.slice A3 (n1 + 1) c3).ownBlock = some (wr.drew.heap.size + 1)) :
    Wr (w3.setCell ⟨g, 0, none⟩ (.slice A3 (n1 + 1) c3)) base g A3 (n1 + 1) c3 bs3 ∧ Fr w (w3.setCell ⟨g, 0, none⟩ (.slice A3 (n1 + 1) c3)) g row ∧
      ((Value.slice A3 (n1 + 1) c3).ownBlock = row ∨ ∃ j, (Value.slice A3 (n1 + 1) c3).ownBlock = some j ∧ w.heap.size ≤ j) := by
  have hne := hwr.own.ne_box hwr.box (by decide)
  have hb3 : w3.heap[g]? = wr.heap[g]? := hgrow.block g hwr.box.lt (Ne.symm hne)
  have box3 := hwr.box.keep hb3
  have hne3 := hown3.ne_box box3 (by decide)
  refine ⟨⟨box3.set, hown3.keep fun k hk => Below.heap_setCell _ _ _ _ (by rintro rfl; exact hne3 hk)⟩, ?_, ?_⟩
  · refine ⟨hgrow.os.trans hfr.os, hgrow.tape.trans hfr.tape, hgrow.output.trans hfr.output, Nat.le_trans hfr.size (by simpa [World.setCell] using hgrow.size), fun k hk hkg hkr => ?_⟩
    rw [Below.heap_setCell _ _ _ _ hkg, ← hfr.block k hk hkg hkr]
    refine hgrow.block k (Nat.lt_of_lt_of_le hk hfr.size) ?_
    rcases hrw with e | ⟨j, e, hj⟩
    · rw [e]; exact hkr
    · rw [e]; intro h; injection h with h; omega
  · rcases hat with e | e
    · rw [e]; exact hrw
    · exact .inr ⟨_, e, Nat.le_trans hfr.size (Nat.le_succ _)⟩

section
variable {ops : Array Oper} {o : Oper} {a : Act} {K : Act → World → Prop} {Q : Exit → Act → World → Prop} {E : Prop}
/-- 'append(l, x)' in a region that draws: l a []byte of the call's own. -/
theorem step_app8 (w : World) (hgd : o.guard = none) (s x : Operand) (ho : o.op = .call { callee := .builtin .append, args := #[s, x], argTypes := #[22, 22] })
    (base : Nat) (A : Option Addr) (n c : Nat) (bs : List Nat) (b : Nat) (z : Int) (hz : z = (b : Int)) (hs : a.eval s = .slice A n c) (hown : Own w base 5 A n c (U8 bs))
    (hx : a.eval x = .slice (some ⟨w.heap.size, 0, none⟩) 1 1) (hn : n ≤ 1000000) (hbase : base ≤ w.heap.size)
    (h : ∀ A' c' w', Own w' base 5 A' (n + 1) c' (U8 (bs ++ [b])) → w.grownBy w' (Value.slice A n c).ownBlock → ((Value.slice A' (n + 1) c').ownBlock = (Value.slice A n c).ownBlock ∨ (Value.slice A' (n + 1) c').ownBlock = some (w.heap.size + 1)) → K (a.put o.dst (.slice A' (n + 1) c')) w') :
    if Region.wanted o (yielded ops a.tmps) = true then Oper.wp Try.prog o a (w.alloc (.cells #[.int .u8 z] 5)) K Q else E := by
  subst hz
  obtain ⟨i0, hi0, hz0, hz1, hz2⟩ := info_parts info5
  have hw : Region.wanted o (yielded ops a.tmps) = true := by simp [Region.wanted, hgd]
  rw [if_pos hw]
  have own2 := hown.below (B := w.heap.size) ((Below.refl _ _).alloc (Nat.le_refl _) (.cells #[.int .u8 (b : Int)] 5)) (Nat.le_refl _)
  obtain ⟨v', w', hrun, h2, h3, _, h5⟩ := run_append_own_at (P := Try.prog) (w.alloc (.cells #[.int .u8 (b : Int)] 5)) base 22 o.type 5 i0 _ 1 1 Try.underlying22 hi0 hz0 hz1 hz2 rfl (by omega) (.slice A n c) n (U8 bs) own2.row ⟨w.heap.size, 0, none⟩ 1 1 [.int .u8 (b : Int)] rfl
    (by intro j u hj; match j, hj with | 0, hj => (simp at hj; subst hj; simp [Addr.add])) (by simp [Value.oneCell']) (by unfold maxLen; omega) (by omega) (by simp; omega)
  obtain ⟨A', c', rfl⟩ := slice_of_own h2
  unfold Oper.wp execOp
  simp only [ho, resolve, invoke, builtin, Sem.run_bind, Sem.run_pure, Result.andThen_ok, List.map_toArray, List.map_cons, List.map_nil, hs, hx, hrun]
  refine h A' c' w' ⟨?_⟩ ⟨h3.os, h3.tape, h3.output, Nat.le_trans (by simp) h3.size, fun k hk hne => (h3.block k (by simp; omega) hne).trans (Below.heap_alloc _ _ _ hk)⟩ ?_
  · rw [U8_append]; exact h2
  · simpa using h5
end
end Go.Proofs.Ytcddbcknjcedfaa
