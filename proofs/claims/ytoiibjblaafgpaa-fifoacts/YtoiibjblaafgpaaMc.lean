/-
  One cell of a block is written: behind it the world is a letter.
-/
import Derived.Test.YtoiibjblaafgpaaBk
namespace Go.Proofs.Ytoiibjblaafgpaa
open Go.RowKit
set_option maxRecDepth 100000
set_option linter.unusedVariables false

theorem upd_set {w : World} {g : Nat} {t : TypeId} {cs : Array Value} (h : Blk w g t cs) (i : Nat) (v : Value) : Upd w (w.setCell ⟨g, i, none⟩ v) g t (cs.setIfInBounds i v) :=
  ⟨by simp, h.set i v, fun k hk => heap_setCell_other w ⟨g, i, none⟩ k v hk, rfl, rfl, rfl⟩
theorem Upd.grown {w w' : World} {g : Nat} {t : TypeId} {cs : Array Value} (h : Upd w w' g t cs) : w.grownBy w' (some g) :=
  ⟨h.os, h.tape, h.output, by rw [h.size]; exact Nat.le_refl _, fun k _ hne => h.oth k (fun e => hne (by rw [e]))⟩
theorem Own.upd {w w' : World} {base g : Nat} {e t : TypeId} {A : Option Addr} {n c : Nat} {xs : List Value} {cs : Array Value} (h : Own w base e A n c xs) (hu : Upd w w' g t cs) (hg : g < base) : Own w' base e A n c xs :=
  ⟨h.row.kept hu.grown (.inr fun hq => by have := (h.block g hq).1; omega)⟩
section
variable {P : Program} {ops : Array Oper} {rest : List Oper} {o : Oper} {a : Act} {w : World} {Q : Exit → Act → World → Prop}
theorem run_storeVar_cell (g i : Nat) (ty : TypeId) (v : Value) (t : TypeId) (cs : Array Value) (hg : Blk w g t cs) (hlt : i < cs.size) (hi : (P.info? ty).map (·.size) = some 1) (h1 : v.oneCell' = true) :
    (storeVar ty ⟨g, i, none⟩ v).run P w = .ok () (w.setCell ⟨g, i, none⟩ v) := by
  have hc : v.cells = #[v] := by cases v <;> first | rfl | cases h1
  have hcell : (w.cell? ⟨g, i, none⟩).isSome = true := by rw [hg.cell, Array.getElem?_eq_getElem hlt]; rfl
  have := run_storeCells_cells (P := P) g i [v] 0 w (fun j hj => by
    obtain rfl : j = 0 := by simp at hj; omega
    simpa using hcell) (fun j hj => by simpa using hg.froz (i + j)) (fun u hu => by simp at hu; subst hu; exact h1)
  cases hq : P.info? ty with
  | none => simp [hq] at hi
  | some k =>
    have hs : k.size = 1 := by simpa [hq] using hi
    simp only [Nat.add_zero] at this
    simp [storeVar, sizeOf, typeInfo, hq, hc, hs, this, World.setCells]
/-- One cell is written. -/
theorem at_cell (hgd : o.guard = none) (ty : TypeId) (x y : Operand) (ho : o.op = .store ty x y) (g i : Nat) (v : Value) (hx : a.eval x = .pointer (some ⟨g, i, none⟩)) (hy : a.eval y = v)
    (t : TypeId) (cs : Array Value) (hg : Blk w g t cs) (hlt : i < cs.size) (hi : (P.info? ty).map (·.size) = some 1) (h1 : v.oneCell' = true)
    (h : ∀ w', Upd w w' g t (cs.setIfInBounds i v) → wpList P ops Q rest (a.put o.dst undef) w') : wpList P ops Q (o :: rest) a w := by
  refine wpList_plain hgd fun K hK => ?_
  unfold Oper.wp execOp
  simp only [ho, hx, hy, Instr.storeAt, Instr.sureAddr, Sem.run_bind, Sem.run_pure, Result.andThen_ok, run_storeVar_cell g i ty v t cs hg hlt hi h1]
  exact hK _ _ (h _ (upd_set hg i v))
end
end Go.Proofs.Ytoiibjblaafgpaa
