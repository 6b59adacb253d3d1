/-
  Rows of the call's own whose elements have more cells than one.
-/
import Derived.Test.YtkmacepodomdmaaBk
import Derived.Great.BuildSlice
namespace Go.Proofs.Ytkmacepodomdmaa
open Go.RowKit
set_option maxRecDepth 100000
set_option linter.unusedVariables false

/-- The call's own row, elements of sz cells. -/
structure OwnR (w : World) (base : Nat) (e : TypeId) (sz : Nat) (A : Option Addr) (n c : Nat) (xs : List Value) : Prop where
  row : w.ownsRow base e sz (.slice A n c) n xs
theorem OwnR.below {w w' : World} {base B : Nat} {e : TypeId} {sz : Nat} {A : Option Addr} {n c : Nat} {xs : List Value} (h : OwnR w base e sz A n c xs) (hb : Below B w w') (hB : w.heap.size ≤ B) : OwnR w' base e sz A n c xs :=
  ⟨h.row.kept (row := none) ⟨hb.os, hb.tape, hb.output, hb.size, fun k hk _ => hb.block k (by omega)⟩ (by cases hv : (Value.slice A n c).ownBlock <;> simp)⟩
theorem OwnR.block {w : World} {base : Nat} {e : TypeId} {sz : Nat} {A : Option Addr} {n c : Nat} {xs : List Value} (h : OwnR w base e sz A n c xs) : ∀ k, (Value.slice A n c).ownBlock = some k → base ≤ k ∧ k < w.heap.size := h.row.lt
theorem OwnR.down {w : World} {base base' : Nat} {e : TypeId} {sz : Nat} {A : Option Addr} {n c : Nat} {xs : List Value} (h : OwnR w base e sz A n c xs) (hb : base' ≤ base) : OwnR w base' e sz A n c xs := by
  refine ⟨h.row.1, ?_⟩
  rcases h.row.2 with h1 | ⟨g, cap, cur, hv, hbg, rest⟩
  · exact .inl h1
  · exact .inr ⟨g, cap, cur, hv, by omega, rest⟩
theorem OwnR.to {w : World} {base : Nat} {e : TypeId} {sz : Nat} {A : Option Addr} {n n' c : Nat} {xs xs' : List Value} (h : OwnR w base e sz A n c xs) (hn : n = n') (hx : xs = xs') : OwnR w base e sz A n' c xs' := by subst hn hx; exact h
theorem OwnR.nil (w : World) (base : Nat) (e : TypeId) (sz : Nat) : OwnR w base e sz none 0 0 [] := ⟨World.ownsRow_nil w base e sz⟩
/-- Where it lies: its cells. -/
theorem OwnR.cells {w : World} {base : Nat} {e : TypeId} {sz : Nat} {A : Option Addr} {n c : Nat} {xs : List Value} (h : OwnR w base e sz A n c xs) (hn : 0 < n) : ∃ g, A = some ⟨g, 0, none⟩ ∧ base ≤ g ∧ g < w.heap.size ∧ ∀ i u, xs[i]? = some u → w.cell? ⟨g, i, none⟩ = some u := by
  rcases h.row.2 with ⟨hv, h0⟩ | ⟨g, cap, cur, hv, hb, hg, rest⟩
  · omega
  · injection hv with h1 h2 h3
    subst h1
    refine ⟨g, rfl, hb, (Array.getElem?_eq_some_iff.1 hg).1, fun i u hu => ?_⟩
    have := h.row.cells (g := g) rfl i u hu
    rw [Addr.add_lit, Nat.zero_add] at this
    exact this
theorem sliceR_of_own {w : World} {base : Nat} {e : TypeId} {sz : Nat} {v : Value} {n : Nat} {xs : List Value} (h : w.ownsRow base e sz v n xs) : ∃ A c, v = .slice A n c := by
  rcases h.2 with ⟨hv, h0⟩ | ⟨g, cap, cur, hv, rest⟩
  · exact ⟨none, 0, by rw [hv, h0]⟩
  · exact ⟨_, _, hv⟩
section
variable {P : Program} {ops : Array Oper} {rest : List Oper} {o : Oper} {a : Act} {Q : Exit → Act → World → Prop}
/-- 'l = append(l, x)', x of sz cells, behind '[]T{x}'. -/
theorem appR (w : World) (hgd : o.guard = none) (s x : Operand) (t : TypeId) (ho : o.op = .call { callee := .builtin .append, args := #[s, x], argTypes := #[t, t] })
    (base : Nat) (e : TypeId) (i : TypeInfo) (z : Value) (sz bytes : Nat) (ht : P.underlying t = some (.slice e)) (hi : P.info? e = some i) (hz : i.zero = some z)
    (hsize : i.size = sz) (hby : i.bytes = bytes) (hzs : z.cells.size = sz) (hsz : 0 < sz)
    (A : Option Addr) (n c : Nat) (xs : List Value) (E : Array Value) (hE : E.size = sz) (hE1 : E.all (·.oneCell') = true) (hs : a.eval s = .slice A n c) (hown : OwnR w base e sz A n c xs)
    (hx : a.eval x = .slice (some ⟨w.heap.size, 0, none⟩) 1 1) (hbytes : (n + 1) * bytes ≤ 140737488355328) (h63 : n + 1 ≤ maxLen) (hbase : base ≤ w.heap.size)
    (h : ∀ A' c' w', OwnR w' base e sz A' (n + 1) c' (xs ++ E.toList) → w.grownBy w' (Value.slice A n c).ownBlock → wpList P ops Q rest (a.put o.dst (.slice A' (n + 1) c')) w') :
    wpList P ops Q (o :: rest) a (w.alloc (.cells E e)) := by
  refine wpList_plain hgd fun K hK => ?_
  have own2 := hown.below (B := w.heap.size) ((Below.refl _ _).alloc (Nat.le_refl _) (.cells E e)) (Nat.le_refl _)
  have hb : Blk (w.alloc (.cells E e)) w.heap.size e E := (laid_alloc w e E).row
  obtain ⟨v', w', hrun, h2, h3, _⟩ := run_append_own (P := P) (w.alloc (.cells E e)) base t o.type e i z sz bytes ht hi hz hsize hby hzs hsz (.slice A n c) n xs own2.row ⟨w.heap.size, 0, none⟩ 1 1 E.toList (by rw [Array.length_toList, hE, Nat.one_mul])
    (fun j u hj => by rw [Addr.add_lit, Nat.zero_add, hb.cell, ← Array.getElem?_toList]; exact hj) (fun u hu => by
      rw [Array.all_eq_true_iff_forall_mem] at hE1
      exact hE1 u (Array.mem_toList_iff.1 hu)) h63 hbytes (by simp; omega)
  obtain ⟨A', c', rfl⟩ := sliceR_of_own h2
  unfold Oper.wp execOp
  simp only [ho, resolve, invoke, builtin, Sem.run_bind, Sem.run_pure, Result.andThen_ok, List.map_toArray, List.map_cons, List.map_nil, hs, hx, hrun]
  exact hK _ _ (h A' c' w' ⟨h2⟩ ⟨h3.os, h3.tape, h3.output, Nat.le_trans (by simp) h3.size, fun k hk hne => (h3.block k (by simp; omega) hne).trans (Below.heap_alloc _ _ _ hk)⟩)
/-- '[]T{x}', x of seven cells. -/
theorem at_build7 {w : World} (hgd : o.guard = none) (t e : TypeId) (x : Operand) (ho : o.op = .buildSlice t 1 #[(0, x)]) (i : TypeInfo) (z : Value) (ht : P.underlying t = some (.slice e)) (hi : P.info? e = some i) (hz : i.zero = some z) (hs : i.size = 7)
    (E : Array Value) (hE : E.size = 7) (hx : a.eval x = .agg E)
    (h : wpList P ops Q rest (a.put o.dst (.slice (some ⟨w.heap.size, 0, none⟩) 1 1)) (w.alloc (.cells E e))) : wpList P ops Q (o :: rest) a w := by
  refine wpList_buildSlice hgd t e 1 #[(0, x)] ho E i z ht hi hz (by rw [hs]; decide) (by rw [hs]; decide) ?_ h
  have key : ∀ (old : Array Value), old.size = 7 → Instr.fill (fun i => some (i * 7, 7)) old [(0, .agg E)] = some E := by
    intro old ho
    obtain ⟨l⟩ := old
    obtain ⟨m⟩ := E
    match l, ho, m, hE with
    | [_, _, _, _, _, _, _], _, [_, _, _, _, _, _, _], _ => simp [Instr.fill, Value.cells]
  rw [hs]
  simp only [List.map_toArray, List.map_cons, List.map_nil, hx]
  exact key _ (by simp)
end
end Go.Proofs.Ytkmacepodomdmaa
