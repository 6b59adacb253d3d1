/-
  Words for memory, more: two rows of the call's own in unlike blocks; append that tells where the row lies.
-/
import Derived.Test.YtoiibjblaafgpaaMem
namespace Go.Proofs.Ytoiibjblaafgpaa
open Go.RowKit
set_option maxRecDepth 100000
set_option linter.unusedVariables false

/-- A slice's block. -/
def blk : Option Addr → Option Nat
  | some a => some a.block
  | none => none
theorem blk_own (A : Option Addr) (n c : Nat) : (Value.slice A n c).ownBlock = blk A := by cases A <;> rfl
/-- Two rows lie in unlike blocks. -/
def Apt (A B : Option Addr) : Prop := blk A = none ∨ blk A ≠ blk B
theorem Apt.symm {A B : Option Addr} (h : Apt A B) : Apt B A := by
  unfold Apt at *
  cases hB : blk B with
  | none => exact .inl rfl
  | some b =>
    rcases h with h | h
    · exact .inr (by rw [h]; simp)
    · exact .inr (by rw [hB] at h; exact Ne.symm h)
theorem Own.grown {w w' : World} {base : Nat} {e : TypeId} {A B : Option Addr} {n c m d : Nat} {xs : List Value} (h : Own w base e A n c xs) (hg : w.grownBy w' (Value.slice B m d).ownBlock) (ha : Apt A B) : Own w' base e A n c xs :=
  ⟨h.row.kept hg (by rw [blk_own, blk_own]; exact ha)⟩
theorem Own.blkLt {w : World} {base : Nat} {e : TypeId} {A : Option Addr} {n c : Nat} {xs : List Value} (h : Own w base e A n c xs) : ∀ k, blk A = some k → base ≤ k ∧ k < w.heap.size := fun k hk => h.block k (by rw [blk_own]; exact hk)
/-- What is appended stays apart from another row. -/
theorem Apt.next {w : World} {A A' B : Option Addr} (h : Apt A B) (hA : blk A' = blk A ∨ ∃ k, blk A' = some k ∧ w.heap.size ≤ k) (hB : ∀ k, blk B = some k → k < w.heap.size) : Apt A' B := by
  unfold Apt at *
  rcases hA with e | ⟨k, e, hk⟩
  · rw [e]; exact h
  · refine .inr fun hc => ?_
    have := hB k (by rw [← hc]; exact e)
    omega

section
variable {P : Program} (w : World)
/-- append onto a row of the call's own, from whatever source: where it lies. -/
theorem run_appAt (base : Nat) (t ty e : TypeId) (i : TypeInfo) (z : Value) (bytes : Nat) (ht : P.underlying t = some (.slice e)) (hi : P.info? e = some i) (hz : i.zero = some z)
    (hsize : i.size = 1) (hby : i.bytes = bytes) (hzs : z.cells.size = 1)
    (A : Option Addr) (n c : Nat) (xs : List Value) (hown : Own w base e A n c xs)
    (B : Nat) (A2 : Option Addr) (m c2 : Nat) (ys : List Value) (hr : Rd w B A2 m ys) (hnone : A2 = none → m = 0 ∧ c2 = 0) (h1 : ∀ u ∈ ys, u.oneCell' = true)
    (hbytes : (n + m) * bytes ≤ 140737488355328) (h63 : n + m ≤ maxLen) (hbase : base ≤ w.heap.size) :
    ∃ A' c' w', (Builtin.append_ #[t, t] ty #[.slice A n c, .slice A2 m c2]).run P w = .ok (.slice A' (n + m) c') w' ∧ Own w' base e A' (n + m) c' (xs ++ ys) ∧ w.grownBy w' (Value.slice A n c).ownBlock ∧ (blk A' = blk A ∨ blk A' = some w.heap.size) := by
  have hl := hr.len
  cases A2 with
  | none =>
    obtain ⟨rfl, rfl⟩ := hnone rfl
    have hy : ys = [] := List.eq_nil_of_length_eq_zero hl
    subst hy
    exact ⟨A, c, w, run_append_owned_none (P := P) w base t ty e i 1 ht hi _ n xs hown.row, ⟨by simpa using hown.row⟩, World.grownBy.refl w _, .inl rfl⟩
  | some ad =>
    have hcells : ∀ j u, ys[j]? = some u → w.cell? (ad.add j) = some u := by
      intro j u hu
      have hj : j < ys.length := (List.getElem?_eq_some_iff.1 hu).1
      obtain ⟨b, off, e1, _, hc⟩ := hr.at_ (by omega)
      injection e1 with e1
      subst e1
      rw [Addr.add_lit]
      exact hc j u hu
    obtain ⟨v', w', hrun, h2, h3, _, h5⟩ := run_append_own_at (P := P) w base t ty e i z 1 bytes ht hi hz hsize hby hzs (by omega) (.slice A n c) n xs hown.row ad m c2 ys (by omega) hcells h1 h63 hbytes hbase
    obtain ⟨A', c', rfl⟩ := slice_of_own h2
    rw [blk_own, blk_own] at h5
    exact ⟨A', c', w', hrun, ⟨h2⟩, h3, h5⟩
end

section
variable {P : Program} {ops : Array Oper} {o : Oper} {a : Act} {w : World} {K : Act → World → Prop} {Q : Exit → Act → World → Prop} {E : Prop}
/-- 'append' in a region that draws, from whatever source. -/
theorem step_app (hgd : o.guard = none) (s x : Operand) (t : TypeId) (ho : o.op = .call { callee := .builtin .append, args := #[s, x], argTypes := #[t, t] })
    (base : Nat) (e : TypeId) (i : TypeInfo) (z : Value) (bytes : Nat) (ht : P.underlying t = some (.slice e)) (hi : P.info? e = some i) (hz : i.zero = some z)
    (hsize : i.size = 1) (hby : i.bytes = bytes) (hzs : z.cells.size = 1)
    (A : Option Addr) (n c : Nat) (xs : List Value) (hs : a.eval s = .slice A n c) (hown : Own w base e A n c xs)
    (B : Nat) (A2 : Option Addr) (m c2 : Nat) (ys : List Value) (hx : a.eval x = .slice A2 m c2) (hr : Rd w B A2 m ys) (hnone : A2 = none → m = 0 ∧ c2 = 0) (h1 : ∀ u ∈ ys, u.oneCell' = true)
    (hbytes : (n + m) * bytes ≤ 140737488355328) (h63 : n + m ≤ maxLen) (hbase : base ≤ w.heap.size)
    (h : ∀ A' c' w', Own w' base e A' (n + m) c' (xs ++ ys) → w.grownBy w' (Value.slice A n c).ownBlock → (blk A' = blk A ∨ blk A' = some w.heap.size) → K (a.put o.dst (.slice A' (n + m) c')) w') :
    if Region.wanted o (yielded ops a.tmps) = true then Oper.wp P o a w K Q else E := by
  have hw : Region.wanted o (yielded ops a.tmps) = true := by simp [Region.wanted, hgd]
  rw [if_pos hw]
  obtain ⟨A', c', w', hrun, h2, h3, h4⟩ := run_appAt (P := P) w base t o.type e i z bytes ht hi hz hsize hby hzs A n c xs hown B A2 m c2 ys hr hnone h1 hbytes h63 hbase
  unfold Oper.wp execOp
  simp only [ho, resolve, invoke, builtin, Sem.run_bind, Sem.run_pure, Result.andThen_ok, List.map_toArray, List.map_cons, List.map_nil, hs, hx, hrun]
  exact h A' c' w' h2 h3 h4
/-- '[]T{}' in a region that draws. -/
theorem step_none (hgd : o.guard = none) (t e : TypeId) (ho : o.op = .buildSlice t 0 #[]) (i : TypeInfo) (ht : P.underlying t = some (.slice e)) (hi : P.info? e = some i)
    (h : ∀ w', Own w' w.heap.size e (some ⟨w.heap.size, 0, none⟩) 0 0 [] → Below w.heap.size w w' → w'.heap.size = w.heap.size + 1 → K (a.put o.dst (.slice (some ⟨w.heap.size, 0, none⟩) 0 0)) w') :
    if Region.wanted o (yielded ops a.tmps) = true then Oper.wp P o a w K Q else E := by
  have hw : Region.wanted o (yielded ops a.tmps) = true := by simp [Region.wanted, hgd]
  rw [if_pos hw]
  have hrun : (Instr.buildSlice t 0 #[]).run P w = .ok (.slice (some ⟨w.heap.size, 0, none⟩) 0 0) (w.alloc (.cells #[] e)) := by
    simp [Instr.buildSlice, run_underlying ht, sizeOf, typeInfo, hi, Instr.fill, newRow]
    rw [show Array.map (fun (x : Nat) => (default : Value)) (Array.range 0) = #[] from Array.eq_empty_of_size_eq_zero (by simp)]
  unfold Oper.wp execOp
  simp only [ho, Sem.run_bind, List.map_toArray, List.map_nil, hrun, Result.andThen_ok, Sem.run_pure]
  exact h _ ⟨World.ownsRow_made w #[] 0 (Nat.le_refl _) (by unfold maxLen; omega) (by simp)⟩ ((Below.refl _ _).alloc (Nat.le_refl _) _) (by simp)
end
end Go.Proofs.Ytoiibjblaafgpaa
