/-
  Layer 19 (what is due at which tick): the reference's wheel: rows of two cells; append onto rows of more cells than one in a region that draws.
-/
import Derived.Test.YtkmacepodomdmaaJk
import Derived.Test.YtkmacepodomdmaaMr
import Derived.Test.YtkmacepodomdmaaMo
import Derived.Test.YtkmacepodomdmaaMh
import Derived.Test.YtkmacepodomdmaaMg
import Derived.Test.YtkmacepodomdmaaMc
import Derived.Test.YtkmacepodomdmaaKr
namespace Go.Proofs.Ytkmacepodomdmaa
open Go.RowKit
set_option maxRecDepth 100000
set_option linter.unusedVariables false
set_option linter.unusedSimpArgs false

/-- Pairs as cells. -/
def D2 : List (Nat × Nat) → List Value
  | [] => []
  | p :: L => .int .i64 (p.1 : Int) :: .int .i64 (p.2 : Int) :: D2 L
theorem D2_len (L : List (Nat × Nat)) : (D2 L).length = L.length * 2 := by
  induction L with
  | nil => rfl
  | cons p L ih => simp [D2, ih]; omega
theorem D2_append (L M : List (Nat × Nat)) : D2 (L ++ M) = D2 L ++ D2 M := by
  induction L with
  | nil => rfl
  | cons p L ih => simp [D2, ih]
theorem D2_one (L : List (Nat × Nat)) : ∀ u ∈ D2 L, u.oneCell' = true := by
  induction L with
  | nil => intro u hu; cases hu
  | cons p L ih =>
    intro u hu
    simp only [D2, List.mem_cons] at hu
    rcases hu with rfl | rfl | hu
    · rfl
    · rfl
    · exact ih u hu
theorem D2_get (L : List (Nat × Nat)) (i : Nat) (h : i < L.length) : (D2 L)[2 * i]? = some (.int .i64 ((L[i].1 : Nat) : Int)) ∧ (D2 L)[2 * i + 1]? = some (.int .i64 ((L[i].2 : Nat) : Int)) := by
  induction L generalizing i with
  | nil => simp at h
  | cons p L ih =>
    cases i with
    | zero => exact ⟨rfl, rfl⟩
    | succ i =>
      have := ih i (by simpa using h)
      refine ⟨?_, ?_⟩
      · rw [show 2 * (i + 1) = (2 * i) + 1 + 1 by omega]; simpa [D2] using this.1
      · rw [show 2 * (i + 1) + 1 = (2 * i + 1) + 1 + 1 by omega]; simpa [D2] using this.2
theorem D2_take (L : List (Nat × Nat)) (i : Nat) : (D2 L).take (2 * i) = D2 (L.take i) := by
  induction L generalizing i with
  | nil => simp [D2]
  | cons p L ih =>
    cases i with
    | zero => rfl
    | succ i => rw [show 2 * (i + 1) = (2 * i) + 1 + 1 by omega]; simp [D2, ih]
theorem D2_drop (L : List (Nat × Nat)) (i : Nat) : (D2 L).drop (2 * i) = D2 (L.drop i) := by
  induction L generalizing i with
  | nil => simp [D2]
  | cons p L ih =>
    cases i with
    | zero => rfl
    | succ i => rw [show 2 * (i + 1) = (2 * i) + 1 + 1 by omega]; simp [D2, ih]
/-- Without what stands at i: without its number. -/
theorem dropL_at {L : List (Nat × Nat)} {a i : Nat} (hn : (L.map Prod.fst).Nodup) (h : i < L.length) (e : L[i].1 = a) : L.take i ++ L.drop (i + 1) = dropL L a := by
  induction L generalizing i with
  | nil => simp at h
  | cons p L ih =>
    have hn1 : (L.map Prod.fst).Nodup := (List.nodup_cons.1 (by simpa using hn)).2
    have hm : p.1 ∉ L.map Prod.fst := (List.nodup_cons.1 (by simpa using hn)).1
    have ed : dropL (p :: L) a = if (p.1 != a) = true then p :: dropL L a else dropL L a := by simp [dropL, List.filter_cons]
    cases i with
    | zero =>
      have hp : p.1 = a := e
      rw [ed, if_neg (by simp [hp])]
      rw [drop_none_of]
      · simp
      · rw [List.any_eq_false]
        intro q hq he
        have : q.1 = a := by simpa using he
        exact hm (List.mem_map.2 ⟨q, hq, by omega⟩)
    | succ i =>
      have hi : i < L.length := by simpa using h
      have e2 : L[i].1 = a := by simpa using e
      have hp : p.1 ≠ a := fun hp => hm (List.mem_map.2 ⟨L[i], List.getElem_mem hi, by omega⟩)
      rw [ed, if_pos (by simp [hp]), ← ih hn1 hi e2]
      simp
theorem inL_at {L : List (Nat × Nat)} {a i : Nat} (h : i < L.length) (e : L[i].1 = a) : inL L a = true := by
  unfold inL
  rw [List.any_eq_true]
  exact ⟨L[i], List.getElem_mem h, by simp [e]⟩
theorem inL_none {L : List (Nat × Nat)} {a : Nat} (h : ∀ i (h : i < L.length), L[i].1 ≠ a) : inL L a = false := by
  unfold inL
  rw [List.any_eq_false]
  intro p hp he
  obtain ⟨i, hi, rfl⟩ := List.getElem_of_mem hp
  exact h i hi (by simpa using he)

theorem OwnR.grown {w w' : World} {base : Nat} {e : TypeId} {sz : Nat} {A : Option Addr} {n c : Nat} {xs : List Value} {row : Option Nat} (h : OwnR w base e sz A n c xs) (hg : w.grownBy w' row) (ha : ∀ k, blk A = some k → row ≠ some k) : OwnR w' base e sz A n c xs := by
  refine ⟨h.row.kept hg ?_⟩
  cases hA : A with
  | none => left; rfl
  | some ad =>
    right
    have := ha ad.block (by rw [hA]; rfl)
    intro e; exact this e.symm
theorem OwnR.heap {w w' : World} {base : Nat} {e : TypeId} {sz : Nat} {A : Option Addr} {n c : Nat} {xs : List Value} (h : OwnR w base e sz A n c xs) (hb : ∀ k, blk A = some k → w'.heap[k]? = w.heap[k]?) : OwnR w' base e sz A n c xs := by
  refine ⟨h.row.1, ?_⟩
  rcases h.row.2 with h1 | ⟨g, cap, cur, hv, hbg, hg, rest⟩
  · exact .inl h1
  · refine .inr ⟨g, cap, cur, hv, hbg, ?_, rest⟩
    injection hv with h1 h2 h3
    subst h1
    exact (hb g rfl).trans hg
theorem OwnR.blkLt {w : World} {base : Nat} {e : TypeId} {sz : Nat} {A : Option Addr} {n c : Nat} {xs : List Value} (h : OwnR w base e sz A n c xs) : ∀ k, blk A = some k → base ≤ k ∧ k < w.heap.size := fun k hk => h.block k (by rw [blk_own]; exact hk)

section
variable {P : Program} (w : World)
theorem run_appAtR (base : Nat) (t ty e : TypeId) (i : TypeInfo) (z : Value) (sz bytes : Nat) (ht : P.underlying t = some (.slice e)) (hi : P.info? e = some i) (hz : i.zero = some z)
    (hsize : i.size = sz) (hby : i.bytes = bytes) (hzs : z.cells.size = sz) (hsz : 0 < sz)
    (A : Option Addr) (n c : Nat) (xs : List Value) (hown : OwnR w base e sz A n c xs)
    (ad : Addr) (m c2 : Nat) (ys : List Value) (hl : ys.length = m * sz) (hc : ∀ j u, ys[j]? = some u → w.cell? (ad.add j) = some u) (h1 : ∀ u ∈ ys, u.oneCell' = true)
    (hbytes : (n + m) * bytes ≤ 140737488355328) (h63 : n + m ≤ maxLen) (hbase : base ≤ w.heap.size) :
    ∃ A' c' w', (Builtin.append_ #[t, t] ty #[.slice A n c, .slice (some ad) m c2]).run P w = .ok (.slice A' (n + m) c') w' ∧ OwnR w' base e sz A' (n + m) c' (xs ++ ys) ∧ w.grownBy w' (Value.slice A n c).ownBlock ∧ (blk A' = blk A ∨ blk A' = some w.heap.size) := by
  obtain ⟨v', w', hrun, h2, h3, _, h5⟩ := run_append_own_at (P := P) w base t ty e i z sz bytes ht hi hz hsize hby hzs hsz (.slice A n c) n xs hown.row ad m c2 ys hl hc h1 h63 hbytes hbase
  obtain ⟨A', c', rfl⟩ := sliceR_of_own h2
  rw [blk_own, blk_own] at h5
  exact ⟨A', c', w', hrun, ⟨h2⟩, h3, h5⟩
end
section
variable {P : Program} {ops : Array Oper} {o : Oper} {a : Act} {w : World} {K : Act → World → Prop} {Q : Exit → Act → World → Prop} {E : Prop}
/-- 'append', rows of sz cells, in a region that draws. -/
theorem step_appR (hgd : o.guard = none) (s x : Operand) (t : TypeId) (ho : o.op = .call { callee := .builtin .append, args := #[s, x], argTypes := #[t, t] })
    (base : Nat) (e : TypeId) (i : TypeInfo) (z : Value) (sz bytes : Nat) (ht : P.underlying t = some (.slice e)) (hi : P.info? e = some i) (hz : i.zero = some z)
    (hsize : i.size = sz) (hby : i.bytes = bytes) (hzs : z.cells.size = sz) (hsz : 0 < sz)
    (A : Option Addr) (n c : Nat) (xs : List Value) (hs : a.eval s = .slice A n c) (hown : OwnR w base e sz A n c xs)
    (ad : Addr) (m c2 : Nat) (ys : List Value) (hx : a.eval x = .slice (some ad) m c2) (hl : ys.length = m * sz) (hc : ∀ j u, ys[j]? = some u → w.cell? (ad.add j) = some u) (h1 : ∀ u ∈ ys, u.oneCell' = true)
    (hbytes : (n + m) * bytes ≤ 140737488355328) (h63 : n + m ≤ maxLen) (hbase : base ≤ w.heap.size)
    (h : ∀ A' c' w', OwnR w' base e sz A' (n + m) c' (xs ++ ys) → w.grownBy w' (Value.slice A n c).ownBlock → (blk A' = blk A ∨ blk A' = some w.heap.size) → K (a.put o.dst (.slice A' (n + m) c')) w') :
    if Region.wanted o (yielded ops a.tmps) = true then Oper.wp P o a w K Q else E := by
  have hw : Region.wanted o (yielded ops a.tmps) = true := by simp [Region.wanted, hgd]
  rw [if_pos hw]
  obtain ⟨A', c', w', hrun, h2, h3, h4⟩ := run_appAtR (P := P) w base t o.type e i z sz bytes ht hi hz hsize hby hzs hsz A n c xs hown ad m c2 ys hl hc h1 hbytes h63 hbase
  unfold Oper.wp execOp
  simp only [ho, resolve, invoke, builtin, Sem.run_bind, Sem.run_pure, Result.andThen_ok, List.map_toArray, List.map_cons, List.map_nil, hs, hx, hrun]
  exact h A' c' w' h2 h3 h4
/-- '[]T{}', T of sz cells, in a region that draws. -/
theorem step_noneR (hgd : o.guard = none) (t e : TypeId) (sz : Nat) (ho : o.op = .buildSlice t 0 #[]) (i : TypeInfo) (ht : P.underlying t = some (.slice e)) (hi : P.info? e = some i)
    (h : ∀ w', OwnR w' w.heap.size e sz (some ⟨w.heap.size, 0, none⟩) 0 0 [] → Below w.heap.size w w' → w'.heap.size = w.heap.size + 1 → K (a.put o.dst (.slice (some ⟨w.heap.size, 0, none⟩) 0 0)) w') :
    if Region.wanted o (yielded ops a.tmps) = true then Oper.wp P o a w K Q else E := by
  have hw : Region.wanted o (yielded ops a.tmps) = true := by simp [Region.wanted, hgd]
  rw [if_pos hw]
  have hrun : (Instr.buildSlice t 0 #[]).run P w = .ok (.slice (some ⟨w.heap.size, 0, none⟩) 0 0) (w.alloc (.cells #[] e)) := by
    simp [Instr.buildSlice, run_underlying ht, sizeOf, typeInfo, hi, Instr.fill, newRow]
    rw [show Array.map (fun (x : Nat) => (default : Value)) (Array.range 0) = #[] from Array.eq_empty_of_size_eq_zero (by simp)]
  unfold Oper.wp execOp
  simp only [ho, Sem.run_bind, List.map_toArray, List.map_nil, hrun, Result.andThen_ok, Sem.run_pure]
  exact h _ ⟨World.ownsRow_made w #[] 0 (Nat.le_refl _) (by unfold maxLen; omega) (by simp)⟩ ((Below.refl _ _).alloc (Nat.le_refl _) _) (by simp)
end
theorem infoDue : (Try.prog.info? 110).map (fun i => (i.zero, i.size, i.bytes)) = some (some (.agg #[.int .i64 0, .int .i64 0]), 2, 16) := by kernel_rfl
theorem infoDues : (Try.prog.info? 56).map (·.size) = some 1 := by kernel_rfl
theorem idxDue (g n c i : Nat) (hi : i < n) (W : World) : (Instr.indexAt 56 (.slice (some ⟨g, 0, none⟩) n c) (.int .i64 (i : Int))).run Try.prog W = .ok (.pointer (some ⟨g, 2 * i, none⟩)) W := by
  have := run_idxR (P := Try.prog) (sz := 2) Try.underlying56 (by kernel_rfl) g 0 n c i hi .i64 W
  rw [Nat.zero_add] at this
  exact this
/-- The reference's wheel's cells. -/
def rwl (now : Nat) (A : Option Addr) (n c : Nat) : Array Value := #[.int .i64 (now : Int), .slice A n c]
/-- The reference's wheel, its blocks among P. -/
structure RW (w : World) (P : Nat → Prop) (gR now : Nat) (L : List (Nat × Nat)) : Prop where
  blk : ∃ A c, Blk w gR 58 (rwl now A L.length c) ∧ OwnR w 0 110 2 A L.length c (D2 L) ∧ ∀ k, blk A = some k → P k ∧ k ≠ gR
  mine : P gR
  lt : ∀ k, P k → k < w.heap.size
theorem RW.of_heap {w w' : World} {P : Nat → Prop} {gR now : Nat} {L : List (Nat × Nat)} (h : RW w P gR now L) (hb : ∀ k, P k → w'.heap[k]? = w.heap[k]?) (hs : w.heap.size ≤ w'.heap.size) : RW w' P gR now L := by
  obtain ⟨A, c, q, o, hA⟩ := h.blk
  exact ⟨⟨A, c, (hb gR h.mine).trans q, o.heap (fun k hk => hb k (hA k hk).1), hA⟩, h.mine, fun k hk => Nat.lt_of_lt_of_le (h.lt k hk) hs⟩
theorem RW.after {w w' : World} {P : Nat → Prop} {gR now : Nat} {L : List (Nat × Nat)} (h : RW w P gR now L) (hb : Below w.heap.size w w') : RW w' P gR now L := h.of_heap (fun k hk => hb.block k (h.lt k hk)) hb.size
theorem RW.kr {w w' : World} {P Q : Nat → Prop} {gR now : Nat} {L : List (Nat × Nat)} (h : RW w P gR now L) (hk : Kr w w' Q) (hd : ∀ k, P k → ¬ Q k) : RW w' P gR now L := h.of_heap (fun k hp => hk.block k (h.lt k hp) (hd k hp)) hk.size
end Go.Proofs.Ytkmacepodomdmaa
