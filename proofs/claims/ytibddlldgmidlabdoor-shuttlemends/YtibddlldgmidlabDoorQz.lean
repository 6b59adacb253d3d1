/-
  Texts joined: Ix, Mr, Qa, Qb, Qc, Qd, Qe, Qf.
-/
import Derived.Test.YtibddlldgmidlabDoorBk
import Derived.Great.BuildSlice
import Derived.Test.YtibddlldgmidlabDoorPt
import Derived.Test.YtibddlldgmidlabDoorPi
import Derived.Test.YtibddlldgmidlabDoorMh
import Derived.Test.YtibddlldgmidlabDoorTa
import Derived.Test.YtibddlldgmidlabDoorMc
import Derived.Test.YtibddlldgmidlabDoorMg
namespace Go.Proofs.YtibddlldgmidlabDoor
open Go.RowKit
set_option maxRecDepth 100000
set_option linter.unusedVariables false

theorem run_index1 {P : Program} {t e : TypeId} {n : Nat} (ht : P.underlying t = some (.array n e)) {d : TypeDesc} (he : P.underlying e = some d) (hd : d.isRow = false) (hs : (P.info? e).map (·.size) = some 1) (cs : Array Value) (i : Nat) (hi : i < n) (k : IntKind) (v : Value) (hv : cs[i]? = some v) (w : World) :
    (Instr.index t (.agg cs) (.int k (i : Int))).run P w = .ok v w := by
  have h1 : (0 : Int) ≤ (i : Int) ∧ (i : Int) < (n : Int) := by omega
  cases hq : P.info? e with
  | none => simp [hq] at hs
  | some j =>
    have hj : j.size = 1 := by simpa [hq] using hs
    cases d <;> simp_all [Instr.index, run_underlying ht, asIntOf, part, isAgg, sizeOf, typeInfo, run_underlying he, TypeDesc.isRow]
theorem run_indexP {P : Program} {t e : TypeId} {n sz : Nat} (ht : P.underlying t = some (.array n e)) {d : TypeDesc} (he : P.underlying e = some d) (hd : d.isRow = true) (hs : (P.info? e).map (·.size) = some sz) (cs : Array Value) (i : Nat) (hi : i < n) (k : IntKind) (w : World) :
    (Instr.index t (.agg cs) (.int k (i : Int))).run P w = .ok (.agg (cs.extract (i * sz) (i * sz + sz))) w := by
  have h1 : (0 : Int) ≤ (i : Int) ∧ (i : Int) < (n : Int) := by omega
  cases hq : P.info? e with
  | none => simp [hq] at hs
  | some j =>
    have hj : j.size = sz := by simpa [hq] using hs
    cases d <;> simp_all [Instr.index, run_underlying ht, asIntOf, part, isAgg, sizeOf, typeInfo, run_underlying he, TypeDesc.isRow]
end Go.Proofs.YtibddlldgmidlabDoor

namespace Go.Proofs.YtibddlldgmidlabDoor
open Go.RowKit
set_option linter.unusedVariables false

/-- The call's own row, elements of sz cells. -/
structure OwnR (w : World) (base : Nat) (e : TypeId) (sz : Nat) (A : Option Addr) (n c : Nat) (xs : List Value) : Prop where
  row : w.ownsRow base e sz (.slice A n c) n xs
theorem OwnR.below {w w' : World} {base B : Nat} {e : TypeId} {sz : Nat} {A : Option Addr} {n c : Nat} {xs : List Value} (h : OwnR w base e sz A n c xs) (hb : Below B w w') (hB : w.heap.size ≤ B) : OwnR w' base e sz A n c xs :=
  ⟨h.row.kept (row := none) ⟨hb.os, hb.tape, hb.output, hb.size, fun k hk _ => hb.block k (by omega)⟩ (by cases hv : (Value.slice A n c).ownBlock <;> simp)⟩
theorem OwnR.block {w : World} {base : Nat} {e : TypeId} {sz : Nat} {A : Option Addr} {n c : Nat} {xs : List Value} (h : OwnR w base e sz A n c xs) : ∀ k, (Value.slice A n c).ownBlock = some k → base ≤ k ∧ k < w.heap.size := h.row.lt
theorem OwnR.down {w : World} {base base' : Nat} {e : TypeId} {sz : Nat} {A : Option Addr} {n c : Nat} {xs : List Value} (h : OwnR w base e sz A n c xs) (hb : base' ≤ base) : OwnR w base' e sz A n c xs := by
  refine ⟨h.row.1, ?_⟩
  rcases h.row.2 with h1 | ⟨g, cap, cur, hv, hbg, rest⟩
  · exact .inl h1
  · exact .inr ⟨g, cap, cur, hv, by omega, rest⟩
theorem OwnR.to {w : World} {base : Nat} {e : TypeId} {sz : Nat} {A : Option Addr} {n n' c : Nat} {xs xs' : List Value} (h : OwnR w base e sz A n c xs) (hn : n = n') (hx : xs = xs') : OwnR w base e sz A n' c xs' := by subst hn hx; exact h
theorem OwnR.nil (w : World) (base : Nat) (e : TypeId) (sz : Nat) : OwnR w base e sz none 0 0 [] := ⟨World.ownsRow_nil w base e sz⟩
/-- Where it lies: its cells. -/
theorem OwnR.cells {w : World} {base : Nat} {e : TypeId} {sz : Nat} {A : Option Addr} {n c : Nat} {xs : List Value} (h : OwnR w base e sz A n c xs) (hn : 0 < n) : ∃ g, A = some ⟨g, 0, none⟩ ∧ base ≤ g ∧ g < w.heap.size ∧ ∀ i u, xs[i]? = some u → w.cell? ⟨g, i, none⟩ = some u := by
  rcases h.row.2 with ⟨hv, h0⟩ | ⟨g, cap, cur, hv, hb, hg, rest⟩
  · omega
  · injection hv with h1 h2 h3
    subst h1
    refine ⟨g, rfl, hb, (Array.getElem?_eq_some_iff.1 hg).1, fun i u hu => ?_⟩
    have := h.row.cells (g := g) rfl i u hu
    rw [Addr.add_lit, Nat.zero_add] at this
    exact this
theorem sliceR_of_own {w : World} {base : Nat} {e : TypeId} {sz : Nat} {v : Value} {n : Nat} {xs : List Value} (h : w.ownsRow base e sz v n xs) : ∃ A c, v = .slice A n c := by
  rcases h.2 with ⟨hv, h0⟩ | ⟨g, cap, cur, hv, rest⟩
  · exact ⟨none, 0, by rw [hv, h0]⟩
  · exact ⟨_, _, hv⟩
section
variable {P : Program} {ops : Array Oper} {rest : List Oper} {o : Oper} {a : Act} {Q : Exit → Act → World → Prop}
/-- 'l = append(l, x)', x of sz cells, behind '[]T{x}'. -/
theorem appR (w : World) (hgd : o.guard = none) (s x : Operand) (t : TypeId) (ho : o.op = .call { callee := .builtin .append, args := #[s, x], argTypes := #[t, t] })
    (base : Nat) (e : TypeId) (i : TypeInfo) (z : Value) (sz bytes : Nat) (ht : P.underlying t = some (.slice e)) (hi : P.info? e = some i) (hz : i.zero = some z)
    (hsize : i.size = sz) (hby : i.bytes = bytes) (hzs : z.cells.size = sz) (hsz : 0 < sz)
    (A : Option Addr) (n c : Nat) (xs : List Value) (E : Array Value) (hE : E.size = sz) (hE1 : E.all (·.oneCell') = true) (hs : a.eval s = .slice A n c) (hown : OwnR w base e sz A n c xs)
    (hx : a.eval x = .slice (some ⟨w.heap.size, 0, none⟩) 1 1) (hbytes : (n + 1) * bytes ≤ 140737488355328) (h63 : n + 1 ≤ maxLen) (hbase : base ≤ w.heap.size)
    (h : ∀ A' c' w', OwnR w' base e sz A' (n + 1) c' (xs ++ E.toList) → w.grownBy w' (Value.slice A n c).ownBlock → wpList P ops Q rest (a.put o.dst (.slice A' (n + 1) c')) w') :
    wpList P ops Q (o :: rest) a (w.alloc (.cells E e)) := by
  refine wpList_plain hgd fun K hK => ?_
  have own2 := hown.below (B := w.heap.size) ((Below.refl _ _).alloc (Nat.le_refl _) (.cells E e)) (Nat.le_refl _)
  have hb : Blk (w.alloc (.cells E e)) w.heap.size e E := (laid_alloc w e E).row
  obtain ⟨v', w', hrun, h2, h3, _⟩ := run_append_own (P := P) (w.alloc (.cells E e)) base t o.type e i z sz bytes ht hi hz hsize hby hzs hsz (.slice A n c) n xs own2.row ⟨w.heap.size, 0, none⟩ 1 1 E.toList (by rw [Array.length_toList, hE, Nat.one_mul])
    (fun j u hj => by rw [Addr.add_lit, Nat.zero_add, hb.cell, ← Array.getElem?_toList]; exact hj) (fun u hu => by
      rw [Array.all_eq_true_iff_forall_mem] at hE1
      exact hE1 u (Array.mem_toList_iff.1 hu)) h63 hbytes (by simp; omega)
  obtain ⟨A', c', rfl⟩ := sliceR_of_own h2
  unfold Oper.wp execOp
  simp only [ho, resolve, invoke, builtin, Sem.run_bind, Sem.run_pure, Result.andThen_ok, List.map_toArray, List.map_cons, List.map_nil, hs, hx, hrun]
  exact hK _ _ (h A' c' w' ⟨h2⟩ ⟨h3.os, h3.tape, h3.output, Nat.le_trans (by simp) h3.size, fun k hk hne => (h3.block k (by simp; omega) hne).trans (Below.heap_alloc _ _ _ hk)⟩)
/-- '[]T{x}', x of seven cells. -/
theorem at_build7 {w : World} (hgd : o.guard = none) (t e : TypeId) (x : Operand) (ho : o.op = .buildSlice t 1 #[(0, x)]) (i : TypeInfo) (z : Value) (ht : P.underlying t = some (.slice e)) (hi : P.info? e = some i) (hz : i.zero = some z) (hs : i.size = 7)
    (E : Array Value) (hE : E.size = 7) (hx : a.eval x = .agg E)
    (h : wpList P ops Q rest (a.put o.dst (.slice (some ⟨w.heap.size, 0, none⟩) 1 1)) (w.alloc (.cells E e))) : wpList P ops Q (o :: rest) a w := by
  refine wpList_buildSlice hgd t e 1 #[(0, x)] ho E i z ht hi hz (by rw [hs]; decide) (by rw [hs]; decide) ?_ h
  have key : ∀ (old : Array Value), old.size = 7 → Instr.fill (fun i => some (i * 7, 7)) old [(0, .agg E)] = some E := by
    intro old ho
    obtain ⟨l⟩ := old
    obtain ⟨m⟩ := E
    match l, ho, m, hE with
    | [_, _, _, _, _, _, _], _, [_, _, _, _, _, _, _], _ => simp [Instr.fill, Value.cells]
  rw [hs]
  simp only [List.map_toArray, List.map_cons, List.map_nil, hx]
  exact key _ (by simp)
end
end Go.Proofs.YtibddlldgmidlabDoor

namespace Go.Proofs.YtibddlldgmidlabDoor
open Go.RowKit
set_option linter.unusedVariables false

/-- A table of ways. -/
structure T2 (u : Nat → Nat) (A : List Nat) : Prop where
  len : A.length = 256
  le : ∀ j, A.getD j 0 ≤ 7169
  cm : ∀ s t, s < 64 → t < 4 → Cv.Cm u 7169 s t (A.getD (64 * t + s) 0)
theorem T2.set {u : Nat → Nat} {A : List Nat} (h : T2 u A) (s t n : Nat) (hs : s < 64) (ht : t < 4) (hle : n ≤ 7169) (hc : Cv.Cm u 7169 s t n) : T2 u (A.set (64 * t + s) n) := by
  have hl : 64 * t + s < A.length := by rw [h.len]; omega
  refine ⟨by rw [List.length_set]; exact h.len, fun j => ?_, fun s' t' hs' ht' => ?_⟩
  · rw [Bm.set_getD A _ n j hl]
    split
    · exact hle
    · exact h.le j
  · rw [Bm.set_getD A _ n _ hl]
    split
    · rename_i e
      have e1 : s' = s := by omega
      have e2 : t' = t := by omega
      rw [e1, e2]
      exact hc
    · exact h.cm s' t' hs' ht'
theorem t2_far (u : Nat → Nat) : T2 u (List.replicate 256 7169) := by
  have e : ∀ j, (List.replicate 256 7169).getD j 0 = if j < 256 then 7169 else 0 := by
    intro j
    by_cases h : j < 256
    · rw [if_pos h, Bm.getD_lt _ _ _ (by rw [List.length_replicate]; exact h), List.getElem_replicate]
    · rw [if_neg h, Bm.getD_ge _ _ _ (by rw [List.length_replicate]; omega)]
  refine ⟨List.length_replicate .., fun j => ?_, fun s t hs ht => .inl ?_⟩
  · rw [e]; split <;> omega
  · rw [e, if_pos (by omega)]
/-- The first edges are in it, up to step k. -/
def F2 (u : Nat → Nat) (A : List Nat) (k : Nat) : Prop := ∀ t, t < k → A.getD (64 * ((t + 1) % 4) + 32) 0 ≤ Cv.ew u t 0 1
theorem F2.next {u : Nat → Nat} {A : List Nat} {t : Nat} (h : F2 u A t) (ht : t < 4) (hl : A.length = 256) : F2 u (A.set (64 * ((t + 1) % 4) + 32) (Cv.ew u t 0 1)) (t + 1) := by
  intro t' ht'
  rw [Bm.set_getD A _ _ _ (by rw [hl]; omega)]
  by_cases e : t' = t
  · subst e
    rw [if_pos rfl]
    exact Nat.le_refl _
  · rw [if_neg (by omega)]
    exact h t' (by omega)
theorem F2.less {u : Nat → Nat} {A : List Nat} {j n : Nat} (h : F2 u A 4) (hj : j < A.length) (hn : n ≤ A.getD j 0) : F2 u (A.set j n) 4 := by
  intro t ht
  have := h t ht
  rw [Bm.set_getD A _ n _ hj]
  split
  · rename_i e
    rw [← e] at this
    omega
  · exact this
theorem T2.first {u : Nat → Nat} {A : List Nat} (h : T2 u A) (t : Nat) (ht : t < 4) (hu : ∀ v, v < 4 → u v ≤ 7) : T2 u (A.set (64 * ((t + 1) % 4) + 32) (Cv.ew u t 0 1)) :=
  h.set 32 ((t + 1) % 4) _ (by omega) (by omega) (by have := Cv.ew_bound hu t 0 1; omega) (Cv.Cm.one u 7169 t)
/-- A hop's phase, state and bit; where it comes from, where it leads to, its weight. -/
def hpT (i : Nat) : Nat := i / 126
def hpS (i : Nat) : Nat := 1 + i % 126 / 2
def hpX (i : Nat) : Nat := i % 2
def hpF (i : Nat) : Nat := 64 * hpT i + hpS i
def hpG (i : Nat) : Nat := 64 * ((hpT i + 1) % 4) + Cv.nx (hpS i) (hpX i)
def hpW (u : Nat → Nat) (i : Nat) : Nat := Cv.ew u (hpT i) (hpS i) (hpX i)
theorem hp_bounds (i : Nat) (hi : i < 504) : hpT i < 4 ∧ 0 < hpS i ∧ hpS i < 64 ∧ hpX i ≤ 1 := by unfold hpT hpS hpX; omega
theorem hpF_lt (i : Nat) (hi : i < 504) : hpF i < 256 := by have := hp_bounds i hi; unfold hpF; omega
theorem hpG_lt (i : Nat) (hi : i < 504) : hpG i < 256 := by
  obtain ⟨h1, h2, h3, h4⟩ := hp_bounds i hi
  have := Cv.nx_lt (hpS i) (hpX i) h3 h4
  unfold hpG
  omega
theorem hp_of (t s x : Nat) (ht : t < 4) (h0 : 0 < s) (hs : s < 64) (hx : x ≤ 1) : hpT (126 * t + 2 * (s - 1) + x) = t ∧ hpS (126 * t + 2 * (s - 1) + x) = s ∧ hpX (126 * t + 2 * (s - 1) + x) = x ∧ 126 * t + 2 * (s - 1) + x < 504 := by
  unfold hpT hpS hpX
  omega
/-- No way by a hop is shorter. -/
def R2 (u : Nat → Nat) (A : List Nat) (i : Nat) : Prop := A.getD (hpG i) 0 ≤ A.getD (hpF i) 0 + hpW u i
/-- A pass over the first hops. -/
structure Pass2 (u : Nat → Nat) (A0 A : List Nat) (c : Bool) (k : Nat) : Prop where
  tab : T2 u A
  fst : F2 u A 4
  or_ : (c = false ∧ A = A0 ∧ ∀ i, i < k → R2 u A i) ∨ (c = true ∧ A.sum < A0.sum)
theorem Pass2.start {u : Nat → Nat} {A : List Nat} (h : T2 u A) (hf : F2 u A 4) : Pass2 u A A false 0 := ⟨h, hf, .inl ⟨rfl, rfl, fun i hi => by omega⟩⟩
theorem Pass2.keep {u : Nat → Nat} {A0 A : List Nat} {c : Bool} {k : Nat} (h : Pass2 u A0 A c k) (hn : ¬ A.getD (hpF k) 0 + hpW u k < A.getD (hpG k) 0) : Pass2 u A0 A c (k + 1) := by
  refine ⟨h.tab, h.fst, ?_⟩
  rcases h.or_ with ⟨h1, h2, h3⟩ | h1
  · refine .inl ⟨h1, h2, fun i hi => ?_⟩
    by_cases e : i = k
    · subst e; unfold R2; omega
    · exact h3 i (by omega)
  · exact .inr h1
theorem Pass2.less {u : Nat → Nat} {A0 A : List Nat} {c : Bool} {k : Nat} (h : Pass2 u A0 A c k) (hk : k < 504) (hn : A.getD (hpF k) 0 + hpW u k < A.getD (hpG k) 0) : Pass2 u A0 (A.set (hpG k) (A.getD (hpF k) 0 + hpW u k)) true (k + 1) := by
  obtain ⟨h1, h2, h3, h4⟩ := hp_bounds k hk
  have hnx := Cv.nx_lt (hpS k) (hpX k) h3 h4
  have hl : hpG k < A.length := by rw [h.tab.len]; exact hpG_lt k hk
  have hle := h.tab.le (hpG k)
  have hss := sum_set A _ (A.getD (hpF k) 0 + hpW u k) hl
  have hcm := (h.tab.cm (hpS k) (hpT k) h3 h1).next (x := hpX k) (by show A.getD (hpF k) 0 ≠ 7169; omega) h4
  refine ⟨h.tab.set _ _ _ hnx (by omega) (by omega) hcm, h.fst.less hl (by omega), .inr ⟨rfl, ?_⟩⟩
  rcases h.or_ with ⟨_, e, _⟩ | ⟨_, e⟩
  · rw [e] at hss hn ⊢; omega
  · omega
/-- The least at the end, of the first phases. -/
def Mn2 (A : List Nat) (b k : Nat) : Prop := (b = 7169 ∨ ∃ t, t < k ∧ b = A.getD (64 * t) 0) ∧ b ≤ 7169 ∧ ∀ t, t < k → b ≤ A.getD (64 * t) 0
theorem Mn2.next {A : List Nat} {b k : Nat} (h : Mn2 A b k) : Mn2 A (min b (A.getD (64 * k) 0)) (k + 1) := by
  obtain ⟨h1, h2, h3⟩ := h
  refine ⟨?_, by omega, fun t ht => ?_⟩
  · rcases Nat.le_total b (A.getD (64 * k) 0) with hle | hle
    · rw [Nat.min_eq_left hle]
      rcases h1 with h1 | ⟨t, ht, e⟩
      · exact .inl h1
      · exact .inr ⟨t, by omega, e⟩
    · rw [Nat.min_eq_right hle]
      exact .inr ⟨k, by omega, rfl⟩
  · by_cases e : t = k
    · subst e; exact Nat.min_le_right _ _
    · exact Nat.le_trans (Nat.min_le_left _ _) (h3 t (by omega))
/-- A pass that changed nothing: the least. -/
theorem Pass2.lst {u : Nat → Nat} {A0 A : List Nat} {b : Nat} (h : Pass2 u A0 A false 504) (hb : Mn2 A b 4) (hu : ∀ v, v < 4 → u v ≤ 7) : Cv.Lst u b := by
  have hr : ∀ i, i < 504 → R2 u A i := by
    rcases h.or_ with ⟨_, _, h3⟩ | ⟨h1, _⟩
    · exact h3
    · cases h1
  have key : ∀ s, 0 < s → s < 64 → ∀ t, t < 4 → ∀ x, x ≤ 1 → A.getD (64 * ((t + 1) % 4) + Cv.nx s x) 0 ≤ A.getD (64 * t + s) 0 + Cv.ew u t s x := by
    intro s h0 hs t ht x hx
    obtain ⟨e1, e2, e3, e4⟩ := hp_of t s x ht h0 hs hx
    have := hr _ e4
    unfold R2 hpG hpF hpW at this
    rw [e1, e2, e3] at this
    exact this
  have hf : Cv.Fix u (fun s t => A.getD (64 * t + s) 0) b := by
    refine ⟨fun t ht => h.fst t ht, fun s h0 hs t ht x hx _ => key s h0 hs t ht x hx, fun s h0 hs t ht x hx hz => ?_⟩
    have := key s h0 hs t ht x hx
    rw [hz, Nat.add_zero] at this
    exact Nat.le_trans (hb.2.2 ((t + 1) % 4) (by omega)) this
  refine hf.lst (far := 7169) ?_ hu (by omega)
  rcases hb.1 with e | ⟨t, ht, e⟩
  · exact .inl e
  · have := h.tab.cm 0 t (by omega) ht
    rw [Nat.add_zero, ← e] at this
    rcases this with e2 | ⟨t0, c, hw, _, hp⟩
    · exact .inl e2
    · exact .inr ⟨t0, c, hw, hp⟩
end Go.Proofs.YtibddlldgmidlabDoor

namespace Go.Proofs.YtibddlldgmidlabDoor
open Go.RowKit
set_option linter.unusedVariables false
set_option linter.unusedSimpArgs false

set_option maxHeartbeats 400000 in
/-- distance.place. -/
theorem dplace (t s : Nat) (w : World) (ht : t ≤ 1000) (hs : s < 64) : Calls Tryd.prog 60 #[.int .i64 (t : Int), .int .i64 (s : Int)] w fun e w' => e = .returned (.int .i64 ((64 * (t % 4) + s : Nat) : Int)) ∧ w = w' := by
  obtain ⟨r, hr⟩ : ∃ r : Nat, r = t % 4 := ⟨_, rfl⟩
  have e1 : (t : Int) % 4 = (r : Int) := by omega
  have hr4 : r < 4 := by omega
  have e2 : (r : Int) * 64 + (s : Int) = ((64 * (t % 4) + s : Nat) : Int) := by omega
  generalize 64 * (t % 4) + s = p at *
  clear hr
  go_enter Tryd.func60, Tryd.ntmps60
  go_wp2
  go_ret
  first
  | exact ⟨rfl, rfl⟩
  | exact ⟨ret_int' e2, rfl⟩
theorem infoB1 : (Tryd.prog.info? 5).map (·.size) = some 1 := by kernel_rfl
set_option maxHeartbeats 400000 in
set_option maxRecDepth 100000 in
/-- distance.weight. -/
theorem dweight (s x t : Nat) (ws : List Nat) (w : World) (hl : ws.length = 4) (hb : ∀ y ∈ ws, y ≤ 7) (ht : t ≤ 1000000) :
    Calls Tryd.prog 79 #[.agg (E7 s x), .int .i64 (t : Int), .agg (W4 (nw ws))] w fun e w' => e = .returned (.int .i64 (Cv.ew (fun v => ws.getD v 0) t s x : Nat)) ∧ Below w.heap.size w w' := by
  have HO : Hid (∀ i u, (C4 (Cv.out s x 0) (Cv.out s x 1) (Cv.out s x 2) (Cv.out s x 3)).toList[i]? = some u → (E7 s x)[3 + i]? = some u) := fun i u hu => by
    have hi : i < 4 := by
      have := (List.getElem?_eq_some_iff.1 hu).1
      simpa [C4] using this
    have h4 : i = 0 ∨ i = 1 ∨ i = 2 ∨ i = 3 := by omega
    rcases h4 with rfl | rfl | rfl | rfl <;> exact hu
  have HC : Hid (∀ k, k < 4 → (C4 (Cv.out s x 0) (Cv.out s x 1) (Cv.out s x 2) (Cv.out s x 3))[k]? = some (.int .u8 (Cv.out s x k : Nat))) := fun k hk => by
    have h4 : k = 0 ∨ k = 1 ∨ k = 2 ∨ k = 3 := by omega
    rcases h4 with rfl | rfl | rfl | rfl <;> rfl
  have HW : Hid (∀ v, v < 4 → (W4 (nw ws))[v]? = some (.int .i64 ((ws.getD v 0 : Nat) : Int))) := fun v hv => by
    rw [W4_get _ v (by rw [nw_length, hl]; exact hv), nw_get]
  have HLE := Lib.hid (eT_le ws hb t s x)
  have HB := Lib.hid (getD_seven ws hb)
  have H4 := Lib.hid (eT_four ws t s x)
  have iC : Hid ((Tryd.prog.info? 76).map (·.size) = some (C4 (Cv.out s x 0) (Cv.out s x 1) (Cv.out s x 2) (Cv.out s x 3)).size) := info4
  clear hb hl
  go_enter Tryd.func79, Tryd.ntmps79
  generalize E7 s x = E at *
  generalize W4 (nw ws) = Z at *
  generalize C4 (Cv.out s x 0) (Cv.out s x 1) (Cv.out s x 2) (Cv.out s x 3) = CC at *
  go_upto_region 3 with (first | (refine at_box rfl 103 _ rfl E rfl ?_; intro w1 h1) | (refine at_box rfl 33 _ rfl Z rfl ?_; intro w2 h2) | (refine at_load_mid rfl 76 _ rfl w.heap.size 3 rfl CC _ ((h1.row.after h2.bel).range 3 _ HO.out) Tryd.underlying76 rfl iC.out ?_))
  have q5 := h2.row
  have b2 := Below.then_ h1.bel h2.bel
  have hg : w.heap.size ≤ w1.heap.size := by rw [h1.size]; omega
  generalize w1.heap.size = g5 at *
  clear h1 h2
  go_loopw [7, 14] (fun n i wr => ∃ k : Nat, k ≤ 4 ∧ i = .int .i64 k ∧ n = .int .i64 (eT ws t s x k : Nat) ∧ wr = w2) (fun _ i _ => 4 - (intOf i).toNat)
  case atStart => exact ⟨0, by omega, rfl, rfl, rfl⟩
  case round =>
    obtain ⟨k, hk, rfl, rfl, rfl⟩ := hrel
    have hle := HLE.out k
    by_cases hlt : k < 4
    · have hvr := Cv.vr_lt k t
      have CV := Lib.hid (fun W => patVersion k t W hlt (by omega))
      have ix := fun W => run_index1 (P := Tryd.prog) Tryd.underlying76 Tryd.underlying5 rfl infoB1 CC k hlt .i64 _ (HC.out k hlt) W
      have ib := fun W => run_idx (P := Tryd.prog) (sz := 1) Tryd.underlying33 (by kernel_rfl) g5 0 (Cv.vr k t) hvr .i64 W
      simp only [Nat.zero_add, Nat.one_mul] at ib
      have c5 := (q5.cell (Cv.vr k t)).trans (HW.out (Cv.vr k t) hvr)
      have hy := Cv.out_bit s x k
      have hz := HB.out (Cv.vr k t)
      have HE : Hid (eT ws t s x (k + 1) = eT ws t s x k + Cv.out s x k * ws.getD (Cv.vr k t) 0) := rfl
      generalize eT ws t s x k = n at *
      generalize Cv.out s x k = y at *
      generalize ws.getD (Cv.vr k t) 0 = z at *
      generalize Cv.vr k t = r at *
      have hyz : y * z ≤ 7 := by have := Nat.mul_le_mul hy hz; omega
      obtain ⟨p, hp⟩ : ∃ p, y * z = p := ⟨_, rfl⟩
      have f1 : (y : Int) * (z : Int) = (p : Int) := by rw [← hp]; simp
      rw [hp] at hyz HE
      have dk : decide ((k : Int) < 4) = true := by simp <;> omega
      clear hp
      go_wp2_with (go_at_call 84; refine (CV.out _).mono ?_; rintro e w' ⟨rfl, rfl⟩)
      go_roundw
      case rel => exact ⟨k + 1, by omega, by go_num, by rw [HE.out]; go_num, by simp⟩
      case measure => simp [intOf] <;> omega
    · have dk : decide ((k : Int) < 4) = false := by simp <;> omega
      have HK : Hid (k = 4) := by unfold Hid; omega
      go_wp2
      go_ret
      exact ⟨by rw [← H4.out, ← HK.out]; rfl, b2⟩
end Go.Proofs.YtibddlldgmidlabDoor

namespace Go.Proofs.YtibddlldgmidlabDoor
open Go.RowKit
set_option linter.unusedVariables false
set_option linter.unusedSimpArgs false

/-- What starts gives. -/
def StartsOk (ws : List Nat) (w : World) (e : Ending) (w' : World) : Prop := ∃ A, e = .returned (.agg (W4 (nw A))) ∧ T2 (fun v => ws.getD v 0) A ∧ F2 (fun v => ws.getD v 0) A 4 ∧ Below w.heap.size w w'
theorem Z256_eq : (Tryd.prog.info? 94).bind (fun i => i.zero.map (fun z => z.cells)) = some (W4 (nw (List.replicate 256 0))) := by kernel_rfl
theorem info256 : (Tryd.prog.info? 94).map (·.size) = some 256 := by kernel_rfl
theorem fill7 (k : Nat) (hk : k < 256) : (List.replicate k 7169 ++ List.replicate (256 - k) 0).set k 7169 = List.replicate (k + 1) 7169 ++ List.replicate (256 - (k + 1)) 0 := by
  rw [List.set_append, List.length_replicate, if_neg (by omega), Nat.sub_self, show 256 - k = (256 - (k + 1)) + 1 by omega, List.replicate_succ, List.set_cons_zero, List.replicate_succ', List.append_assoc]
  rfl
theorem E14_r : ∀ i u, (E7 0 1).toList[i]? = some u → (E14 0 0 0 1)[7 + i]? = some u := by
  intro i u hu
  have hi : i < 7 := by
    have := (List.getElem?_eq_some_iff.1 hu).1
    rw [Array.length_toList, E7_size] at this
    exact this
  rw [Array.getElem?_toList] at hu
  unfold E14
  rw [Array.getElem?_append_right (by rw [E7_size]; omega), E7_size, show 7 + i - 7 = i by omega]
  exact hu
set_option maxHeartbeats 800000 in
set_option maxRecDepth 100000 in
/-- distance.starts. -/
theorem dstarts (ws : List Nat) (w : World) (hl : ws.length = 4) (hb : ∀ y ∈ ws, y ≤ 7) (hT : Taps w) : Calls Tryd.prog 57 #[.agg (W4 (nw ws))] w (StartsOk ws w) := by
  have iZ : Hid ((Tryd.prog.info? 33).map (·.size) = some (W4 (nw ws)).size) := by unfold Hid; rw [W4_size, nw_length, hl]; exact info4w
  have i7 : Hid ((Tryd.prog.info? 103).map (·.size) = some (E7 0 1).size) := info7
  have i14 : Hid ((Tryd.prog.info? 104).map (·.size) = some (E14 0 0 0 1).size) := info14
  have HR7 := Lib.hid E14_r
  have HU : Hid (∀ v, v < 4 → (fun v => ws.getD v 0) v ≤ 7) := fun v _ => getD_seven ws hb v
  have CW := Lib.hid (fun (t : Nat) (ht : t < 4) (W : World) => dweight 0 1 t ws W hl hb (by omega))
  clear hb hl
  go_enter Tryd.func57, Tryd.ntmps57
  generalize hZ : W4 (nw ws) = Z at *
  clear hZ
  obtain ⟨Y, hY⟩ : ∃ Y, Y = W4 (nw (List.replicate 256 0)) := ⟨_, rfl⟩
  have ZE : Hid ((Tryd.prog.info? 94).bind (fun i => i.zero.map (fun z => z.cells)) = some Y) := by rw [hY]; exact Z256_eq
  go_upto_region 1 with (first | (refine at_box rfl 33 _ rfl Z rfl ?_; intro w1 h1) | (refine at_alloc rfl 94 rfl Y ZE.out ?_; intro w2 h2))
  go_upto_region 2 with (refine at_alloc rfl 94 rfl Y ZE.out ?_; intro w3 h3)
  have q1 := (h1.row.after h2.bel).after h3.bel
  have q2 := h2.row.after h3.bel
  have q3 := h3.row
  have bel := Below.then_ (Below.then_ h1.bel h2.bel) h3.bel
  have s1 := h1.size
  have s2 := h2.size
  have s3 := h3.size
  obtain ⟨g1, hg1⟩ : ∃ g, g = w.heap.size := ⟨_, rfl⟩
  obtain ⟨g2, hg2⟩ : ∃ g, g = w1.heap.size := ⟨_, rfl⟩
  obtain ⟨g3, hg3⟩ : ∃ g, g = w2.heap.size := ⟨_, rfl⟩
  have hg03 : w.heap.size ≤ g3 := by omega
  have hg02 : w.heap.size ≤ g2 := by omega
  have h12 : g1 < g2 := by omega
  have h23 : g2 < g3 := by omega
  rw [← hg1] at q1
  rw [← hg2] at q2
  rw [← hg3] at q3
  rw [← hg1, ← hg2, ← hg3]
  have q30 : Blk w3 g3 94 (W4 (nw (List.replicate 0 7169 ++ List.replicate (256 - 0) 0))) := by rw [hY] at q3; exact q3
  have HYS : Hid (Y.size = 256) := by rw [hY, ]; unfold Hid; rw [W4nw_size]; simp
  clear h1 h2 h3 s1 s2 s3 hg1 hg2 hg3 q3 hY
  go_wp2
  go_loopw [8] (fun x wr => ∃ k : Nat, k ≤ 256 ∧ x = .int .i64 k ∧ Blk wr g3 94 (W4 (nw (List.replicate k 7169 ++ List.replicate (256 - k) 0))) ∧ Blk wr g1 33 Z ∧ Blk wr g2 94 Y ∧ Below w.heap.size w wr) (fun x _ => 256 - (intOf x).toNat)
  case atStart => exact ⟨0, by omega, rfl, q30, q1, q2, bel⟩
  case round =>
    clear q30 q1 q2 bel
    obtain ⟨k, hk, rfl, q3, q1, q2, bel⟩ := hrel
    by_cases hlt : k < 256
    · have HS := Lib.hid (fill7 k hlt)
      have sz : k < (W4 (nw (List.replicate k 7169 ++ List.replicate (256 - k) 0))).size := by rw [W4nw_size, List.length_append, List.length_replicate, List.length_replicate]; omega
      have ia := fun W => run_idx (P := Tryd.prog) (sz := 1) Tryd.underlying94 (by kernel_rfl) g3 0 k hlt .i64 W
      simp only [Nat.zero_add, Nat.one_mul] at ia
      have dk : decide ((k : Int) < 256) = true := by simp <;> omega
      generalize List.replicate k 7169 ++ List.replicate (256 - k) 0 = M at *
      go_wp2_with (refine at_cell rfl 3 _ _ rfl g3 k (.int .i64 7169) rfl rfl 94 (W4 (nw M)) q3 sz info3one rfl ?_; intro w6 h6)
      go_roundw
      case rel => exact ⟨k + 1, by omega, by go_num, by rw [← HS.out, ← W4nw_set]; exact h6.row, h6.blk q1 (by omega), h6.blk q2 (by omega), bel.trans (h6.below hg03)⟩
      case measure => simp [intOf] <;> omega
    · have HK : Hid (k = 256) := by unfold Hid; omega
      have dk : decide ((k : Int) < 256) = false := by simp <;> omega
      rw [HK.out, Nat.sub_self, List.replicate_zero, List.append_nil] at q3
      have HT0 := Lib.hid (t2_far (fun v => ws.getD v 0))
      have CF : Hid (Calls Tryd.prog 78 #[.int .i64 0] wr fun e w' => e = .returned (.tuple #[.agg (E14 0 0 0 1), .int .i64 0]) ∧ Below wr.heap.size wr w') := fromC 0 wr (by omega) (hT.after bel)
      have HE1 := Lib.hid (E14_one 0 0 0 1)
      have HES : Hid ((E14 0 0 0 1).size = 14) := rfl
      have HE8 : Hid ((E14 0 0 0 1)[8]? = some (.int .i64 32)) := rfl
      generalize E14 0 0 0 1 = E at *
      go_upto_region 8 with (first | (go_at_call 78; refine CF.out.mono ?_; rintro e w4 ⟨rfl, hb4⟩) | (refine at_alloc rfl 104 rfl Z14 Z14_eq ?_; intro w5 h5) | (refine at_store rfl 104 _ _ rfl w4.heap.size E rfl rfl 104 Z14 h5.row i14.out (by rw [HES.out]; rfl) HE1.out ?_; intro w6 h6))
      have hsz4 := hb4.size
      have l3 := q3.lt
      have q5 := h6.row
      replace q1 := h6.blk ((q1.after hb4).after h5.bel) (by omega)
      replace q2 := h6.blk ((q2.after hb4).after h5.bel) (by omega)
      replace q3 := h6.blk ((q3.after hb4).after h5.bel) (by omega)
      replace bel := (Below.then_ (Below.then_ bel hb4) h5.bel).trans (h6.below (Nat.le_trans bel.size hsz4))
      obtain ⟨g5, hg5⟩ : ∃ g, g = w4.heap.size := ⟨_, rfl⟩
      rw [← hg5] at q5
      rw [← hg5]
      have h35 : g3 < g5 := by omega
      clear h5 h6 hb4 hsz4 l3 hg5 CF
      go_wp2
      go_loopw [18] (fun x wr => ∃ t : Nat, t ≤ 4 ∧ x = .int .i64 t ∧ ∃ A, Blk wr g3 94 (W4 (nw A)) ∧ Hid (T2 (fun v => ws.getD v 0) A) ∧ Hid (F2 (fun v => ws.getD v 0) A t) ∧ Blk wr g1 33 Z ∧ Blk wr g5 104 E ∧ Blk wr g2 94 Y ∧ Below w.heap.size w wr) (fun x _ => 4 - (intOf x).toNat)
      case atStart => exact ⟨0, by omega, rfl, _, q3, HT0.out, fun t ht => by omega, q1, q5, q2, bel⟩
      case round =>
       clear q1 q2 q3 q5 bel
       obtain ⟨t, ht, rfl, A, q3, HT, HF, q1, q5, q2, bel⟩ := hrel
       by_cases hlt : t < 4
       · have HT1 := Lib.hid (HT.out.first t hlt HU.out)
         have HF1 := Lib.hid (HF.out.next hlt HT.out.len)
         obtain ⟨t1, ht1⟩ : ∃ t1, t1 = t + 1 := ⟨_, rfl⟩
         have CPl : Hid (∀ W, Calls Tryd.prog 60 #[.int .i64 (t1 : Int), .int .i64 32] W fun e w' => e = .returned (.int .i64 ((64 * ((t + 1) % 4) + 32 : Nat) : Int)) ∧ W = w') := fun W => by rw [ht1]; exact dplace (t + 1) 32 W (by omega) (by omega)
         have CWt := Lib.hid (CW.out t hlt)
         have hp : 64 * ((t + 1) % 4) + 32 < 256 := by omega
         have f1 : IntKind.i64.wrap ((t : Int) + 1) = (t1 : Int) := by rw [IntWalk.i64_in _ (by omega)]; omega
         have sz : 64 * ((t + 1) % 4) + 32 < (W4 (nw A)).size := by rw [W4nw_size, HT.out.len]; exact hp
         generalize 64 * ((t + 1) % 4) + 32 = p at *
         generalize Cv.ew (fun v => ws.getD v 0) t 0 1 = n at *
         clear ht1
         have ia := fun W => run_idx (P := Tryd.prog) (sz := 1) Tryd.underlying94 (by kernel_rfl) g3 0 p hp .i64 W
         simp only [Nat.zero_add, Nat.one_mul] at ia
         have ie : ∀ W, (Instr.indexAt 104 (.pointer (some ⟨g5, 0, none⟩)) (.int .i64 1)).run Tryd.prog W = .ok (.pointer (some ⟨g5, 7, none⟩)) W := fun W => run_idx (P := Tryd.prog) (sz := 7) Tryd.underlying104 (by kernel_rfl) g5 0 1 (by omega) .i64 W
         have dk : decide ((t : Int) < 4) = true := by simp <;> omega
         have hsz := bel.size
         have HK : Hid (∀ W, Below wr.heap.size wr W → (Blk W g5 104 E ∧ Blk W g1 33 Z ∧ W.cell? ⟨g5, 8, none⟩ = some (.int .i64 32))) := fun W hB => ⟨q5.after hB, q1.after hB, ((q5.after hB).cell 8).trans HE8.out⟩
         have bel0 : Below wr.heap.size wr wr.drew := (Below.refl _ _).drew
         go_upto_region 11 with fail
         refine wp_region_noPanic ?_
         refine wp_region_held_drew (S := fun W => Blk W g5 104 E ∧ Blk W g1 33 Z ∧ W.cell? ⟨g5, 8, none⟩ = some (.int .i64 32)) (by kernel_rfl) (HK.out _ bel0) (fun hHeld => ?_)
         refine wpAnyH_take (i := 0) (oi := ⟨some 21, _, _, _, _, _⟩) (v := ?_) rfl (by kernel_rfl) (by kernel_rfl) (by kernel_rfl) (fun _ _ _ h => h) (Or.inl ⟨by rfl, ?_⟩) hHeld ?_
         rotate_left
         · intro W hSW; obtain ⟨hSW0, hSW1, hSW2⟩ := hSW; go_simp; first | done | with_reducible rfl
         (try simp only [Act.put, List.setIfInBounds_toArray, List.set_cons_zero, List.set_cons_succ])
         refine wpAnyH_take (i := 1) (oi := ⟨some 22, _, _, _, _, _⟩) (v := ?_) rfl (by kernel_rfl) (by kernel_rfl) (by kernel_rfl) (fun _ _ _ h => h) (Or.inl ⟨by rfl, ?_⟩) hHeld ?_
         rotate_left
         · intro W hSW; obtain ⟨hSW0, hSW1, hSW2⟩ := hSW; go_simp; first | done | with_reducible rfl
         (try simp only [Act.put, List.setIfInBounds_toArray, List.set_cons_zero, List.set_cons_succ])
         refine wpAnyH_take (i := 2) (oi := ⟨some 23, _, _, _, _, _⟩) (v := ?_) rfl (by kernel_rfl) (by kernel_rfl) (by kernel_rfl) (fun _ _ _ h => h) (Or.inl ⟨by rfl, ?_⟩) hHeld ?_
         rotate_left
         · intro W hSW; obtain ⟨hSW0, hSW1, hSW2⟩ := hSW; go_simp; first | done | with_reducible rfl
         (try simp only [Act.put, List.setIfInBounds_toArray, List.set_cons_zero, List.set_cons_succ])
         refine wpAnyH_take (i := 3) (oi := ⟨some 24, _, _, _, _, _⟩) (v := ?_) rfl (by kernel_rfl) (by kernel_rfl) (by kernel_rfl) (fun _ _ _ h => h) (Or.inl ⟨by rfl, ?_⟩) hHeld ?_
         rotate_left
         · intro W hSW; obtain ⟨hSW0, hSW1, hSW2⟩ := hSW; go_simp; first | done | with_reducible rfl
         (try simp only [Act.put, List.setIfInBounds_toArray, List.set_cons_zero, List.set_cons_succ])
         refine wpAnyH_take (i := 4) (oi := ⟨some 25, _, _, _, _, _⟩) (v := ?_) rfl (by kernel_rfl) (by kernel_rfl) (by kernel_rfl) (fun _ _ _ h => h) (Or.inl ⟨by rfl, ?_⟩) hHeld ?_
         rotate_left
         · intro W hSW; obtain ⟨hSW0, hSW1, hSW2⟩ := hSW; go_simp; first | done | with_reducible rfl
         (try simp only [Act.put, List.setIfInBounds_toArray, List.set_cons_zero, List.set_cons_succ])
         refine wpAnyH_take (i := 6) (oi := ⟨some 27, _, _, _, _, _⟩) (v := ?_) rfl (by kernel_rfl) (by kernel_rfl) (by kernel_rfl) (fun _ _ _ h => h) (Or.inl ⟨by rfl, ?_⟩) hHeld ?_
         rotate_left
         · intro W hSW; obtain ⟨hSW0, hSW1, hSW2⟩ := hSW; go_simp; first | done | with_reducible rfl
         (try simp only [Act.put, List.setIfInBounds_toArray, List.set_cons_zero, List.set_cons_succ])
         refine wpAnyH_take (i := 7) (oi := ⟨some 28, _, _, _, _, _⟩) (v := _) rfl (by kernel_rfl) (by kernel_rfl) (by kernel_rfl) (fun _ _ _ h => h) (yields_mid (by rfl) 103 _ (by rfl) g5 7 (by rfl) (E7 0 1) _ (fun W h => h.1.range _ _ HR7.out) Tryd.underlying103 rfl i7.out) hHeld ?_
         (try simp only [Act.put, List.setIfInBounds_toArray, List.set_cons_zero, List.set_cons_succ])
         refine wpAnyH_take (i := 8) (oi := ⟨some 29, _, _, _, _, _⟩) (v := ?_) rfl (by kernel_rfl) (by kernel_rfl) (by kernel_rfl) (fun _ _ _ h => h) (Or.inl ⟨by rfl, ?_⟩) hHeld ?_
         rotate_left
         · intro W hSW; obtain ⟨hSW0, hSW1, hSW2⟩ := hSW; go_simp; first | done | with_reducible rfl
         (try simp only [Act.put, List.setIfInBounds_toArray, List.set_cons_zero, List.set_cons_succ])
         refine wpAnyH_take (i := 9) (oi := ⟨some 30, _, _, _, _, _⟩) (v := _) rfl (by kernel_rfl) (by kernel_rfl) (by kernel_rfl) (fun _ _ _ h => h) (yields_row (by rfl) 33 _ (by rfl) g1 (by rfl) 33 Z _ (fun W h => h.2.1) Tryd.underlying33 rfl iZ.out) hHeld ?_
         (try simp only [Act.put, List.setIfInBounds_toArray, List.set_cons_zero, List.set_cons_succ])
         refine wpAnyH_ready (rs := [5]) (by kernel_rfl) (by simp) ?_
         refine AllReadyH.cons (o := ⟨some 26, _, _, _, _, _⟩) rfl (fun K hK => ?_) (AllReadyH.nil)
         go_simp
         refine (CPl.out _).mono ?_
         rintro e W' ⟨rfl, rfl⟩
         clear hHeld
         refine hK.out _ _ ?_ (fun hHeld => ?_)
         · exact HK.out _ bel0
         clear hK K
         (try simp only [Act.put, List.setIfInBounds_toArray, List.set_cons_zero, List.set_cons_succ])
         refine wpAnyH_ready (rs := [10]) (by kernel_rfl) (by simp) ?_
         refine AllReadyH.cons (o := ⟨some 31, _, _, _, _, _⟩) rfl (fun K hK => ?_) (AllReadyH.nil)
         go_simp
         refine (CWt.out _).mono ?_
         rintro e wc ⟨rfl, hb⟩
         have bc := Below.then_ bel0 hb
         clear hHeld hb
         refine hK.out _ _ ?_ (fun hHeld => ?_)
         · exact HK.out _ bc
         clear hK K
         (try simp only [Act.put, List.setIfInBounds_toArray, List.set_cons_zero, List.set_cons_succ])
         refine wpAnyH_take (i := 11) (oi := ⟨some 32, _, _, _, _, _⟩) (v := ?_) rfl (by kernel_rfl) (by kernel_rfl) (by kernel_rfl) (fun _ _ _ h => h) (Or.inl ⟨by rfl, ?_⟩) hHeld ?_
         rotate_left
         · intro W hSW; obtain ⟨hSW0, hSW1, hSW2⟩ := hSW; go_simp; first | done | with_reducible rfl
         (try simp only [Act.put, List.setIfInBounds_toArray, List.set_cons_zero, List.set_cons_succ])
         refine wpAnyH_ready (rs := [12]) (by kernel_rfl) (by simp) ?_
         refine AllReadyH.cons (o := ⟨none, _, _, _, _, _⟩) rfl (fun K hK => ?_) (AllReadyH.nil)
         refine step_cell (by rfl) 3 _ _ (by rfl) g3 p (.int .i64 (n : Int)) (by rfl) (by rfl) 94 (W4 (nw A)) (q3.after bc) sz info3one rfl ?_
         intro W6 h6
         have hS6 := HK.out _ bc
         clear hHeld
         refine hK.out _ _ ?_ (fun hHeld => ?_)
         · exact ⟨h6.blk hS6.1 (by omega), h6.blk hS6.2.1 (by omega), ((h6.blk hS6.1 (by omega)).cell 8).trans HE8.out⟩
         clear hK K
         (try simp only [Act.put, List.setIfInBounds_toArray, List.set_cons_zero, List.set_cons_succ])
         have qa := h6.row
         have b6 := (bel.trans (bc.mono hsz)).trans (h6.below hg03)
         clear hS6
         refine wpAnyH_done (by kernel_rfl) ?_ _
         refine NoPanic.normal ?_
         clear hHeld
         clear f1
         go_wp2
         go_roundw
         case rel => exact ⟨t + 1, by omega, by go_num, A.set p n, by rw [← W4nw_set]; exact qa, HT1.out, HF1.out, h6.blk (q1.after bc) (by omega), h6.blk (q5.after bc) (by omega), h6.blk (q2.after bc) (by omega), b6⟩
         case measure => simp [intOf] <;> omega
       · have dk : decide ((t : Int) < 4) = false := by simp <;> omega
         have HK : Hid (t = 4) := by unfold Hid; omega
         have iA : Hid ((Tryd.prog.info? 94).map (·.size) = some (W4 (nw A)).size) := by unfold Hid; rw [W4nw_size, HT.out.len]; exact info256
         have HA1 := Lib.hid (W4_one (nw A))
         have HAS : Hid (Y.size = (W4 (nw A)).size) := by unfold Hid; rw [HYS.out, W4nw_size, HT.out.len]
         generalize hV : W4 (nw A) = V at *
         go_wp2_with (first | (refine at_load rfl 94 _ rfl g3 rfl 94 V _ q3 Tryd.underlying94 rfl iA.out ?_) | (refine at_store rfl 94 _ _ rfl g2 V rfl rfl 94 Y q2 iA.out HAS.out HA1.out ?_; intro w7 h7))
         refine bodyPost_ret (v := .agg V) (results_row rfl _ _ g2 94 _ _ rfl h7.row Tryd.underlying94 rfl iA.out) rfl ?_
         exact ⟨A, by rw [hV], HT.out, by have := HF.out; rw [HK.out] at this; exact this, bel.trans (h7.below hg02)⟩
end Go.Proofs.YtibddlldgmidlabDoor

namespace Go.Proofs.YtibddlldgmidlabDoor
open Go.RowKit
set_option linter.unusedVariables false
set_option linter.unusedSimpArgs false

section
variable {P : Program} {ops : Array Oper} {o : Oper} {a : Act} {K : Act → World → Prop} {Q : Exit → Act → World → Prop} {E0 : Prop}
/-- '[]T{x}', x of three cells, in a region that draws. -/
theorem step_build3 {w : World} (hgd : o.guard = none) (t e : TypeId) (x : Operand) (ho : o.op = .buildSlice t 1 #[(0, x)]) (i : TypeInfo) (z : Value) (ht : P.underlying t = some (.slice e)) (hi : P.info? e = some i) (hz : i.zero = some z) (hs : i.size = 3)
    (E : Array Value) (hE : E.size = 3) (hx : a.eval x = .agg E)
    (h : K (a.put o.dst (.slice (some ⟨w.heap.size, 0, none⟩) 1 1)) (w.alloc (.cells E e))) : if Region.wanted o (yielded ops a.tmps) = true then Oper.wp P o a w K Q else E0 := by
  have hw : Region.wanted o (yielded ops a.tmps) = true := by simp [Region.wanted, hgd]
  rw [if_pos hw]
  refine wp_buildSlice t e 1 #[(0, x)] ho E i z ht hi hz (by rw [hs]; decide) (by rw [hs]; decide) ?_ h
  have key : ∀ (old : Array Value), old.size = 3 → Instr.fill (fun i => some (i * 3, 3)) old [(0, .agg E)] = some E := by
    intro old ho
    obtain ⟨l⟩ := old
    obtain ⟨m⟩ := E
    match l, ho, m, hE with
    | [_, _, _], _, [_, _, _], _ => simp [Instr.fill, Value.cells]
  rw [hs]
  simp only [List.map_toArray, List.map_cons, List.map_nil, hx]
  exact key _ (by simp)
/-- 'append(l, x)', x of sz cells, behind '[]T{x}', in a region that draws. -/
theorem step_appR {w : World} (hgd : o.guard = none) (s x : Operand) (t : TypeId) (ho : o.op = .call { callee := .builtin .append, args := #[s, x], argTypes := #[t, t] })
    (base : Nat) (e : TypeId) (i : TypeInfo) (z : Value) (sz bytes : Nat) (ht : P.underlying t = some (.slice e)) (hi : P.info? e = some i) (hz : i.zero = some z)
    (hsize : i.size = sz) (hby : i.bytes = bytes) (hzs : z.cells.size = sz) (hsz : 0 < sz)
    (A : Option Addr) (n c : Nat) (xs : List Value) (E : Array Value) (hE : E.size = sz) (hE1 : E.all (·.oneCell') = true) (hs : a.eval s = .slice A n c) (hown : OwnR w base e sz A n c xs)
    (hx : a.eval x = .slice (some ⟨w.heap.size, 0, none⟩) 1 1) (hbytes : (n + 1) * bytes ≤ 140737488355328) (h63 : n + 1 ≤ maxLen) (hbase : base ≤ w.heap.size)
    (h : ∀ A' c' w', OwnR w' base e sz A' (n + 1) c' (xs ++ E.toList) → w.grownBy w' (Value.slice A n c).ownBlock → K (a.put o.dst (.slice A' (n + 1) c')) w') :
    if Region.wanted o (yielded ops a.tmps) = true then Oper.wp P o a (w.alloc (.cells E e)) K Q else E0 := by
  have hw : Region.wanted o (yielded ops a.tmps) = true := by simp [Region.wanted, hgd]
  rw [if_pos hw]
  have own2 := hown.below (B := w.heap.size) ((Below.refl _ _).alloc (Nat.le_refl _) (.cells E e)) (Nat.le_refl _)
  have hb : Blk (w.alloc (.cells E e)) w.heap.size e E := (laid_alloc w e E).row
  obtain ⟨v', w', hrun, h2, h3, _⟩ := run_append_own (P := P) (w.alloc (.cells E e)) base t o.type e i z sz bytes ht hi hz hsize hby hzs hsz (.slice A n c) n xs own2.row ⟨w.heap.size, 0, none⟩ 1 1 E.toList (by rw [Array.length_toList, hE, Nat.one_mul])
    (fun j u hj => by rw [Addr.add_lit, Nat.zero_add, hb.cell, ← Array.getElem?_toList]; exact hj) (fun u hu => by
      rw [Array.all_eq_true_iff_forall_mem] at hE1
      exact hE1 u (Array.mem_toList_iff.1 hu)) h63 hbytes (by simp; omega)
  obtain ⟨A', c', rfl⟩ := sliceR_of_own h2
  unfold Oper.wp execOp
  simp only [ho, resolve, invoke, builtin, Sem.run_bind, Sem.run_pure, Result.andThen_ok, List.map_toArray, List.map_cons, List.map_nil, hs, hx, hrun]
  exact h A' c' w' ⟨h2⟩ ⟨h3.os, h3.tape, h3.output, Nat.le_trans (by simp) h3.size, fun k hk hne => (h3.block k (by simp; omega) hne).trans (Below.heap_alloc _ _ _ hk)⟩
end
/-- A hop as cells. -/
def H3 (u : Nat → Nat) (i : Nat) : List Value := [.int .i64 ((hpF i : Nat) : Int), .int .i64 ((hpG i : Nat) : Int), .int .i64 ((hpW u i : Nat) : Int)]
/-- The first hops as cells. -/
def hops (u : Nat → Nat) (k : Nat) : List Value := (List.range k).flatMap (H3 u)
theorem hops_succ (u : Nat → Nat) (k : Nat) : hops u (k + 1) = hops u k ++ H3 u k := by unfold hops; rw [List.range_succ, List.flatMap_append]; simp
theorem hops_get (u : Nat → Nat) : ∀ (k i j : Nat), i < k → j < 3 → (hops u k)[3 * i + j]? = (H3 u i)[j]?
  | 0, i, j, h, _ => by omega
  | k + 1, i, j, h, hj => by
    have hl : ∀ k, (hops u k).length = 3 * k := fun k => by
      induction k with
      | zero => rfl
      | succ k ih => rw [hops_succ, List.length_append, ih]; show 3 * k + 3 = _; omega
    rw [hops_succ]
    by_cases e : i = k
    · subst e
      rw [List.getElem?_append_right (by rw [hl]; omega), hl, show 3 * i + j - 3 * i = j by omega]
    · rw [List.getElem?_append_left (by rw [hl]; omega)]
      exact hops_get u k i j (by omega) hj
theorem ret_sl {A : Option Addr} {n m c : Nat} (h : n = m) : Ending.returned (.slice A n c) = .returned (.slice A m c) := by rw [h]
/-- What inside gives. -/
def InsideOk (ws : List Nat) (w : World) (e : Ending) (w' : World) : Prop := ∃ A c, e = .returned (.slice A 504 c) ∧ OwnR w' w.heap.size 129 3 A 504 c (hops (fun v => ws.getD v 0) 504) ∧ Below w.heap.size w w'
theorem infoHop : (Tryd.prog.info? 129).map (fun i => (i.zero, i.size, i.bytes)) = some (some (.agg #[.int .i64 0, .int .i64 0, .int .i64 0]), 3, 24) := by kernel_rfl
theorem E14_ext (s x : Nat) (hx : x ≤ 1) : (E14 s 0 s 1).extract (x * 7) (x * 7 + 7) = E7 s x := by
  have h : x = 0 ∨ x = 1 := by omega
  rcases h with rfl | rfl <;> rfl
set_option maxHeartbeats 2000000 in
set_option maxRecDepth 100000 in
/-- distance.inside. -/
theorem dinside (ws : List Nat) (w : World) (hl : ws.length = 4) (hb : ∀ y ∈ ws, y ≤ 7) (hT : Taps w) : Calls Tryd.prog 58 #[.agg (W4 (nw ws))] w (InsideOk ws w) := by
  obtain ⟨i0, hi0, hz0, hz1, hz2⟩ := info_parts infoHop
  have iZ : Hid ((Tryd.prog.info? 33).map (·.size) = some (W4 (nw ws)).size) := by unfold Hid; rw [W4_size, nw_length, hl]; exact info4w
  have CW := Lib.hid (fun (s x t : Nat) (ht : t < 4) (W : World) => dweight s x t ws W hl hb (by omega))
  clear hb hl
  obtain ⟨u, hu⟩ : ∃ u : Nat → Nat, u = fun v => ws.getD v 0 := ⟨_, rfl⟩
  rw [← hu] at CW
  unfold InsideOk
  rw [← hu]
  clear hu
  go_enter Tryd.func58, Tryd.ntmps58
  generalize hZ : W4 (nw ws) = Z at *
  clear hZ
  go_upto_region 2 with (refine at_box rfl 33 _ rfl Z rfl ?_; intro w1 h1)
  have q1 := h1.row
  have bel := h1.bel
  have hs1 := h1.size
  obtain ⟨g1, hg1⟩ : ∃ g, g = w.heap.size := ⟨_, rfl⟩
  obtain ⟨B0, hB⟩ : ∃ B, B = w1.heap.size := ⟨_, rfl⟩
  rw [← hg1] at q1
  have hgB : g1 < B0 := by omega
  have hwB : w.heap.size ≤ B0 := by omega
  have hBw : B0 ≤ w1.heap.size := by omega
  rw [← hg1]
  clear h1 hs1 hg1 hB
  go_wp2
  go_loopw [3, 10] (fun r i wr => ∃ t : Nat, t ≤ 4 ∧ i = .int .i64 t ∧ ∃ N, Hid (N = 126 * t) ∧ ∃ A1 c1, r = .slice A1 N c1 ∧ OwnR wr B0 129 3 A1 N c1 (hops u N) ∧ Blk wr g1 33 Z ∧ Below w.heap.size w wr ∧ B0 ≤ wr.heap.size) (fun _ i _ => 4 - (intOf i).toNat)
  case atStart => exact ⟨0, by omega, rfl, 0, rfl, none, 0, rfl, OwnR.nil _ _ _ _, q1, bel, hBw⟩
  case round =>
    clear q1 bel hBw
    obtain ⟨t, ht, rfl, N, HN, A1, c1, rfl, own, q1, bel, hBw⟩ := hrel
    by_cases hlt : t < 4
    · have dk : decide ((t : Int) < 4) = true := by simp <;> omega
      go_wp2
      obtain ⟨wo, rfl⟩ : ∃ wo : World, wo = wr := ⟨_, rfl⟩
      go_loopw [3, 5] (fun r i wr => ∃ s : Nat, 1 ≤ s ∧ s ≤ 64 ∧ i = .int .i64 s ∧ ∃ N, Hid (N = 126 * t + 2 * (s - 1)) ∧ ∃ A1 c1, r = .slice A1 N c1 ∧ OwnR wr B0 129 3 A1 N c1 (hops u N) ∧ Blk wr g1 33 Z ∧ Below w.heap.size w wr ∧ B0 ≤ wr.heap.size) (fun _ i _ => 64 - (intOf i).toNat)
      case atStart => exact ⟨1, by omega, by omega, rfl, N, HN.out, A1, c1, rfl, own, q1, bel, hBw⟩
      case round =>
        clear own q1 bel hBw HN
        obtain ⟨s, hs1, hs, rfl, N, HN, A1, c1, rfl, own, q1, bel, hBw⟩ := hrel
        by_cases hlt2 : s < 64
        · have dk2 : decide ((s : Int) < 64) = true := by simp <;> omega
          have CF := Lib.hid (fromC s wr hlt2 (hT.after bel))
          have HE1 := Lib.hid (E14_one s 0 s 1)
          have HES : Hid ((E14 s 0 s 1).size = 14) := rfl
          have i14 : Hid ((Tryd.prog.info? 104).map (·.size) = some (E14 s 0 s 1).size) := info14
          have HIX := Lib.hid (fun (x : Nat) (hx : x ≤ 1) W => by have := run_indexP (P := Tryd.prog) Tryd.underlying104 Tryd.underlying103 rfl info7 (E14 s 0 s 1) x (by omega) .i64 W; rw [E14_ext s x hx] at this; exact this)
          generalize E14 s 0 s 1 = EE at *
          go_upto_region 10 with (first | (go_at_call 78; refine CF.out.mono ?_; rintro e w4 ⟨rfl, hb4⟩) | (refine at_alloc rfl 104 rfl Z14 Z14_eq ?_; intro w5 h5) | (refine at_store rfl 104 _ _ rfl w4.heap.size EE rfl rfl 104 Z14 h5.row i14.out (by rw [HES.out]; rfl) HE1.out ?_; intro w6 h6) | (refine at_load rfl 104 _ rfl w4.heap.size rfl 104 EE _ h6.row Tryd.underlying104 rfl i14.out ?_))
          have b46 : Below wr.heap.size wr w6 := (Below.then_ hb4 h5.bel).trans (h6.below hb4.size)
          replace own := own.below b46 (Nat.le_refl _)
          replace q1 := q1.after b46
          replace bel := Below.then_ bel b46
          replace hBw : B0 ≤ w6.heap.size := Nat.le_trans hBw b46.size
          obtain ⟨g6, hg6⟩ : ∃ g, g = w4.heap.size := ⟨_, rfl⟩
          rw [← hg6]
          clear h5 h6 hb4 b46 CF hg6
          obtain ⟨wo2, rfl⟩ : ∃ wo : World, wo = w6 := ⟨_, rfl⟩
          go_loopw [3, 23] (fun r i wr => ∃ x : Nat, x ≤ 2 ∧ i = .int .i64 x ∧ ∃ N, Hid (N = 126 * t + 2 * (s - 1) + x) ∧ ∃ A1 c1, r = .slice A1 N c1 ∧ OwnR wr B0 129 3 A1 N c1 (hops u N) ∧ Blk wr g1 33 Z ∧ Below w.heap.size w wr ∧ B0 ≤ wr.heap.size) (fun _ i _ => 2 - (intOf i).toNat)
          case atStart => exact ⟨0, by omega, rfl, N, HN.out, A1, c1, rfl, own, q1, bel, hBw⟩
          case round =>
            clear own q1 bel HN hBw
            obtain ⟨x, hx, rfl, N, HN, A1, c1, rfl, own, q1, bel, hBw⟩ := hrel
            by_cases hlt3 : x < 2
            · have ixx := HIX.out x (by omega)
              have dk3 : decide ((x : Int) < 2) = true := by simp <;> omega
              have i7 : Hid ((Tryd.prog.info? 103).map (·.size) = some (E7 s x).size) := info7
              have HX1 := Lib.hid (E7_one s x)
              have HXZ : Hid ((C7 0 0 0 0 0 0 0).size = (E7 s x).size) := rfl
              have HE8 : Hid ((E7 s x)[1]? = some (.int .i64 ((Cv.nx s x : Nat) : Int))) := rfl
              have CWt := Lib.hid (CW.out s x t hlt)
              obtain ⟨h1, h2, h3, h4⟩ := hp_of t s x hlt (by omega) hlt2 (by omega)
              have hnx := Cv.nx_lt s x hlt2 (by omega)
              have HH : Hid (H3 u (126 * t + 2 * (s - 1) + x) = [.int .i64 ((64 * (t % 4) + s : Nat) : Int), .int .i64 ((64 * ((t + 1) % 4) + Cv.nx s x : Nat) : Int), .int .i64 ((Cv.ew u t s x : Nat) : Int)]) := by
                unfold Hid H3 hpF hpG hpW
                rw [h1, h2, h3, Nat.mod_eq_of_lt hlt]
              have hN504 : N ≤ 504 := by rw [HN.out]; omega
              obtain ⟨t1, ht1⟩ : ∃ t1, t1 = t + 1 := ⟨_, rfl⟩
              have CP1 := Lib.hid (fun W => dplace t s W (by omega) hlt2)
              have CP2 : Hid (∀ W, Calls Tryd.prog 60 #[.int .i64 (t1 : Int), .int .i64 ((Cv.nx s x : Nat) : Int)] W fun e w' => e = .returned (.int .i64 ((64 * ((t + 1) % 4) + Cv.nx s x : Nat) : Int)) ∧ W = w') := fun W => by rw [ht1]; exact dplace (t + 1) (Cv.nx s x) W (by omega) hnx
              have f1 : IntKind.i64.wrap ((t : Int) + 1) = (t1 : Int) := by rw [IntWalk.i64_in _ (by omega)]; omega
              have hsz := bel.size
              have hB0' : Hid (∀ k, (Value.slice A1 N c1).ownBlock = some k → B0 ≤ k ∧ k < wr.heap.size) := own.block
              generalize E7 s x = E at *
              generalize 64 * (t % 4) + s = f at *
              generalize 64 * ((t + 1) % 4) + Cv.nx s x = g at *
              generalize Cv.ew u t s x = n at *
              generalize Cv.nx s x = nn at *
              obtain ⟨xs, hxs⟩ : ∃ xs, xs = hops u N := ⟨_, rfl⟩
              have HXS := Lib.hid hxs
              rw [← hxs] at own
              clear h1 h2 h3 h4 ht1 hxs
              go_upto_region 12 with (first | (refine at_alloc rfl 103 rfl (C7 0 0 0 0 0 0 0) Z7_eq ?_; intro w7 h7) | (refine at_store rfl 103 _ _ rfl wr.heap.size E rfl rfl 103 _ h7.row i7.out HXZ.out HX1.out ?_; intro w8 h8))
              have q9 := h8.row
              have b78 : Below wr.heap.size wr w8 := h7.bel.trans (h8.below (Nat.le_refl _))
              replace own := own.below b78 (Nat.le_refl _)
              replace q1 := q1.after b78
              have bel5 := Below.then_ bel b78
              have hw05 := bel5.size
              have hB0 : B0 ≤ w8.heap.size := by
                have := b78.size
                omega
              have hr9 : (Value.slice A1 N c1).ownBlock ≠ some wr.heap.size := fun h => by have := (hB0'.out _ h).2; omega
              have hr1 : (Value.slice A1 N c1).ownBlock ≠ some g1 := fun h => by have := (hB0'.out _ h).1; omega
              obtain ⟨g9, hg9⟩ : ∃ g, g = wr.heap.size := ⟨_, rfl⟩
              rw [← hg9] at q9 hr9
              rw [← hg9]
              clear h7 h8 hg9 hB0'
              have HE1 : (#[Value.int .i64 (f : Int), .int .i64 (g : Int), .int .i64 (n : Int)]).all (·.oneCell') = true := by simp [Value.oneCell']
              have HK : Hid (∀ W, Below w8.heap.size w8 W → (Blk W g9 103 E ∧ Blk W g1 33 Z ∧ W.cell? ⟨g9, 1, none⟩ = some (.int .i64 (nn : Int)))) := fun W hB => ⟨q9.after hB, q1.after hB, ((q9.after hB).cell 1).trans HE8.out⟩
              have bel0 : Below w8.heap.size w8 w8.drew := (Below.refl _ _).drew
              refine wp_region_noPanic ?_
              refine wp_region_held_drew (S := fun W => Blk W g9 103 E ∧ Blk W g1 33 Z ∧ W.cell? ⟨g9, 1, none⟩ = some (.int .i64 (nn : Int))) (by kernel_rfl) (HK.out _ bel0) (fun hHeld => ?_)
              refine wpAnyH_take (i := 0) (oi := ⟨some 26, _, _, _, _, _⟩) (v := ?_) rfl (by kernel_rfl) (by kernel_rfl) (by kernel_rfl) (fun _ _ _ h => h) (Or.inl ⟨by rfl, ?_⟩) hHeld ?_
              rotate_left
              · intro W hSW; obtain ⟨hSW0, hSW1, hSW2⟩ := hSW; go_simp; first | done | with_reducible rfl
              (try simp only [Act.put, List.setIfInBounds_toArray, List.set_cons_zero, List.set_cons_succ])
              refine wpAnyH_take (i := 1) (oi := ⟨some 27, _, _, _, _, _⟩) (v := ?_) rfl (by kernel_rfl) (by kernel_rfl) (by kernel_rfl) (fun _ _ _ h => h) (Or.inl ⟨by rfl, ?_⟩) hHeld ?_
              rotate_left
              · intro W hSW; obtain ⟨hSW0, hSW1, hSW2⟩ := hSW; go_simp; first | done | with_reducible rfl
              (try simp only [Act.put, List.setIfInBounds_toArray, List.set_cons_zero, List.set_cons_succ])
              refine wpAnyH_take (i := 2) (oi := ⟨some 28, _, _, _, _, _⟩) (v := ?_) rfl (by kernel_rfl) (by kernel_rfl) (by kernel_rfl) (fun _ _ _ h => h) (Or.inl ⟨by rfl, ?_⟩) hHeld ?_
              rotate_left
              · intro W hSW; obtain ⟨hSW0, hSW1, hSW2⟩ := hSW; go_simp; first | done | with_reducible rfl
              (try simp only [Act.put, List.setIfInBounds_toArray, List.set_cons_zero, List.set_cons_succ])
              refine wpAnyH_take (i := 4) (oi := ⟨some 30, _, _, _, _, _⟩) (v := ?_) rfl (by kernel_rfl) (by kernel_rfl) (by kernel_rfl) (fun _ _ _ h => h) (Or.inl ⟨by rfl, ?_⟩) hHeld ?_
              rotate_left
              · intro W hSW; obtain ⟨hSW0, hSW1, hSW2⟩ := hSW; go_simp; first | done | with_reducible rfl
              (try simp only [Act.put, List.setIfInBounds_toArray, List.set_cons_zero, List.set_cons_succ])
              refine wpAnyH_take (i := 5) (oi := ⟨some 31, _, _, _, _, _⟩) (v := ?_) rfl (by kernel_rfl) (by kernel_rfl) (by kernel_rfl) (fun _ _ _ h => h) (Or.inl ⟨by rfl, ?_⟩) hHeld ?_
              rotate_left
              · intro W hSW; obtain ⟨hSW0, hSW1, hSW2⟩ := hSW; go_simp; first | done | with_reducible rfl
              (try simp only [Act.put, List.setIfInBounds_toArray, List.set_cons_zero, List.set_cons_succ])
              refine wpAnyH_take (i := 6) (oi := ⟨some 32, _, _, _, _, _⟩) (v := ?_) rfl (by kernel_rfl) (by kernel_rfl) (by kernel_rfl) (fun _ _ _ h => h) (Or.inl ⟨by rfl, ?_⟩) hHeld ?_
              rotate_left
              · intro W hSW; obtain ⟨hSW0, hSW1, hSW2⟩ := hSW; go_simp; first | done | with_reducible rfl
              (try simp only [Act.put, List.setIfInBounds_toArray, List.set_cons_zero, List.set_cons_succ])
              refine wpAnyH_take (i := 7) (oi := ⟨some 33, _, _, _, _, _⟩) (v := ?_) rfl (by kernel_rfl) (by kernel_rfl) (by kernel_rfl) (fun _ _ _ h => h) (Or.inl ⟨by rfl, ?_⟩) hHeld ?_
              rotate_left
              · intro W hSW; obtain ⟨hSW0, hSW1, hSW2⟩ := hSW; go_simp; first | done | with_reducible rfl
              (try simp only [Act.put, List.setIfInBounds_toArray, List.set_cons_zero, List.set_cons_succ])
              refine wpAnyH_take (i := 9) (oi := ⟨some 35, _, _, _, _, _⟩) (v := _) rfl (by kernel_rfl) (by kernel_rfl) (by kernel_rfl) (fun _ _ _ h => h) (yields_row (by rfl) 103 _ (by rfl) g9 (by rfl) 103 E _ (fun W h => h.1) Tryd.underlying103 rfl i7.out) hHeld ?_
              (try simp only [Act.put, List.setIfInBounds_toArray, List.set_cons_zero, List.set_cons_succ])
              refine wpAnyH_take (i := 10) (oi := ⟨some 36, _, _, _, _, _⟩) (v := ?_) rfl (by kernel_rfl) (by kernel_rfl) (by kernel_rfl) (fun _ _ _ h => h) (Or.inl ⟨by rfl, ?_⟩) hHeld ?_
              rotate_left
              · intro W hSW; obtain ⟨hSW0, hSW1, hSW2⟩ := hSW; go_simp; first | done | with_reducible rfl
              (try simp only [Act.put, List.setIfInBounds_toArray, List.set_cons_zero, List.set_cons_succ])
              refine wpAnyH_take (i := 11) (oi := ⟨some 37, _, _, _, _, _⟩) (v := _) rfl (by kernel_rfl) (by kernel_rfl) (by kernel_rfl) (fun _ _ _ h => h) (yields_row (by rfl) 33 _ (by rfl) g1 (by rfl) 33 Z _ (fun W h => h.2.1) Tryd.underlying33 rfl iZ.out) hHeld ?_
              (try simp only [Act.put, List.setIfInBounds_toArray, List.set_cons_zero, List.set_cons_succ])
              refine wpAnyH_ready (rs := [3]) (by kernel_rfl) (by simp) ?_
              refine AllReadyH.cons (o := ⟨some 29, _, _, _, _, _⟩) rfl (fun K hK => ?_) (AllReadyH.nil)
              go_simp
              refine (CP1.out _).mono ?_
              rintro e W' ⟨rfl, rfl⟩
              clear hHeld
              refine hK.out _ _ ?_ (fun hHeld => ?_)
              · exact HK.out _ bel0
              clear hK K
              (try simp only [Act.put, List.setIfInBounds_toArray, List.set_cons_zero, List.set_cons_succ])
              refine wpAnyH_ready (rs := [8]) (by kernel_rfl) (by simp) ?_
              refine AllReadyH.cons (o := ⟨some 34, _, _, _, _, _⟩) rfl (fun K hK => ?_) (AllReadyH.nil)
              go_simp
              refine (CP2.out _).mono ?_
              rintro e W' ⟨rfl, rfl⟩
              clear hHeld
              refine hK.out _ _ ?_ (fun hHeld => ?_)
              · exact HK.out _ bel0
              clear hK K
              (try simp only [Act.put, List.setIfInBounds_toArray, List.set_cons_zero, List.set_cons_succ])
              refine wpAnyH_ready (rs := [12]) (by kernel_rfl) (by simp) ?_
              refine AllReadyH.cons (o := ⟨some 38, _, _, _, _, _⟩) rfl (fun K hK => ?_) (AllReadyH.nil)
              go_simp
              refine (CWt.out _).mono ?_
              rintro e wc ⟨rfl, hb⟩
              have bc := Below.then_ bel0 hb
              clear hHeld hb
              refine hK.out _ _ ?_ (fun hHeld => ?_)
              · exact HK.out _ bc
              clear hK K
              (try simp only [Act.put, List.setIfInBounds_toArray, List.set_cons_zero, List.set_cons_succ])
              refine wpAnyH_take (i := 13) (oi := ⟨some 39, _, _, _, _, _⟩) (v := ?_) rfl (by kernel_rfl) (by kernel_rfl) (by kernel_rfl) (fun _ _ _ h => h) (Or.inl ⟨by rfl, ?_⟩) hHeld ?_
              rotate_left
              · intro W hSW; obtain ⟨hSW0, hSW1, hSW2⟩ := hSW; go_simp; first | done | with_reducible rfl
              (try simp only [Act.put, List.setIfInBounds_toArray, List.set_cons_zero, List.set_cons_succ])
              refine wpAnyH_ready (rs := [14]) (by kernel_rfl) (by simp) ?_
              refine AllReadyH.cons (o := ⟨some 40, _, _, _, _, _⟩) rfl (fun K hK => ?_) (AllReadyH.nil)
              refine step_build3 (by rfl) 96 129 _ (by rfl) i0 _ Tryd.underlying96 hi0 hz0 hz1 #[.int .i64 (f : Int), .int .i64 (g : Int), .int .i64 (n : Int)] rfl (by rfl) ?_
              clear hHeld
              refine hK.out _ _ ?_ (fun hHeld => ?_)
              · exact HK.out _ (Below.then_ bc ((Below.refl _ _).alloc (Nat.le_refl _) _))
              clear hK K
              (try simp only [Act.put, List.setIfInBounds_toArray, List.set_cons_zero, List.set_cons_succ])
              refine wpAnyH_ready (rs := [15]) (by kernel_rfl) (by simp) ?_
              refine AllReadyH.cons (o := ⟨some 41, _, _, _, _, _⟩) rfl (fun K hK => ?_) (AllReadyH.nil)
              refine step_appR (by rfl) _ _ 96 (by rfl) B0 129 i0 _ 3 24 Tryd.underlying96 hi0 hz0 hz1 hz2 rfl (by omega) A1 N c1 xs _ rfl HE1 (by rfl) (own.below bc (Nat.le_refl _)) (by rfl) (by omega) (by unfold maxLen; omega) (Nat.le_trans hB0 bc.size) ?_
              intro A3 c3 w9 own9 gr9
              have hS := HK.out _ bc
              clear hHeld
              refine hK.out _ _ ?_ (fun hHeld => ?_)
              · exact ⟨hS.1.grown gr9 hr9, hS.2.1.grown gr9 hr1, ((hS.1.grown gr9 hr9).cell 1).trans HE8.out⟩
              clear hK K
              (try simp only [Act.put, List.setIfInBounds_toArray, List.set_cons_zero, List.set_cons_succ])
              have bel9 := (bel5.trans (bc.mono hw05)).grown gr9 (Nat.le_trans bel5.size bc.size) (fun j hj => Nat.le_trans hwB (own.block j hj).1)
              have q19 := hS.2.1.grown gr9 hr1
              have hB9 : B0 ≤ w9.heap.size := Nat.le_trans (Nat.le_trans hB0 bc.size) gr9.size
              clear hS
              refine wpAnyH_take (i := 16) (oi := ⟨some 3, _, _, _, _, _⟩) (v := ?_) rfl (by kernel_rfl) (by kernel_rfl) (by kernel_rfl) (fun _ _ _ h => h) (Or.inl ⟨by rfl, ?_⟩) hHeld ?_
              rotate_left
              · intro W hSW; obtain ⟨hSW0, hSW1, hSW2⟩ := hSW; go_simp; first | done | with_reducible rfl
              (try simp only [Act.put, List.setIfInBounds_toArray, List.set_cons_zero, List.set_cons_succ])
              refine wpAnyH_done (by kernel_rfl) ?_ _
              refine NoPanic.normal ?_
              clear hHeld
              clear f1
              go_wp2
              go_roundw
              case rel => exact ⟨x + 1, by omega, by go_num, N + 1, by unfold Hid; rw [HN.out]; omega, A3, c3, rfl, own9.to rfl (by rw [HXS.out, hops_succ, HN.out, HH.out]), q19, bel9, hB9⟩
              case measure => simp [intOf] <;> omega
            · have dk3 : decide ((x : Int) < 2) = false := by simp <;> omega
              have HX2 : Hid (x = 2) := by unfold Hid; omega
              go_wp2
              go_roundw
              case rel => exact ⟨s + 1, by omega, by omega, by go_num, N, by unfold Hid; rw [HN.out, HX2.out]; omega, A1, c1, rfl, own, q1, bel, hBw⟩
              case measure => simp [intOf] <;> omega
        · have dk2 : decide ((s : Int) < 64) = false := by simp <;> omega
          have HS2 : Hid (s = 64) := by unfold Hid; omega
          go_wp2
          go_roundw
          case rel => exact ⟨t + 1, by omega, by go_num, N, by unfold Hid; rw [HN.out, HS2.out]; omega, A1, c1, rfl, own, q1, bel, hBw⟩
          case measure => simp [intOf] <;> omega
    · have dk : decide ((t : Int) < 4) = false := by simp <;> omega
      have HT4 : Hid (N = 504) := by unfold Hid; rw [HN.out, show t = 4 by omega]
      go_wp2
      go_ret
      exact ⟨A1, c1, ret_sl HT4.out, by have := own.down hwB; rw [HT4.out] at this; exact this, bel⟩
end Go.Proofs.YtibddlldgmidlabDoor

namespace Go.Proofs.YtibddlldgmidlabDoor
open Go.RowKit
set_option linter.unusedVariables false
set_option linter.unusedSimpArgs false

theorem infoHop3 : (Tryd.prog.info? 129).map (·.size) = some 3 := by kernel_rfl
theorem ZHop_eq : (Tryd.prog.info? 129).bind (fun i => i.zero.map (fun z => z.cells)) = some #[.int .i64 0, .int .i64 0, .int .i64 0] := by kernel_rfl
/-- A hop as a block. -/
def A3 (f g n : Nat) : Array Value := #[.int .i64 (f : Int), .int .i64 (g : Int), .int .i64 (n : Int)]
theorem A3_one (f g n : Nat) : (A3 f g n).all (·.oneCell') = true := by simp [A3, Value.oneCell']
/-- What lower gives. -/
def LowerOk (u : Nat → Nat) (w : World) (gb : Nat) (A0 : List Nat) (e : Ending) (w' : World) : Prop := ∃ A c, e = .returned (.bool c) ∧ Blk w' gb 94 (W4 (nw A)) ∧ Pass2 u A0 A c 504 ∧ (∀ k, k < w.heap.size → k ≠ gb → w'.heap[k]? = w.heap[k]?) ∧ Below gb w w'
set_option maxHeartbeats 2000000 in
set_option maxRecDepth 100000 in
/-- distance.lower. -/
theorem dlower (u : Nat → Nat) (gb gh c : Nat) (A0 : List Nat) (w : World) (hu : ∀ v, v < 4 → u v ≤ 7) (hq : Blk w gb 94 (W4 (nw A0))) (hA : T2 u A0) (hF : F2 u A0 4) (hh : ∀ i v, (hops u 504)[i]? = some v → w.cell? ⟨gh, i, none⟩ = some v) (hgl : gh < w.heap.size) (hne : gh ≠ gb) :
    Calls Tryd.prog 59 #[.pointer (some ⟨gb, 0, none⟩), .slice (some ⟨gh, 0, none⟩) 504 c] w (LowerOk u w gb A0) := by
  have HP0 := Lib.hid (Pass2.start hA hF)
  have HH := Lib.hid (hops_get u 504)
  have HU := Lib.hid hu
  clear hA hF hu
  go_enter Tryd.func59, Tryd.ntmps59
  go_wp2
  go_loopw [5, 11] (fun b i wr => ∃ k : Nat, k ≤ 504 ∧ i = .int .i64 k ∧ ∃ A cc, b = .bool cc ∧ Blk wr gb 94 (W4 (nw A)) ∧ Hid (Pass2 u A0 A cc k) ∧ (∀ k, k < w.heap.size → k ≠ gb → wr.heap[k]? = w.heap[k]?) ∧ Below gb w wr ∧ w.heap.size ≤ wr.heap.size) (fun _ i _ => 504 - (intOf i).toNat)
  case atStart => exact ⟨0, by omega, rfl, A0, false, rfl, hq, HP0.out, fun _ _ _ => rfl, Below.refl _ _, Nat.le_refl _⟩
  case round =>
    clear HP0
    obtain ⟨k, hk, rfl, A, cc, rfl, qb, HP, hoth, bel, hsz⟩ := hrel
    by_cases hlt : k < 504
    · have dk : decide ((k : Int) < 504) = true := by simp <;> omega
      have hF := hpF_lt k hlt
      have hG := hpG_lt k hlt
      have hn : hpW u k ≤ 28 := Cv.ew_bound HU.out _ _ _
      have hlen := HP.out.tab.len
      have hle := HP.out.tab.le (hpF k)
      have cF := (qb.cell (hpF k)).trans (W4nw_get A (hpF k) (by rw [hlen]; exact hF))
      have cG := (qb.cell (hpG k)).trans (W4nw_get A (hpG k) (by rw [hlen]; exact hG))
      have HKp := Lib.hid HP.out.keep
      have HLs := Lib.hid (HP.out.less hlt)
      have hcell : ∀ i v, (hops u 504)[i]? = some v → wr.cell? ⟨gh, i, none⟩ = some v := fun i v hv => by
        have := hoth gh hgl hne
        rw [← hh i v hv]
        show World.cell? wr _ = World.cell? w _
        simp only [World.cell?, this]
      have HRA : Hid (wr.rangeAt gh (3 * k) (A3 (hpF k) (hpG k) (hpW u k)).toList) := fun j v hv => by
        have hj : j < 3 := by
          have := (List.getElem?_eq_some_iff.1 hv).1
          simpa [A3] using this
        refine hcell (3 * k + j) v ((HH.out k j hlt hj).trans ?_)
        rw [← hv]
        rfl
      have iA : Hid ((Tryd.prog.info? 129).map (·.size) = some (A3 (hpF k) (hpG k) (hpW u k)).size) := infoHop3
      have ih := fun W => run_idxR (P := Tryd.prog) (sz := 3) Tryd.underlying96 (by kernel_rfl) gh 0 504 c k hlt .i64 W
      simp only [Nat.zero_add] at ih
      have sz : hpG k < (W4 (nw A)).size := by rw [W4nw_size, hlen]; exact hG
      generalize hpF k = f at *
      generalize hpG k = g at *
      generalize hpW u k = n at *
      generalize A.getD f 0 = a at *
      generalize A.getD g 0 = b at *
      have iF := fun W => run_idx (P := Tryd.prog) (sz := 1) Tryd.underlying94 (by kernel_rfl) gb 0 f hF .i64 W
      have iG := fun W => run_idx (P := Tryd.prog) (sz := 1) Tryd.underlying94 (by kernel_rfl) gb 0 g hG .i64 W
      simp only [Nat.zero_add, Nat.one_mul] at iF iG
      have HA1 := Lib.hid (A3_one f g n)
      have H0 : Hid ((A3 f g n)[0]? = some (.int .i64 (f : Int)) ∧ (A3 f g n)[1]? = some (.int .i64 (g : Int)) ∧ (A3 f g n)[2]? = some (.int .i64 (n : Int))) := ⟨rfl, rfl, rfl⟩
      have HAS : Hid ((#[Value.int .i64 0, .int .i64 0, .int .i64 0] : Array Value).size = (A3 f g n).size) := rfl
      generalize A3 f g n = V at *
      obtain ⟨m, hm⟩ : ∃ m, a + n = m := ⟨_, rfl⟩
      have f1 : IntKind.i64.wrap ((a : Int) + (n : Int)) = (m : Int) := by rw [IntWalk.i64_in _ (by omega)]; omega
      rw [hm] at HKp HLs
      have hm2 : m ≤ 10000 := by omega
      clear hm hcell hle hlen
      go_upto_region 5 with (first | (refine at_load_mid rfl 129 _ rfl gh (3 * k) rfl V _ HRA.out Tryd.underlying129 rfl iA.out ?_) | (refine at_alloc rfl 129 rfl _ ZHop_eq ?_; intro w7 h7) | (refine at_store rfl 129 _ _ rfl wr.heap.size V rfl rfl 129 _ h7.row iA.out HAS.out HA1.out ?_; intro w8 h8))
      have lb := qb.lt
      have q8 := h8.row
      have b78 : Below wr.heap.size wr w8 := h7.bel.trans (h8.below (Nat.le_refl _))
      have qb8 := qb.after b78
      have c0 : w8.cell? ⟨wr.heap.size, 0, none⟩ = some (.int .i64 (f : Int)) := (q8.cell 0).trans H0.out.1
      have c2 : w8.cell? ⟨wr.heap.size, 2, none⟩ = some (.int .i64 (n : Int)) := (q8.cell 2).trans H0.out.2.2
      have cF8 := (b78.cell (p := ⟨gb, f, none⟩) (by show gb < wr.heap.size; exact lb)).trans cF
      have cG8 := (b78.cell (p := ⟨gb, g, none⟩) (by show gb < wr.heap.size; exact lb)).trans cG
      have hgn : gb ≠ wr.heap.size := by omega
      have hoth8 : ∀ k, k < w.heap.size → k ≠ gb → w8.heap[k]? = w.heap[k]? := fun k h1 h2 => (b78.block k (by omega)).trans (hoth k h1 h2)
      have bel8 := bel.trans (b78.mono (Nat.le_of_lt lb))
      have hsz8 := Nat.le_trans hsz b78.size
      obtain ⟨gn, hgn2⟩ : ∃ g, g = wr.heap.size := ⟨_, rfl⟩
      rw [← hgn2] at q8 c0 c2 hgn
      rw [← hgn2]
      clear h7 h8 b78 hgn2 cF cG HRA qb hoth hsz bel
      refine wp_region_noPanic ?_
      refine wp_region_held_drew (S := fun W => W.cell? ⟨gn, 0, none⟩ = some (.int .i64 (f : Int)) ∧ W.cell? ⟨gn, 2, none⟩ = some (.int .i64 (n : Int)) ∧ W.cell? ⟨gb, f, none⟩ = some (.int .i64 (a : Int))) (by kernel_rfl) ⟨c0, c2, cF8⟩ (fun hHeld => ?_)
      refine wpAnyH_take (i := 0) (oi := ⟨some 15, _, _, _, _, _⟩) (v := ?_) rfl (by kernel_rfl) (by kernel_rfl) (by kernel_rfl) (fun _ _ _ h => h) (Or.inl ⟨by rfl, ?_⟩) hHeld ?_
      rotate_left
      · intro W hSW; obtain ⟨hSW0, hSW1, hSW2⟩ := hSW; go_simp; first | done | with_reducible rfl
      (try simp only [Act.put, List.setIfInBounds_toArray, List.set_cons_zero, List.set_cons_succ])
      refine wpAnyH_take (i := 1) (oi := ⟨some 16, _, _, _, _, _⟩) (v := ?_) rfl (by kernel_rfl) (by kernel_rfl) (by kernel_rfl) (fun _ _ _ h => h) (Or.inl ⟨by rfl, ?_⟩) hHeld ?_
      rotate_left
      · intro W hSW; obtain ⟨hSW0, hSW1, hSW2⟩ := hSW; go_simp; first | done | with_reducible rfl
      (try simp only [Act.put, List.setIfInBounds_toArray, List.set_cons_zero, List.set_cons_succ])
      refine wpAnyH_take (i := 2) (oi := ⟨some 17, _, _, _, _, _⟩) (v := ?_) rfl (by kernel_rfl) (by kernel_rfl) (by kernel_rfl) (fun _ _ _ h => h) (Or.inl ⟨by rfl, ?_⟩) hHeld ?_
      rotate_left
      · intro W hSW; obtain ⟨hSW0, hSW1, hSW2⟩ := hSW; go_simp; first | done | with_reducible rfl
      (try simp only [Act.put, List.setIfInBounds_toArray, List.set_cons_zero, List.set_cons_succ])
      refine wpAnyH_take (i := 3) (oi := ⟨some 18, _, _, _, _, _⟩) (v := ?_) rfl (by kernel_rfl) (by kernel_rfl) (by kernel_rfl) (fun _ _ _ h => h) (Or.inl ⟨by rfl, ?_⟩) hHeld ?_
      rotate_left
      · intro W hSW; obtain ⟨hSW0, hSW1, hSW2⟩ := hSW; go_simp; first | done | with_reducible rfl
      (try simp only [Act.put, List.setIfInBounds_toArray, List.set_cons_zero, List.set_cons_succ])
      refine wpAnyH_take (i := 4) (oi := ⟨some 19, _, _, _, _, _⟩) (v := ?_) rfl (by kernel_rfl) (by kernel_rfl) (by kernel_rfl) (fun _ _ _ h => h) (Or.inl ⟨by rfl, ?_⟩) hHeld ?_
      rotate_left
      · intro W hSW; obtain ⟨hSW0, hSW1, hSW2⟩ := hSW; go_simp; first | done | with_reducible rfl
      (try simp only [Act.put, List.setIfInBounds_toArray, List.set_cons_zero, List.set_cons_succ])
      refine wpAnyH_take (i := 5) (oi := ⟨some 20, _, _, _, _, _⟩) (v := ?_) rfl (by kernel_rfl) (by kernel_rfl) (by kernel_rfl) (fun _ _ _ h => h) (Or.inl ⟨by rfl, ?_⟩) hHeld ?_
      rotate_left
      · intro W hSW; obtain ⟨hSW0, hSW1, hSW2⟩ := hSW; go_simp; first | done | with_reducible rfl
      (try simp only [Act.put, List.setIfInBounds_toArray, List.set_cons_zero, List.set_cons_succ])
      refine wpAnyH_take (i := 6) (oi := ⟨some 21, _, _, _, _, _⟩) (v := ?_) rfl (by kernel_rfl) (by kernel_rfl) (by kernel_rfl) (fun _ _ _ h => h) (Or.inl ⟨by rfl, ?_⟩) hHeld ?_
      rotate_left
      · intro W hSW; obtain ⟨hSW0, hSW1, hSW2⟩ := hSW; go_simp; first | done | with_reducible rfl
      (try simp only [Act.put, List.setIfInBounds_toArray, List.set_cons_zero, List.set_cons_succ])
      refine wpAnyH_take (i := 7) (oi := ⟨some 22, _, _, _, _, _⟩) (v := ?_) rfl (by kernel_rfl) (by kernel_rfl) (by kernel_rfl) (fun _ _ _ h => h) (Or.inl ⟨by rfl, ?_⟩) hHeld ?_
      rotate_left
      · intro W hSW; obtain ⟨hSW0, hSW1, hSW2⟩ := hSW; go_simp; first | done | with_reducible rfl
      (try simp only [Act.put, List.setIfInBounds_toArray, List.set_cons_zero, List.set_cons_succ])
      refine wpAnyH_take (i := 8) (oi := ⟨some 23, _, _, _, _, _⟩) (v := ?_) rfl (by kernel_rfl) (by kernel_rfl) (by kernel_rfl) (fun _ _ _ h => h) (Or.inl ⟨by rfl, ?_⟩) hHeld ?_
      rotate_left
      · intro W hSW; obtain ⟨hSW0, hSW1, hSW2⟩ := hSW; go_simp; first | done | with_reducible rfl
      (try simp only [Act.put, List.setIfInBounds_toArray, List.set_cons_zero, List.set_cons_succ])
      refine wpAnyH_take (i := 9) (oi := ⟨some 8, _, _, _, _, _⟩) (v := ?_) rfl (by kernel_rfl) (by kernel_rfl) (by kernel_rfl) (fun _ _ _ h => h) (Or.inl ⟨by rfl, ?_⟩) hHeld ?_
      rotate_left
      · intro W hSW; obtain ⟨hSW0, hSW1, hSW2⟩ := hSW; go_simp; first | done | with_reducible rfl
      (try simp only [Act.put, List.setIfInBounds_toArray, List.set_cons_zero, List.set_cons_succ])
      refine wpAnyH_done (by kernel_rfl) ?_ _
      refine NoPanic.normal ?_
      clear hHeld
      obtain ⟨w9, hw9⟩ : ∃ W, W = w8.drew := ⟨_, rfl⟩
      rw [← hw9]
      have q9 : Blk w9 gn 129 V := by rw [hw9]; exact q8.drew
      have qb9 : Blk w9 gb 94 (W4 (nw A)) := by rw [hw9]; exact qb8.drew
      have c1 : w9.cell? ⟨gn, 1, none⟩ = some (.int .i64 (g : Int)) := (q9.cell 1).trans H0.out.2.1
      have cG9 : w9.cell? ⟨gb, g, none⟩ = some (.int .i64 (b : Int)) := by rw [hw9]; exact cG8
      have hoth9 : ∀ k, k < w.heap.size → k ≠ gb → w9.heap[k]? = w.heap[k]? := by rw [hw9]; exact hoth8
      have bel9 : Below gb w w9 := by rw [hw9]; exact bel8.drew
      have hsz9 : w.heap.size ≤ w9.heap.size := by rw [hw9]; exact hsz8
      clear hw9 q8 qb8 c0 c2 cF8 cG8 hoth8 bel8 hsz8 iF f1
      go_wp2_with fail
      refine wp_region_noPanic ?_
      refine wp_region_held_drew (S := fun W => W.cell? ⟨gn, 1, none⟩ = some (.int .i64 (g : Int)) ∧ W.cell? ⟨gb, g, none⟩ = some (.int .i64 (b : Int))) (by kernel_rfl) ⟨c1, cG9⟩ (fun hHeld => ?_)
      refine wpAnyH_take (i := 0) (oi := ⟨some 24, _, _, _, _, _⟩) (v := ?_) rfl (by kernel_rfl) (by kernel_rfl) (by kernel_rfl) (fun _ _ _ h => h) (Or.inl ⟨by rfl, ?_⟩) hHeld ?_
      rotate_left
      · intro W hSW; obtain ⟨hSW0, hSW1⟩ := hSW; go_simp; first | done | with_reducible rfl
      (try simp only [Act.put, List.setIfInBounds_toArray, List.set_cons_zero, List.set_cons_succ])
      refine wpAnyH_take (i := 1) (oi := ⟨some 25, _, _, _, _, _⟩) (v := ?_) rfl (by kernel_rfl) (by kernel_rfl) (by kernel_rfl) (fun _ _ _ h => h) (Or.inl ⟨by rfl, ?_⟩) hHeld ?_
      rotate_left
      · intro W hSW; obtain ⟨hSW0, hSW1⟩ := hSW; go_simp; first | done | with_reducible rfl
      (try simp only [Act.put, List.setIfInBounds_toArray, List.set_cons_zero, List.set_cons_succ])
      refine wpAnyH_take (i := 2) (oi := ⟨some 26, _, _, _, _, _⟩) (v := ?_) rfl (by kernel_rfl) (by kernel_rfl) (by kernel_rfl) (fun _ _ _ h => h) (Or.inl ⟨by rfl, ?_⟩) hHeld ?_
      rotate_left
      · intro W hSW; obtain ⟨hSW0, hSW1⟩ := hSW; go_simp; first | done | with_reducible rfl
      (try simp only [Act.put, List.setIfInBounds_toArray, List.set_cons_zero, List.set_cons_succ])
      refine wpAnyH_take (i := 3) (oi := ⟨some 27, _, _, _, _, _⟩) (v := ?_) rfl (by kernel_rfl) (by kernel_rfl) (by kernel_rfl) (fun _ _ _ h => h) (Or.inl ⟨by rfl, ?_⟩) hHeld ?_
      rotate_left
      · intro W hSW; obtain ⟨hSW0, hSW1⟩ := hSW; go_simp; first | done | with_reducible rfl
      (try simp only [Act.put, List.setIfInBounds_toArray, List.set_cons_zero, List.set_cons_succ])
      refine wpAnyH_take (i := 4) (oi := ⟨some 28, _, _, _, _, _⟩) (v := ?_) rfl (by kernel_rfl) (by kernel_rfl) (by kernel_rfl) (fun _ _ _ h => h) (Or.inl ⟨by rfl, ?_⟩) hHeld ?_
      rotate_left
      · intro W hSW; obtain ⟨hSW0, hSW1⟩ := hSW; go_simp; first | done | with_reducible rfl
      (try simp only [Act.put, List.setIfInBounds_toArray, List.set_cons_zero, List.set_cons_succ])
      refine wpAnyH_take (i := 5) (oi := ⟨some 29, _, _, _, _, _⟩) (v := ?_) rfl (by kernel_rfl) (by kernel_rfl) (by kernel_rfl) (fun _ _ _ h => h) (Or.inl ⟨by rfl, ?_⟩) hHeld ?_
      rotate_left
      · intro W hSW; obtain ⟨hSW0, hSW1⟩ := hSW; go_simp; first | done | with_reducible rfl
      (try simp only [Act.put, List.setIfInBounds_toArray, List.set_cons_zero, List.set_cons_succ])
      refine wpAnyH_take (i := 6) (oi := ⟨some 30, _, _, _, _, _⟩) (v := ?_) rfl (by kernel_rfl) (by kernel_rfl) (by kernel_rfl) (fun _ _ _ h => h) (Or.inl ⟨by rfl, ?_⟩) hHeld ?_
      rotate_left
      · intro W hSW; obtain ⟨hSW0, hSW1⟩ := hSW; go_simp; first | done | with_reducible rfl
      (try simp only [Act.put, List.setIfInBounds_toArray, List.set_cons_zero, List.set_cons_succ])
      refine wpAnyH_take (i := 7) (oi := ⟨some 31, _, _, _, _, _⟩) (v := ?_) rfl (by kernel_rfl) (by kernel_rfl) (by kernel_rfl) (fun _ _ _ h => h) (Or.inl ⟨by rfl, ?_⟩) hHeld ?_
      rotate_left
      · intro W hSW; obtain ⟨hSW0, hSW1⟩ := hSW; go_simp; first | done | with_reducible rfl
      (try simp only [Act.put, List.setIfInBounds_toArray, List.set_cons_zero, List.set_cons_succ])
      refine wpAnyH_done (by kernel_rfl) ?_ _
      refine NoPanic.normal ?_
      clear hHeld
      obtain ⟨w10, hw10⟩ : ∃ W, W = w9.drew := ⟨_, rfl⟩
      rw [← hw10]
      have q10 : Blk w10 gn 129 V := by rw [hw10]; exact q9.drew
      have qb10 : Blk w10 gb 94 (W4 (nw A)) := by rw [hw10]; exact qb9.drew
      have c1' : w10.cell? ⟨gn, 1, none⟩ = some (.int .i64 (g : Int)) := (q10.cell 1).trans H0.out.2.1
      have hoth10 : ∀ k, k < w.heap.size → k ≠ gb → w10.heap[k]? = w.heap[k]? := by rw [hw10]; exact hoth9
      have bel10 : Below gb w w10 := by rw [hw10]; exact bel9.drew
      have hsz10 : w.heap.size ≤ w10.heap.size := by rw [hw10]; exact hsz9
      clear hw10 q9 qb9 c1 cG9 hoth9 bel9 hsz9
      by_cases hmb : m < b
      · have HL2 := Lib.hid (HLs.out hmb)
        go_wp2_with fail
        have qhd : Blk w10.drew gn 129 V := q10.drew
        have qbd : Blk w10.drew gb 94 (W4 (nw A)) := qb10.drew
        refine wp_region_noPanic ?_
        refine wp_region_held_drew (S := fun W => W.cell? ⟨gn, 1, none⟩ = some (.int .i64 (g : Int))) (by kernel_rfl) c1' (fun hHeld => ?_)
        refine wpAnyH_take (i := 0) (oi := ⟨some 32, _, _, _, _, _⟩) (v := ?_) rfl (by kernel_rfl) (by kernel_rfl) (by kernel_rfl) (fun _ _ _ h => h) (Or.inl ⟨by rfl, ?_⟩) hHeld ?_
        rotate_left
        · intro W hSW; have hSW0 := hSW; go_simp; first | done | with_reducible rfl
        (try simp only [Act.put, List.setIfInBounds_toArray, List.set_cons_zero, List.set_cons_succ])
        refine wpAnyH_take (i := 1) (oi := ⟨some 33, _, _, _, _, _⟩) (v := ?_) rfl (by kernel_rfl) (by kernel_rfl) (by kernel_rfl) (fun _ _ _ h => h) (Or.inl ⟨by rfl, ?_⟩) hHeld ?_
        rotate_left
        · intro W hSW; have hSW0 := hSW; go_simp; first | done | with_reducible rfl
        (try simp only [Act.put, List.setIfInBounds_toArray, List.set_cons_zero, List.set_cons_succ])
        refine wpAnyH_take (i := 2) (oi := ⟨some 34, _, _, _, _, _⟩) (v := ?_) rfl (by kernel_rfl) (by kernel_rfl) (by kernel_rfl) (fun _ _ _ h => h) (Or.inl ⟨by rfl, ?_⟩) hHeld ?_
        rotate_left
        · intro W hSW; have hSW0 := hSW; go_simp; first | done | with_reducible rfl
        (try simp only [Act.put, List.setIfInBounds_toArray, List.set_cons_zero, List.set_cons_succ])
        refine wpAnyH_take (i := 3) (oi := ⟨some 35, _, _, _, _, _⟩) (v := ?_) rfl (by kernel_rfl) (by kernel_rfl) (by kernel_rfl) (fun _ _ _ h => h) (Or.inl ⟨by rfl, ?_⟩) hHeld ?_
        rotate_left
        · intro W hSW; have hSW0 := hSW; go_simp; first | done | with_reducible rfl
        (try simp only [Act.put, List.setIfInBounds_toArray, List.set_cons_zero, List.set_cons_succ])
        refine wpAnyH_take (i := 4) (oi := ⟨some 36, _, _, _, _, _⟩) (v := ?_) rfl (by kernel_rfl) (by kernel_rfl) (by kernel_rfl) (fun _ _ _ h => h) (Or.inl ⟨by rfl, ?_⟩) hHeld ?_
        rotate_left
        · intro W hSW; have hSW0 := hSW; go_simp; first | done | with_reducible rfl
        (try simp only [Act.put, List.setIfInBounds_toArray, List.set_cons_zero, List.set_cons_succ])
        refine wpAnyH_take (i := 5) (oi := ⟨some 37, _, _, _, _, _⟩) (v := ?_) rfl (by kernel_rfl) (by kernel_rfl) (by kernel_rfl) (fun _ _ _ h => h) (Or.inl ⟨by rfl, ?_⟩) hHeld ?_
        rotate_left
        · intro W hSW; have hSW0 := hSW; go_simp; first | done | with_reducible rfl
        (try simp only [Act.put, List.setIfInBounds_toArray, List.set_cons_zero, List.set_cons_succ])
        refine wpAnyH_ready (rs := [6]) (by kernel_rfl) (by simp) ?_
        refine AllReadyH.cons (o := ⟨none, _, _, _, _, _⟩) rfl (fun K hK => ?_) (AllReadyH.nil)
        refine step_cell (by rfl) 3 _ _ (by rfl) gb g (.int .i64 (m : Int)) (by rfl) (by rfl) 94 (W4 (nw A)) qbd sz info3one rfl ?_
        intro w12 h12
        clear hHeld
        refine hK.out _ _ ?_ (fun hHeld => ?_)
        · exact ((h12.blk qhd (by omega)).cell 1).trans H0.out.2.1
        clear hK K
        (try simp only [Act.put, List.setIfInBounds_toArray, List.set_cons_zero, List.set_cons_succ])
        refine wpAnyH_done (by kernel_rfl) ?_ _
        refine NoPanic.normal ?_
        clear hHeld
        go_wp2
        go_roundw
        case rel => exact ⟨k + 1, by omega, by go_num, A.set g m, true, rfl, by rw [← W4nw_set]; exact h12.row, HL2.out, fun k h1 h2 => (h12.oth k h2).trans (hoth10 k h1 h2), bel10.drew.trans (h12.below (Nat.le_refl _)), by rw [h12.size]; exact hsz10⟩
        case measure => simp [intOf] <;> omega
      · have HL2 := Lib.hid (HKp.out hmb)
        go_wp2
        go_roundw
        case rel => exact ⟨k + 1, by omega, by go_num, A, cc, rfl, qb10, HL2.out, hoth10, bel10, hsz10⟩
        case measure => simp [intOf] <;> omega
    · have dk : decide ((k : Int) < 504) = false := by simp <;> omega
      have HK : Hid (k = 504) := by unfold Hid; omega
      go_wp2
      go_ret
      exact ⟨A, cc, rfl, qb, by have := HP.out; rw [HK.out] at this; exact this, hoth, bel⟩
end Go.Proofs.YtibddlldgmidlabDoor

namespace Go.Proofs.YtibddlldgmidlabDoor
open Go.RowKit
set_option linter.unusedVariables false
set_option linter.unusedSimpArgs false

/-- The weights of four numbers. -/
def wof (ws : List Nat) : Nat → Nat := fun v => ws.getD v 0
/-- What distance.Least gives. -/
def LeastOk (ws : List Nat) (w : World) (e : Ending) (w' : World) : Prop := ∃ n : Nat, e = .returned (.tuple #[.int .i64 (n : Int), .int .i64 0]) ∧ Cv.Lst (wof ws) n ∧ Below w.heap.size w w'
/-- What distance.Mends gives. -/
def MendsOk (ws : List Nat) (w : World) (e : Ending) (w' : World) : Prop := ∃ n q : Nat, e = .returned (.tuple #[.int .i64 (q : Int), .int .i64 0]) ∧ q = (n - 1) / 2 ∧ Cv.Lst (wof ws) n ∧ Below w.heap.size w w'
theorem inW_nw (ws : List Nat) (h : ∀ y ∈ ws, y ≤ 7) : inW (nw ws) = true := by
  refine List.all_eq_true.2 fun z hz => ?_
  obtain ⟨x, hx, rfl⟩ := List.mem_map.1 hz
  have := h x hx
  simp
  omega
theorem Lst_bound7 {ws : List Nat} (h : ∀ y ∈ ws, y ≤ 7) {n : Nat} (hn : Cv.Lst (wof ws) n) : n ≤ 196 := hn.bound fun v _ => getD_seven ws h v
theorem hopsCells {w : World} {base : Nat} {A : Option Addr} {c : Nat} {u : Nat → Nat} (h : OwnR w base 129 3 A 504 c (hops u 504)) : ∃ gh, A = some ⟨gh, 0, none⟩ ∧ base ≤ gh ∧ gh < w.heap.size ∧ ∀ i v, (hops u 504)[i]? = some v → w.cell? ⟨gh, i, none⟩ = some v := h.cells (by omega)
set_option maxHeartbeats 2000000 in
set_option maxRecDepth 100000 in
/-- distance.Least. -/
theorem leastYes (ws : List Nat) (w : World) (hl : ws.length = 4) (hb : ∀ y ∈ ws, y ≤ 7) (hT : Taps w) : Calls Tryd.prog 36 #[.agg (W4 (nw ws))] w (LeastOk ws w) := by
  have CS := Lib.hid (fun W (hT : Taps W) => dstarts ws W hl hb hT)
  have CI := Lib.hid (fun W (hT : Taps W) => dinside ws W hl hb hT)
  have iZ : Hid ((Tryd.prog.info? 33).map (·.size) = some (W4 (nw ws)).size) := by unfold Hid; rw [W4_size, nw_length, hl]; exact info4w
  have HB7 := Lib.hid (getD_seven ws hb)
  have HIX := Lib.hid (fun (k : Nat) (hk : k < 4) W => run_index1 (P := Tryd.prog) Tryd.underlying33 Tryd.underlying3 rfl info3one (W4 (nw ws)) k hk .i64 _ (W4nw_get ws k (by rw [hl]; exact hk)) W)
  have HU : Hid (∀ v, v < 4 → wof ws v ≤ 7) := fun v _ => getD_seven ws hb v
  clear hb hl
  go_enter Tryd.func36, Tryd.ntmps36
  generalize hZ : W4 (nw ws) = Z at *
  clear hZ
  go_upto_region 2 with (first | (refine at_box rfl 33 _ rfl Z rfl ?_; intro w1 h1) | (refine at_load rfl 33 _ rfl w.heap.size rfl 33 Z _ h1.row Tryd.underlying33 rfl iZ.out ?_))
  have q1 := h1.row
  have b1 := h1.bel
  obtain ⟨g1, hg1⟩ : ∃ g, g = w.heap.size := ⟨_, rfl⟩
  rw [← hg1] at q1
  rw [← hg1]
  clear h1 hg1
  go_loopw [11] (fun x wr => ∃ k : Nat, k ≤ 4 ∧ x = .int .i64 k ∧ wr = w1) (fun x _ => 4 - (intOf x).toNat)
  case atStart => exact ⟨0, by omega, rfl, rfl⟩
  case round =>
    obtain ⟨k, hk, rfl, rfl⟩ := hrel
    by_cases hlt : k < 4
    · have ix := HIX.out k hlt
      have hz := HB7.out k
      have dk : decide ((k : Int) < 4) = true := by simp <;> omega
      generalize ws.getD k 0 = z at *
      have d7 : decide ((7 : Int) < (z : Int)) = false := by simp <;> omega
      go_wp2
      go_roundw
      case rel => exact ⟨k + 1, by omega, by go_num, by simp⟩
      case measure => simp [intOf] <;> omega
    · have dk : decide ((k : Int) < 4) = false := by simp <;> omega
      have C1 := Lib.hid (CS.out wr (hT.after b1))
      obtain ⟨Y, hY⟩ : ∃ Y, Y = W4 (nw (List.replicate 256 0)) := ⟨_, rfl⟩
      have ZE : Hid ((Tryd.prog.info? 94).bind (fun i => i.zero.map (fun z => z.cells)) = some Y) := by rw [hY]; exact Z256_eq
      have HYS : Hid (Y.size = 256) := by rw [hY]; unfold Hid; rw [W4nw_size]; simp
      clear hY
      go_wp2_with (refine at_load rfl 33 _ rfl g1 rfl 33 Z _ q1 Tryd.underlying33 rfl iZ.out ?_)
      refine C1.out.mono ?_
      rintro e w2 ⟨A, rfl, hTA, hFA, b2⟩
      have HTA := Lib.hid hTA
      have HFA := Lib.hid hFA
      have iA : Hid ((Tryd.prog.info? 94).map (·.size) = some (W4 (nw A)).size) := by unfold Hid; rw [W4nw_size, hTA.len]; exact info256
      have HA1 := Lib.hid (W4_one (nw A))
      have HAS : Hid (Y.size = (W4 (nw A)).size) := by unfold Hid; rw [HYS.out, W4nw_size, hTA.len]
      obtain ⟨V, hV⟩ : ∃ V, V = W4 (nw A) := ⟨_, rfl⟩
      rw [← hV] at iA HA1 HAS
      rw [← hV]
      have q12 := q1.after b2
      have HV := Lib.hid hV
      clear hTA hFA C1 hV
      go_upto_region 8 with (first | (refine at_alloc rfl 94 rfl Y ZE.out ?_; intro w3 h3) | (refine at_store rfl 94 _ _ rfl w2.heap.size V rfl rfl 94 Y h3.row iA.out HAS.out HA1.out ?_; intro w4 h4))
      have qb := h4.row
      have b24 : Below w2.heap.size w2 w4 := h3.bel.trans (h4.below (Nat.le_refl _))
      have q14 := q12.after b24
      have bw4 := Below.then_ (Below.then_ b1 b2) b24
      have hgw : w.heap.size ≤ w2.heap.size := Nat.le_trans b1.size b2.size
      have hb4 := qb.lt
      obtain ⟨gb, hgb⟩ : ∃ g, g = w2.heap.size := ⟨_, rfl⟩
      rw [← hgb] at qb hb4 hgw
      rw [← hgb]
      have C2 := Lib.hid (CI.out w4 (hT.after bw4))
      clear h3 h4 hgb b24 q12
      go_wp2_with (refine at_load rfl 33 _ rfl g1 rfl 33 Z _ q14 Tryd.underlying33 rfl iZ.out ?_)
      refine C2.out.mono ?_
      rintro e w5 ⟨AH, cH, rfl, own5, b5⟩
      obtain ⟨gh, hAH, hgh, hgl, hcells⟩ := hopsCells own5
      subst hAH
      have qb5 := qb.after b5
      have bw5 := Below.then_ bw4 b5
      have hne : gh ≠ gb := by omega
      have hghw : w.heap.size ≤ gh := by omega
      rw [HV.out] at qb5
      clear own5 b5 C2 qb q14 bw4 CS CI hb4 hgh HA1 HAS iA ZE
      go_upto_region 9 with fail
      go_loopw [25] (fun _ wr => ∃ A, Blk wr gb 94 (W4 (nw A)) ∧ Hid (T2 (wof ws) A) ∧ Hid (F2 (wof ws) A 4) ∧ (∀ i v, (hops (wof ws) 504)[i]? = some v → wr.cell? ⟨gh, i, none⟩ = some v) ∧ gh < wr.heap.size ∧ Below w.heap.size w wr) (fun _ wr => bsum wr gb)
      case atStart => exact ⟨A, qb5, HTA.out, HFA.out, hcells, hgl, bw5⟩
      case round =>
        clear qb5 hcells hgl bw5 HTA HFA
        obtain ⟨A, qb, HTA, HFA, hcells, hgl, bel⟩ := hrel
        have CL := Lib.hid (dlower (wof ws) gb gh cH A wr HU.out qb HTA.out HFA.out hcells hgl hne)
        have HSUM := Lib.hid (bsum_blk qb)
        go_wp2_with fail
        refine CL.out.mono ?_
        rintro e w9 ⟨A9, cc, rfl, q9, hP, hoth, b9⟩
        have HP := Lib.hid hP
        have bel9 := bel.trans (b9.mono hgw)
        have hsz9 := b9.size
        have hc9 : ∀ i v, (hops (wof ws) 504)[i]? = some v → w9.cell? ⟨gh, i, none⟩ = some v := fun i v hv => by
          have := hoth gh hgl hne
          rw [← hcells i v hv]
          show World.cell? w9 _ = World.cell? _ _
          simp only [World.cell?, this]
        clear hP hoth b9 hcells CL
        cases cc
        · go_wp2
          go_loopw [8, 27] (fun r x wr => ∃ k b : Nat, k ≤ 4 ∧ x = .int .i64 k ∧ r = .int .i64 b ∧ Hid (Mn2 A9 b k) ∧ wr = w9) (fun _ x _ => 4 - (intOf x).toNat)
          case atStart => exact ⟨0, 7169, by omega, rfl, rfl, ⟨.inl rfl, Nat.le_refl _, fun t ht => by omega⟩, rfl⟩
          case round =>
            obtain ⟨k, b, hk, rfl, rfl, HM, rfl⟩ := hrel
            by_cases hlt : k < 4
            · have CP : Hid (∀ W, Calls Tryd.prog 60 #[.int .i64 (k : Int), .int .i64 0] W fun e w' => e = .returned (.int .i64 ((64 * k : Nat) : Int)) ∧ W = w') := fun W => by have := dplace k 0 W (by omega) (by omega); rw [Nat.mod_eq_of_lt hlt, Nat.add_zero] at this; exact this
              have hp : 64 * k < 256 := by omega
              have HN := Lib.hid HM.out.next
              have cl := (q9.cell (64 * k)).trans (W4nw_get A9 (64 * k) (by rw [HP.out.tab.len]; exact hp))
              have hle := HP.out.tab.le (64 * k)
              have hb := HM.out.2.1
              generalize 64 * k = p at *
              generalize A9.getD p 0 = v at *
              have ia := fun W => run_idx (P := Tryd.prog) (sz := 1) Tryd.underlying94 (by kernel_rfl) gb 0 p hp .i64 W
              simp only [Nat.zero_add, Nat.one_mul] at ia
              obtain ⟨m, hm⟩ : ∃ m, m = min b v := ⟨_, rfl⟩
              rw [← hm] at HN
              have m1 : (if (v : Int) < (b : Int) then (v : Int) else (b : Int)) = (m : Int) := by split <;> omega
              have m2 : min (b : Int) (v : Int) = (m : Int) := by omega
              have m3 : (if v < b then (v : Int) else (b : Int)) = (m : Int) := by split <;> omega
              have dk : decide ((k : Int) < 4) = true := by simp <;> omega
              clear hm
              go_wp2_with (go_at_call 60; refine (CP.out _).mono ?_; rintro e w' ⟨rfl, rfl⟩)
              go_roundw
              case rel => exact ⟨k + 1, m, by omega, by go_num, by first | rfl | (rw [m3]) | (rw [m1]) | (rw [m2]), HN.out, by simp⟩
              case measure => simp [intOf] <;> omega
            · have dk : decide ((k : Int) < 4) = false := by simp <;> omega
              have HK : Hid (k = 4) := by unfold Hid; omega
              have HL := Lib.hid (HP.out.lst (b := b) (by have := HM.out; rw [HK.out] at this; exact this) HU.out)
              go_wp2
              go_ret2
              exact ⟨b, rfl, HL.out, bel9⟩
        · have hlt : A9.sum < A.sum := by
            rcases HP.out.or_ with ⟨h, _⟩ | ⟨_, h⟩
            · cases h
            · exact h
          have HS9 := Lib.hid (bsum_blk q9)
          go_wp2
          go_roundw
          case rel => exact ⟨A9, q9, HP.out.tab, HP.out.fst, hc9, by omega, bel9⟩
          case measure => rw [HS9.out, HSUM.out]; exact hlt
set_option maxHeartbeats 400000 in
theorem leastNo (zs : List Int) (w : World) (hl : zs.length = 4) (hb : inW zs = false) : Calls Tryd.prog 36 #[.agg (W4 zs)] w fun e w' => e = .returned (.tuple #[.int .i64 0, .int .i64 1]) ∧ Below w.heap.size w w' := by
  have iZ : Hid ((Tryd.prog.info? 33).map (·.size) = some (W4 zs).size) := by unfold Hid; rw [W4_size, hl]; exact info4w
  have HIX := Lib.hid (fun (k : Nat) (hk : k < 4) W => run_index1 (P := Tryd.prog) Tryd.underlying33 Tryd.underlying3 rfl info3one (W4 zs) k hk .i64 _ (W4_get zs k (by rw [hl]; exact hk)) W)
  have HNO : Hid (¬ ∀ i, i < 4 → 0 ≤ zs.getD i 0 ∧ zs.getD i 0 ≤ 7) := fun h => by rw [inW_of_getD (fun i hi => h i (by rw [hl] at hi; exact hi))] at hb; cases hb
  clear hb hl
  go_enter Tryd.func36, Tryd.ntmps36
  generalize hZ : W4 zs = Z at *
  clear hZ
  go_upto_region 2 with (first | (refine at_box rfl 33 _ rfl Z rfl ?_; intro w1 h1) | (refine at_load rfl 33 _ rfl w.heap.size rfl 33 Z _ h1.row Tryd.underlying33 rfl iZ.out ?_))
  have b1 := h1.bel
  clear h1
  go_loopw [11] (fun x wr => ∃ k : Nat, k ≤ 4 ∧ x = .int .i64 k ∧ wr = w1 ∧ Hid (∀ i, i < k → 0 ≤ zs.getD i 0 ∧ zs.getD i 0 ≤ 7)) (fun x _ => 4 - (intOf x).toNat)
  case atStart => exact ⟨0, by omega, rfl, rfl, fun i hi => by omega⟩
  case round =>
    obtain ⟨k, hk, rfl, rfl, HA⟩ := hrel
    by_cases hlt : k < 4
    · have ix := HIX.out k hlt
      have dk : decide ((k : Int) < 4) = true := by simp <;> omega
      obtain ⟨z, hz⟩ : ∃ z, z = zs.getD k 0 := ⟨_, rfl⟩
      rw [← hz] at ix
      have HZ := Lib.hid hz
      clear hz
      by_cases h0 : z < 0
      · go_wp2
        go_ret2
        exact ⟨rfl, b1⟩
      · by_cases h7 : 7 < z
        · go_wp2
          go_ret2
          exact ⟨rfl, b1⟩
        · go_wp2
          go_roundw
          case rel => exact ⟨k + 1, by omega, by go_num, by simp, fun i hi => by
            by_cases e : i = k
            · rw [e, ← HZ.out]; omega
            · exact HA.out i (by omega)⟩
          case measure => simp [intOf] <;> omega
    · exact absurd (fun i hi => HA.out i (by omega)) HNO.out
set_option maxHeartbeats 400000 in
theorem mendsYes (ws : List Nat) (w : World) (hl : ws.length = 4) (hb : ∀ y ∈ ws, y ≤ 7) (hT : Taps w) : Calls Tryd.prog 33 #[.agg (W4 (nw ws))] w (MendsOk ws w) := by
  have C2 := Lib.hid (fun W (hT : Taps W) => leastYes ws W hl hb hT)
  have HB := Lib.hid (fun n hn => @Lst_bound7 ws hb n hn)
  have iZ : Hid ((Tryd.prog.info? 33).map (·.size) = some (W4 (nw ws)).size) := by unfold Hid; rw [W4_size, nw_length, hl]; exact info4w
  clear hb hl
  go_enter Tryd.func33, Tryd.ntmps33
  generalize W4 (nw ws) = Z at *
  go_upto_region 2 with (first | (refine at_box rfl 33 _ rfl Z rfl ?_; intro w1 h1; have q1 := h1.row) | (refine at_load rfl 33 _ rfl w.heap.size rfl 33 Z _ q1 Tryd.underlying33 rfl iZ.out ?_) | (go_at_call 36; refine (C2.out w1 (hT.after h1.bel)).mono ?_; rintro e w3 ⟨n, rfl, hn, hb3⟩))
  have hnb := HB.out n hn
  have HN := Lib.hid hn
  clear hn
  by_cases h0 : n = 0
  · have t0 : ((n : Int) == 0) = true := by rw [h0]; rfl
    have H0 := Lib.hid h0
    clear h0
    go_wp2
    go_ret2
    exact ⟨n, 0, rfl, by rw [H0.out], HN.out, Below.then_ h1.bel hb3⟩
  · have t0 : ((n : Int) == 0) = false := by simp; omega
    obtain ⟨m, hm⟩ : ∃ m, n - 1 = m := ⟨_, rfl⟩
    have e1 : (n : Int) - 1 = (m : Int) := by omega
    obtain ⟨q, hq⟩ : ∃ q, m / 2 = q := ⟨_, rfl⟩
    have e2 : (m : Int) / 2 = (q : Int) := by omega
    have HM := Lib.hid hm
    have HQ := Lib.hid hq
    clear hm h0 hq
    go_wp2
    go_ret2
    exact ⟨n, q, rfl, by rw [HM.out, HQ.out], HN.out, Below.then_ h1.bel hb3⟩
set_option maxHeartbeats 400000 in
theorem mendsNo (zs : List Int) (w : World) (hl : zs.length = 4) (hb : inW zs = false) : Calls Tryd.prog 33 #[.agg (W4 zs)] w fun e w' => e = .returned (.tuple #[.int .i64 0, .int .i64 1]) ∧ Below w.heap.size w w' := by
  have C1 := Lib.hid (fun W => leastNo zs W hl hb)
  have iZ : Hid ((Tryd.prog.info? 33).map (·.size) = some (W4 zs).size) := by unfold Hid; rw [W4_size, hl]; exact info4w
  clear hb hl
  go_enter Tryd.func33, Tryd.ntmps33
  generalize W4 zs = Z at *
  go_wp2_with (first | (refine at_box rfl 33 _ rfl Z rfl ?_; intro w1 h1; have q1 := h1.row) | (refine at_load rfl 33 _ rfl w.heap.size rfl 33 Z _ q1 Tryd.underlying33 rfl iZ.out ?_) | (go_at_call 36; refine (C1.out w1).mono ?_; rintro e w2 ⟨rfl, hb2⟩))
  go_ret2
  exact ⟨rfl, Below.then_ h1.bel hb2⟩
end Go.Proofs.YtibddlldgmidlabDoor
