/-
  Arrays as values in a region that draws its order.
-/
import Derived.Test.YtlnjealhiikmeabDoorVb
namespace Go.Proofs.YtlnjealhiikmeabDoor
open Go.RowKit
set_option linter.unusedVariables false

section
variable {P : Program} {ops : Array Oper} {o : Oper} {a : Act} {w : World} {K : Act → World → Prop} {Q : Exit → Act → World → Prop} {E : Prop}
theorem yields_row {S : World → Prop} (hw : Region.wanted o (yielded ops a.tmps) = true) (ty : TypeId) (x : Operand) (ho : o.op = .load ty x) (g : Nat) (hx : a.eval x = .pointer (some ⟨g, 0, none⟩)) (t : TypeId) (cs : Array Value) (d : TypeDesc) (hS : ∀ w, S w → Blk w g t cs)
    (hu : P.underlying ty = some d) (hd : d.isRow = true) (hi : (P.info? ty).map (·.size) = some cs.size) : YieldsIf P ops S o (.agg cs) a := by
  have := yieldsIf_load_mid (P := P) (ops := ops) (S := S) hw ty x ho g 0 hx cs.toList d (fun w h => (hS w h).range 0 cs.toList (fun i u hu => by rw [Nat.zero_add, ← Array.getElem?_toList]; exact hu)) hu hd (by rw [Array.length_toList]; exact hi)
  rwa [Array.toArray_toList] at this
theorem step_alloc (hgd : o.guard = none) (t : TypeId) (ho : o.op = .alloc t) (Z : Array Value) (hz : (P.info? t).bind (fun i => i.zero.map (fun z => z.cells)) = some Z)
    (h : ∀ w', Laid w w' t Z → K (a.put o.dst (.pointer (some ⟨w.heap.size, 0, none⟩))) w') : if Region.wanted o (yielded ops a.tmps) = true then Oper.wp P o a w K Q else E := by
  have hw : Region.wanted o (yielded ops a.tmps) = true := by simp [Region.wanted, hgd]
  rw [if_pos hw]
  cases hi : P.info? t with
  | none => rw [hi] at hz; cases hz
  | some i =>
    rw [hi] at hz
    cases hzz : i.zero with
    | none => simp [hzz] at hz
    | some z =>
      simp [hzz] at hz
      subst hz
      have hrun : (Instr.alloc t true (.tuple #[])).run P w = .ok (.pointer (some ⟨w.heap.size, 0, none⟩)) (w.alloc (.cells z.cells t)) := by
        simp [Instr.alloc, zeroValue, typeInfo, hi, hzz, newVar, newRow]
      unfold Oper.wp execOp
      simp only [ho, Sem.run_bind, hrun, Result.andThen_ok, Sem.run_pure]
      exact h _ (laid_alloc w t z.cells)
theorem step_store (hgd : o.guard = none) (ty : TypeId) (x y : Operand) (ho : o.op = .store ty x y) (g : Nat) (cells : Array Value) (hx : a.eval x = .pointer (some ⟨g, 0, none⟩)) (hy : a.eval y = .agg cells)
    (t : TypeId) (old : Array Value) (hg : Blk w g t old) (hi : (P.info? ty).map (·.size) = some cells.size) (hold : old.size = cells.size) (h1 : cells.all (·.oneCell') = true)
    (h : ∀ w', Upd w w' g t cells → K (a.put o.dst undef) w') : if Region.wanted o (yielded ops a.tmps) = true then Oper.wp P o a w K Q else E := by
  have hw : Region.wanted o (yielded ops a.tmps) = true := by simp [Region.wanted, hgd]
  rw [if_pos hw]
  exact wp_store_row ty x y ho g cells hx hy t old hg hi hold h1 (h _ (upd_setRow hg cells))
theorem step_load (hgd : o.guard = none) (ty : TypeId) (x : Operand) (ho : o.op = .load ty x) (g : Nat) (hx : a.eval x = .pointer (some ⟨g, 0, none⟩)) (t : TypeId) (cs : Array Value) (d : TypeDesc) (hg : Blk w g t cs)
    (hu : P.underlying ty = some d) (hd : d.isRow = true) (hi : (P.info? ty).map (·.size) = some cs.size)
    (h : K (a.put o.dst (.agg cs)) w) : if Region.wanted o (yielded ops a.tmps) = true then Oper.wp P o a w K Q else E := by
  have hw : Region.wanted o (yielded ops a.tmps) = true := by simp [Region.wanted, hgd]
  rw [if_pos hw]
  exact wp_load_row ty x ho g hx t cs (0, 0) d hg hu (by cases d <;> simp_all [TypeDesc.isRow]) hi h
theorem step_store_mid (hgd : o.guard = none) (ty : TypeId) (x y : Operand) (ho : o.op = .store ty x y) (g off : Nat) (cells : Array Value) (hx : a.eval x = .pointer (some ⟨g, off, none⟩)) (hy : a.eval y = .agg cells)
    (t : TypeId) (old : Array Value) (hg : Blk w g t old) (hi : (P.info? ty).map (·.size) = some cells.size) (hfit : off + cells.size ≤ old.size) (h1 : cells.all (·.oneCell') = true)
    (h : ∀ w' cs', Upd w w' g t cs' → cs'.size = old.size → (∀ i, cs'[i]? = if off ≤ i ∧ i < off + cells.size then cells[i - off]? else old[i]?) → K (a.put o.dst undef) w') : if Region.wanted o (yielded ops a.tmps) = true then Oper.wp P o a w K Q else E := by
  have hw : Region.wanted o (yielded ops a.tmps) = true := by simp [Region.wanted, hgd]
  rw [if_pos hw]
  refine wp_store_mid ty x y ho g off cells hx hy (hg.there off cells.size hfit) hi h1 ?_
  obtain ⟨cs', hu, hs, hi2⟩ := setCells_row g t cells.toList off w old hg
  refine h _ cs' hu hs fun i => ?_
  rw [hi2 i, Array.length_toList]
  by_cases h2 : off ≤ i ∧ i < off + cells.size
  · rw [if_pos (by omega), if_pos h2, Array.getElem?_toList]
  · rw [if_neg (by omega), if_neg h2]
end

/-- The numbers of a step. -/
def nums (l : List Int) (t : Nat) : List Int := (l.drop (4 * t)).take 4
theorem nums_length (l : List Int) (t : Nat) (h : 4 * t + 4 ≤ l.length) : (nums l t).length = 4 := by unfold nums; rw [List.length_take, List.length_drop]; omega
theorem nums_in {l : List Int} (h : ∀ z ∈ l, -31 ≤ z ∧ z ≤ 31) (t : Nat) : ∀ z ∈ nums l t, -31 ≤ z ∧ z ≤ 31 := fun z hz => h z (List.mem_of_mem_drop (List.mem_of_mem_take hz))
theorem rd_nums {w : World} {B b off n : Nat} {l : List Int} (h : Rd w B (some ⟨b, off, none⟩) n (I64 l)) (t : Nat) (ht : 4 * t + 4 ≤ n) : Rd w B (some ⟨b, off + 4 * t, none⟩) 4 (I64 (nums l t)) := by
  have hl := h.len64
  refine ⟨by rw [I64_length, nums_length l t (by omega)], fun _ => ?_⟩
  obtain ⟨b', off', e, hlt, hc⟩ := h.at_ (by omega)
  injection e with e
  injection e with e1 e2
  subst e1 e2
  refine ⟨b, off + 4 * t, rfl, hlt, fun i u hu => ?_⟩
  rw [Nat.add_assoc]
  refine hc (4 * t + i) u ?_
  unfold I64 nums at *
  rw [List.map_take, List.getElem?_take, List.map_drop] at hu
  split at hu
  · rw [List.getElem?_drop] at hu; exact hu
  · cases hu
/-- The scores of the noughts behind a list. -/
def en (l : List Int) : Nat → List Int
  | 0 => List.replicate 64 0
  | m + 1 => byL (nums l (5 - m)) 0 (en l m)
theorem en_length (l : List Int) : ∀ m, (en l m).length = 64
  | 0 => by simp [en]
  | m + 1 => byL_length _ _ _
theorem byL_bounds {ns : List Int} (h : ∀ z ∈ ns, -31 ≤ z ∧ z ≤ 31) (hl : ns.length = 4) (x : Nat) (B : List Int) (K : Int) (hK : 0 ≤ K) (hB : ∀ i, -K ≤ B.getD i 0 ∧ B.getD i 0 ≤ K) : ∀ i, -(K + 124) ≤ (byL ns x B).getD i 0 ∧ (byL ns x B).getD i 0 ≤ K + 124 := by
  intro i
  by_cases hi : i < 64
  · rw [byL_get _ _ _ _ hi]
    have h1 := g4_bounds h hl i x
    have h2 := hB (Cv.nx i x)
    omega
  · rw [Bm.getD_ge _ _ _ (by rw [byL_length]; omega)]; omega
theorem en_bounds {l : List Int} (h : ∀ z ∈ l, -31 ≤ z ∧ z ≤ 31) (hl : l.length = 24) : ∀ m : Nat, m ≤ 6 → ∀ i : Nat, -(124 * (m : Int)) ≤ (en l m).getD i 0 ∧ (en l m).getD i 0 ≤ 124 * (m : Int)
  | 0, _, i => by
    have : (en l 0).getD i 0 = 0 := Cv.getD_noughts 64 i
    rw [this]; omega
  | m + 1, hm, i => by
    have := byL_bounds (nums_in h (5 - m)) (nums_length l (5 - m) (by omega)) 0 (en l m) (124 * (m : Int)) (by omega) (en_bounds h hl m (by omega)) i
    have e : en l (m + 1) = byL (nums l (5 - m)) 0 (en l m) := rfl
    rw [e]
    constructor <;> omega
end Go.Proofs.YtlnjealhiikmeabDoor
