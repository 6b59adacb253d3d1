/-
  'append(x, make([]byte, k)...)' onto a row of the call's own; Counts of no Buffer; the arrays of counts held against each other.
-/
import Derived.Test.YtknfpdlomgllhaaDoorHp
import Derived.Test.YtknfpdlomgllhaaDoorHk
import Derived.Lib.AppendZerosOnto
namespace Go.Proofs.YtknfpdlomgllhaaDoor
open Go.RowKit
set_option maxRecDepth 100000
set_option linter.unusedVariables false
set_option linter.unusedSimpArgs false

section
variable {P : Program} (w : World)
theorem run_append_room_zeros (t tn ty e : TypeId) (i : TypeInfo) (z : Value) (kq kn : IntKind) (ht : P.underlying t = some (.slice e)) (htn : P.underlying tn = some (.int kn)) (hi : P.info? e = some i) (hz : i.zero = some z) (hz1 : z.oneCell' = true) (hzc : z.cells = #[z]) (hs : i.size = 1)
    (g sLen sCap : Nat) (cur : Array Value) (hg : w.heap[g]? = some (.cells cur e (0, 0))) (k : Nat) (hk2 : k ≤ 1000000) (hb : i.bytes ≤ 8) (hroom : sLen + k ≤ sCap) (hfit : sLen + k ≤ cur.size) :
    (Builtin.append_ #[t, tn] ty #[.slice (some ⟨g, 0, none⟩) sLen sCap, .int kq k]).run P w =
      .ok (.slice (some ⟨g, 0, none⟩) (sLen + k) sCap) (w.setRow g (cur.toList.take sLen ++ List.replicate k z ++ cur.toList.drop (sLen + k)).toArray) := by
  have hw : IntKind.i64.wrap (k : Int) = k := by rw [IntKind.wrap_i64]; omega
  have hneg : ¬ ((k : Int) < 0) := by omega
  have h48i : ¬ (281474976710656 < (k : Int) * (i.bytes : Int)) := by
    rw [← Int.natCast_mul]
    have : k * i.bytes ≤ 1000000 * 8 := Nat.mul_le_mul hk2 hb
    omega
  have hst := run_storeCells_at P g sLen e (List.replicate k z) 0 cur w hg (by simpa using hfit) (fun u hu => by rw [(List.mem_replicate.1 hu).2]; exact hz1)
  simp only [Nat.add_zero, List.length_replicate] at hst
  have hzz : (Builtin.zeroCells z.cells k).toList = List.replicate k z := by
    rw [hzc]
    refine List.ext_getElem (by simp [Builtin.zeroCells]) fun j h1 h2 => ?_
    simp [Builtin.zeroCells, Nat.mod_one]
  by_cases hk : k = 0
  · subst hk
    have hw0 : IntKind.i64.wrap 0 = 0 := by decide
    simp only [List.replicate_zero] at hst ⊢
    simp only [Nat.add_zero] at hroom
    simp [Builtin.append_, run_underlying ht, run_underlying htn, sizeOf, typeInfo, zeroValue, hi, hz, hs, asInt, asIntOf, hw0, hroom, Addr.add_lit]
    simp at hst
    simp [hst]
  · have hns : ¬ (k * i.size = 0) := by rw [hs]; omega
    simp [Builtin.append_, run_underlying ht, run_underlying htn, sizeOf, typeInfo, zeroValue, hi, hz, hs, hk, asInt, asIntOf, hw, hneg, hns, hroom, Addr.add_lit, hst, h48i, hzz]
theorem zeroCells_one (z : Value) (hzc : z.cells = #[z]) (k : Nat) : Builtin.zeroCells z.cells k = (List.replicate k z).toArray := by
  apply Array.ext'
  rw [hzc]
  refine List.ext_getElem (by simp [Builtin.zeroCells]) fun j h1 h2 => ?_
  simp [Builtin.zeroCells, Nat.mod_one]
/-- 'append(x, make(..)...)' onto a row of the call's own. -/
theorem run_appZ (base : Nat) (t tn ty e : TypeId) (i : TypeInfo) (z : Value) (kq kn : IntKind) (ht : P.underlying t = some (.slice e)) (htn : P.underlying tn = some (.int kn)) (hi : P.info? e = some i) (hz : i.zero = some z) (hz1 : z.oneCell' = true) (hzc : z.cells = #[z]) (hs : i.size = 1) (hb : i.bytes = 1)
    (A : Option Addr) (n c : Nat) (xs : List Value) (hown : Own w base e A n c xs) (k : Nat) (hn : n ≤ 10000) (hk : k ≤ 10000) (hbase : base ≤ w.heap.size) :
    ∃ A' c' w', (Builtin.append_ #[t, tn] ty #[.slice A n c, .int kq k]).run P w = .ok (.slice A' (n + k) c') w' ∧ Own w' base e A' (n + k) c' (xs ++ List.replicate k z) ∧ w.grownBy w' (Value.slice A n c).ownBlock := by
  have hlen : (xs ++ List.replicate k z).length = (n + k) * 1 := by rw [List.length_append, hown.len, List.length_replicate, Nat.mul_one]
  have grown : ∀ (old : Nat), old < n + k → ∀ (row : Option Nat),
      (w.drew.alloc (.cells (xs.toArray ++ Builtin.zeroCells z.cells k ++ Builtin.zeroCells z.cells (grownCap w (n + k) old e - (n + k))) e)).ownsRow base e 1
        (.slice (some ⟨w.heap.size, 0, none⟩) (n + k) (grownCap w (n + k) old e)) (n + k) (xs ++ List.replicate k z) ∧
      w.grownBy (w.drew.alloc (.cells (xs.toArray ++ Builtin.zeroCells z.cells k ++ Builtin.zeroCells z.cells (grownCap w (n + k) old e - (n + k))) e)) row := by
    intro old ho row
    have hge := grownCap_ge w (n + k) old e
    have hcm : grownCap w (n + k) old e ≤ maxLen := grownCap_le_maxLen w (n + k) old e (by unfold maxLen; omega)
    refine ⟨⟨hlen, .inr ⟨w.heap.size, _, _, rfl, hbase, heap_alloc_new w.drew _, hge, hcm, ?_, ?_⟩⟩, ⟨rfl, rfl, rfl, by simp, fun j hj _ => heap_alloc_old w.drew _ hj⟩⟩
    · rw [zeroCells_one z hzc, zeroCells_one z hzc]
      simp only [Array.size_append, List.size_toArray, List.length_replicate, hown.len]
      omega
    · rw [zeroCells_one z hzc, zeroCells_one z hzc]
      simp only [Array.toList_append]
      rw [show (xs.toArray.toList ++ (List.replicate k z).toArray.toList) = xs ++ List.replicate k z from rfl, ← hlen]
      exact List.take_left
  rcases hown.row.2 with ⟨hv, hn0⟩ | ⟨g, cap, cur, hv, hbg, hg, hnc, hcm, hcs, htake⟩
  · injection hv with e1 e2 e3
    subst e1 e2 e3
    have hx : xs = [] := List.eq_nil_of_length_eq_zero hown.len
    subst hx
    by_cases hk0 : k = 0
    · subst hk0
      have hw0 : IntKind.i64.wrap 0 = 0 := by decide
      refine ⟨none, 0, w, ?_, Own.nil _ _ _, World.grownBy.refl w _⟩
      simp [Builtin.append_, run_underlying ht, run_underlying htn, sizeOf, typeInfo, zeroValue, hi, hz, hs, asInt, asIntOf, hw0]
    · have hr := Lib.run_append_grow_zeros (P := P) w t tn ty e i z kq kn ht htn hi hz none 0 0 [] (by simp [Builtin.firstCells, loadCells, loadCellsFrom]) k (by omega) (by omega) (by omega) (by omega) (by rw [hb]; omega) (growslice_fits (by omega) (by rw [hb]; omega))
      have hgr := grown 0 (by omega) (Value.ownBlock (.slice none 0 0))
      exact ⟨_, _, _, hr, ⟨hgr.1⟩, hgr.2⟩
  · injection hv with e1 e2 e3
    subst e1 e3
    have hcs1 : cur.size = c := by rw [hcs, Nat.mul_one]
    by_cases hroom : n + k ≤ c
    · have hr := run_append_room_zeros (P := P) w t tn ty e i z kq kn ht htn hi hz hz1 hzc hs g n c cur hg k (by omega) (by omega) hroom (by omega)
      refine ⟨_, _, _, hr, ⟨⟨hlen, .inr ⟨g, c, _, rfl, hbg, setRow_heap w g cur _ e _ hg, hroom, hcm, ?_, ?_⟩⟩⟩, ⟨rfl, rfl, rfl, by simp, fun j _ hj => setRow_other w g j _ (fun e => hj (by simp [Value.ownBlock, e]))⟩⟩
      · simp only [List.size_toArray, List.length_append, List.length_take, List.length_drop, Array.length_toList, List.length_replicate]
        omega
      · rw [Nat.mul_one] at htake
        rw [htake, ← hlen]
        exact List.take_left
    · have holds : ∀ j u, xs[j]? = some u → w.cell? ((⟨g, 0, none⟩ : Addr).add j) = some u := hown.row.cells (g := g) rfl
      have hf := run_firstCells_some (P := P) w.drew i.size n ⟨g, 0, none⟩ n c xs (by rw [hs, hown.len, Nat.mul_one]) (by simpa using holds)
      by_cases hk0 : k = 0
      · exact absurd hnc (by omega)
      · have hr := Lib.run_append_grow_zeros (P := P) w t tn ty e i z kq kn ht htn hi hz (some ⟨g, 0, none⟩) n c xs hf k (by omega) (by omega) (by omega) (by omega) (by rw [hb]; omega) (growslice_fits (by omega) (by rw [hb]; omega))
        have hgr := grown c (by omega) (Value.ownBlock (.slice (some ⟨g, 0, none⟩) n c))
        exact ⟨_, _, _, hr, ⟨hgr.1⟩, hgr.2⟩
end
section
variable {ops : Array Oper} {rest : List Oper} {o : Oper} {a : Act} {Q : Exit → Act → World → Prop}
theorem appZ (w : World) (hgd : o.guard = none) (s x : Operand) (ho : o.op = .call { callee := .builtin .append, args := #[s, x], argTypes := #[23, 3] })
    (base : Nat) (A : Option Addr) (n c k : Nat) (bs : List Nat) (hs : a.eval s = .slice A n c) (hown : Own w base 5 A n c (U8 bs)) (hx : a.eval x = .int .i64 (k : Int)) (hn : n ≤ 10000) (hk : k ≤ 10000) (hbase : base ≤ w.heap.size)
    (h : ∀ A' c' w', Own w' base 5 A' (n + k) c' (U8 (bs ++ List.replicate k 0)) → w.grownBy w' (Value.slice A n c).ownBlock → wpList Tryd.prog ops Q rest (a.put o.dst (.slice A' (n + k) c')) w') :
    wpList Tryd.prog ops Q (o :: rest) a w := by
  obtain ⟨i0, hi0, hz0, hz1, hz2⟩ := info_parts info5
  refine wpList_plain hgd fun K hK => ?_
  obtain ⟨A', c', w', hrun, h1, h2⟩ := run_appZ (P := Tryd.prog) w base 23 3 o.type 5 i0 (.int .u8 0) .i64 .i64 Tryd.underlying23 Tryd.underlying3 hi0 hz0 rfl rfl hz1 hz2 A n c (U8 bs) hown k hn hk hbase
  unfold Oper.wp execOp
  simp only [ho, resolve, invoke, builtin, Sem.run_bind, Sem.run_pure, Result.andThen_ok, List.map_toArray, List.map_cons, List.map_nil, hs, hx, hrun]
  have e : U8 bs ++ List.replicate k (Value.int .u8 0) = U8 (bs ++ List.replicate k 0) := by rw [U8_append]; simp [U8]
  rw [e] at h1
  exact hK _ _ (h A' c' w' h1 h2)
end
end Go.Proofs.YtknfpdlomgllhaaDoor
