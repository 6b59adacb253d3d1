/-
  Rows of numbers of 16 bits.
-/
import Derived.Test.YtkmacepodomdmaaDoorMem
namespace Go.Proofs.YtkmacepodomdmaaDoor
open Go.RowKit
set_option maxRecDepth 100000
set_option linter.unusedVariables false
set_option linter.unusedSimpArgs false

/-- Numbers as cells. -/
def N16 (l : List Nat) : List Value := l.map fun (b : Nat) => Value.int .u16 (b : Int)
theorem N16_length (l : List Nat) : (N16 l).length = l.length := by simp [N16]
theorem N16_append (a b : List Nat) : N16 (a ++ b) = N16 a ++ N16 b := by simp [N16]
theorem N16_one (l : List Nat) : ∀ u ∈ N16 l, u.oneCell' = true := by
  intro u hu
  obtain ⟨_, _, rfl⟩ := List.mem_map.1 hu
  rfl
theorem N16_get (l : List Nat) (i : Nat) (h : i < l.length) : (N16 l)[i]? = some (.int .u16 ((l.getD i 0 : Nat) : Int)) := by
  simp [N16, h]
theorem Rd.len16 {w : World} {B : Nat} {A : Option Addr} {n : Nat} {l : List Nat} (h : Rd w B A n (N16 l)) : n = l.length := by
  have := h.len; rw [N16_length] at this; exact this.symm
theorem Rd.cell16 {w : World} {B : Nat} {A : Option Addr} {n : Nat} {l : List Nat} (h : Rd w B A n (N16 l)) (k : Nat) (hk : k < n) :
    ∃ b off, A = some ⟨b, off, none⟩ ∧ b < B ∧ w.cell? ⟨b, off + k, none⟩ = some (.int .u16 ((l.getD k 0 : Nat) : Int)) := by
  obtain ⟨b, off, e, hlt, hc⟩ := h.at_ (by omega)
  exact ⟨b, off, e, hlt, hc k _ (N16_get l k (by have := h.len16; omega))⟩
theorem infoNum : (Tryd.prog.info? 28).map (fun i => (i.zero, i.size, i.bytes)) = some (some (.int .u16 0), 1, 2) := by kernel_rfl
section
variable {ops : Array Oper} {rest : List Oper} {o : Oper} {a : Act} {Q : Exit → Act → World → Prop}
/-- 'l = append(l, x)', l a []Num of the call's own. -/
theorem app16 (w : World) (hgd : o.guard = none) (s x : Operand) (ho : o.op = .call { callee := .builtin .append, args := #[s, x], argTypes := #[91, 91] })
    (base : Nat) (A : Option Addr) (n c : Nat) (bs : List Nat) (b : Nat) (z : Int) (hz : z = (b : Int)) (hs : a.eval s = .slice A n c) (hown : Own w base 28 A n c (N16 bs))
    (hx : a.eval x = .slice (some ⟨w.heap.size, 0, none⟩) 1 1) (hn : n ≤ 1000000) (hbase : base ≤ w.heap.size)
    (h : ∀ A' c' w', Own w' base 28 A' (n + 1) c' (N16 (bs ++ [b])) → w.grownBy w' (Value.slice A n c).ownBlock → wpList Tryd.prog ops Q rest (a.put o.dst (.slice A' (n + 1) c')) w') :
    wpList Tryd.prog ops Q (o :: rest) a (w.alloc (.cells #[.int .u16 z] 28)) := by
  subst hz
  obtain ⟨i0, hi0, hz0, hz1, hz2⟩ := info_parts infoNum
  refine wpList_app _ hgd s x 91 ho base 28 i0 _ 2 Tryd.underlying91 hi0 hz0 hz1 hz2 rfl A n c (N16 bs) hs (hown.below (B := w.heap.size) ((Below.refl _ _).alloc (Nat.le_refl _) _) (Nat.le_refl _)) _ _ 1 1 [.int .u16 (b : Int)] hx (rd_new w 28 _) (by simp) (by simp [Value.oneCell']) (by omega) (by unfold maxLen; omega) (by simp; omega) ?_
  intro A' c' w' h1 h2
  rw [show [Value.int .u16 (b : Int)] = N16 [b] from rfl, ← N16_append] at h1
  refine h A' c' w' h1 ⟨h2.os, h2.tape, h2.output, Nat.le_trans (by simp) h2.size, fun k hk hne => (h2.block k (by simp; omega) hne).trans (Below.heap_alloc _ _ _ hk)⟩
end
end Go.Proofs.YtkmacepodomdmaaDoor
