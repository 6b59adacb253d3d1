/-
  CombineAdds: Counts of no Buffer; a buffer, the reference's and a list, apart.
-/
import Derived.Test.YtknfpdlomgllhaaDoorHq
import Derived.Test.YtknfpdlomgllhaaDoorUj
namespace Go.Proofs.YtknfpdlomgllhaaDoor
open Go.RowKit
set_option maxRecDepth 100000
set_option linter.unusedVariables false
set_option linter.unusedSimpArgs false

set_option maxHeartbeats 400000 in
theorem countsNil (w : World) : Calls Tryd.prog 20 #[.pointer none] w fun e w' => e = .returned (.agg (W4 (nw [0, 0, 0, 0]))) ∧ Below w.heap.size w w' := by
  have iZ : Hid ((Tryd.prog.info? 22).map (·.size) = some (W4 (nw [0, 0, 0, 0])).size) := info4w
  have H1 := Lib.hid (W4_one (nw [0, 0, 0, 0]))
  have HS : Hid ((W4 (nw [0, 0, 0, 0])).size = (W4 (nw [0, 0, 0, 0])).size) := rfl
  have HZ := Lib.hid Z4w_eq'
  go_enter Tryd.func20, Tryd.ntmps20
  go_wp2_with (first | (refine at_alloc rfl 22 rfl (W4 (nw [0, 0, 0, 0])) HZ.out ?_; intro w1 h1) | (refine at_store rfl 22 _ _ rfl w.heap.size (W4 (nw [0, 0, 0, 0])) rfl rfl 22 _ h1.row iZ.out HS.out H1.out ?_; intro w2 h2))
  refine bodyPost_ret (v := .agg (W4 (nw [0, 0, 0, 0]))) (results_row rfl _ _ w.heap.size 22 _ _ rfl h2.row Tryd.underlying22 rfl iZ.out) rfl ?_
  exact ⟨rfl, h1.bel.trans (h2.below (Nat.le_refl _))⟩
theorem neqZ : ∀ W, (binOp .neq 22 (.agg (W4 (nw [0, 0, 0, 0]))) (.agg (W4 (nw [0, 0, 0, 0])))).run Tryd.prog W = .ok (.bool false) W := fun _ => by kernel_rfl
theorem Rd.same {w w' : World} {A : Option Addr} {n : Nat} {xs : List Value} (h : Rd w w.heap.size A n xs) (hb : ∀ b, blk A = some b → b < w.heap.size → w'.heap[b]? = w.heap[b]?) (hs : w.heap.size ≤ w'.heap.size) : Rd w' w'.heap.size A n xs :=
  ⟨h.len, fun hn => by
    obtain ⟨b, off, e, hlt, hc⟩ := h.at_ hn
    exact ⟨b, off, e, by omega, fun i u hu => (cell_of_heap (hb b (by rw [e]; rfl) hlt) _).trans (hc i u hu)⟩⟩

/-- A buffer, the reference's and a list, apart. -/
structure Trio (w w0 : World) (gB gR gs n : Nat) (A : Option Addr) (ls : List Nat) (rowB rowR : List (Nat × List Nat)) (SB : Value) : Prop where
  b : BufS w gB n rowB SB
  r : RBufS w gR n rowR gs
  l : Rd w w.heap.size A n (U8 ls)
  bg : w0.heap.size ≤ gB
  br : w0.heap.size ≤ gR
  bs : w0.heap.size ≤ gs
  bS : ∀ j, SB.ownBlock = some j → w0.heap.size ≤ j
  n1 : gB ≠ gR
  n2 : gB ≠ gs
  n3 : ∀ j, SB.ownBlock = some j → j ≠ gR ∧ j ≠ gs
  la : ∀ j, blk A = some j → j < w.heap.size ∧ j ≠ gB ∧ j ≠ gR ∧ j ≠ gs ∧ SB.ownBlock ≠ some j
  bw : Below w0.heap.size w0 w
  sz : w0.heap.size ≤ w.heap.size
section
variable {w w' w0 : World} {gB gR gs n : Nat} {A : Option Addr} {ls : List Nat} {rowB rowR rowC : List (Nat × List Nat)} {SB S' : Value}
theorem Trio.lt (h : Trio w w0 gB gR gs n A ls rowB rowR SB) : gB < w.heap.size ∧ gR < w.heap.size ∧ gs < w.heap.size ∧ ∀ j, SB.ownBlock = some j → j < w.heap.size := ⟨h.b.blk.lt, h.r.blk.lt, h.r.sums.lt, h.b.lt⟩
theorem Trio.after (h : Trio w w0 gB gR gs n A ls rowB rowR SB) (hb : Below w.heap.size w w') : Trio w' w0 gB gR gs n A ls rowB rowR SB :=
  ⟨h.b.after hb, h.r.after hb, (h.l.below hb).up hb.size, h.bg, h.br, h.bs, h.bS, h.n1, h.n2, h.n3, fun j hj => ⟨by have := (h.la j hj).1; have := hb.size; omega, (h.la j hj).2⟩, h.bw.trans (hb.mono h.sz), Nat.le_trans h.sz hb.size⟩
theorem Trio.add (h : Trio w w0 gB gR gs n A ls rowB rowR SB) (h1 : BufS w' gB n rowC S') (hk : Kp w w' gB SB.ownBlock) (ho : S'.ownBlock = none ∨ S'.ownBlock = SB.ownBlock ∨ ∃ j, S'.ownBlock = some j ∧ w.heap.size ≤ j) : Trio w' w0 gB gR gs n A ls rowC rowR S' := by
  obtain ⟨l1, l2, l3, l4⟩ := h.lt
  have hs := h.sz
  have hS : ∀ j, S'.ownBlock = some j → SB.ownBlock = some j ∨ w.heap.size ≤ j := fun j hj => by
    rcases ho with e | e | ⟨i, e, hi⟩
    · rw [e] at hj; cases hj
    · exact .inl (e ▸ hj)
    · rw [e] at hj; injection hj with hj; exact .inr (by omega)
  refine ⟨h1, h.r.of_heap (hk.block gR l2 (Ne.symm h.n1) (fun e => (h.n3 gR e).1 rfl)) (hk.block gs l3 (Ne.symm h.n2) (fun e => (h.n3 gs e).2 rfl)), h.l.same (fun j hj hlt => hk.block j hlt (h.la j hj).2.1 (h.la j hj).2.2.2.2) hk.size, h.bg, h.br, h.bs, ?_, h.n1, h.n2, ?_, ?_, h.bw.trans (hk.below h.bg (fun j hj => h.bS j hj) hs), Nat.le_trans hs hk.size⟩
  · intro j hj
    rcases hS j hj with e | e
    · exact h.bS j e
    · omega
  · intro j hj
    rcases hS j hj with e | e
    · exact h.n3 j e
    · omega
  · intro j hj
    have := h.la j hj
    refine ⟨by have := hk.size; omega, this.2.1, this.2.2.1, this.2.2.2.1, fun e => ?_⟩
    rcases hS j e with e | e
    · exact this.2.2.2.2 e
    · omega
theorem Kp.widen {w w' : World} {g : Nat} {o : Option Nat} (h : Kp w w' g none) : Kp w w' g o := ⟨h.os, h.tape, h.output, h.size, fun k h1 h2 _ => h.block k h1 h2 (fun e => by cases e)⟩
theorem Trio.reset (h : Trio w w0 gB gR gs n A ls rowB rowR SB) (h1 : BufS w' gB n [] (.slice none 0 0)) (hk : Kp w w' gB none) : Trio w' w0 gB gR gs n A ls [] rowR (.slice none 0 0) :=
  h.add h1 hk.widen (.inl rfl)
theorem Trio.doc (h : Trio w w0 gB gR gs n A ls rowB rowR SB) (h1 : RBufS w' gR n rowC gs) (hk : Kp w w' gR (some gs)) : Trio w' w0 gB gR gs n A ls rowB rowC SB := by
  obtain ⟨l1, l2, l3, l4⟩ := h.lt
  have hs := h.sz
  have n2 := h.n2
  refine ⟨h.b.same (hk.block gB l1 h.n1 (fun e => by injection e with e; omega)) (fun j hj => hk.block j (l4 j hj) (h.n3 j hj).1 (fun e => by injection e with e; exact (h.n3 j hj).2 e.symm)), h1, h.l.same (fun j hj hlt => hk.block j hlt (h.la j hj).2.2.1 (fun e => by injection e with e; exact (h.la j hj).2.2.2.1 e.symm)) hk.size, h.bg, h.br, h.bs, h.bS, h.n1, h.n2, h.n3, fun j hj => ⟨by have := (h.la j hj).1; have := hk.size; omega, (h.la j hj).2⟩, h.bw.trans (hk.below h.br (fun j hj => by injection hj with hj; have := h.bs; omega) hs), Nat.le_trans hs hk.size⟩
theorem Trio.anew {gR' gs' : Nat} (h : Trio w w0 gB gR gs n A ls rowB rowR SB) (hb : Below w.heap.size w w') (h1 : RBufS w' gR' n [] gs') (hR : w.heap.size ≤ gR') (hs' : w.heap.size ≤ gs') : Trio w' w0 gB gR' gs' n A ls rowB [] SB := by
  obtain ⟨l1, l2, l3, l4⟩ := h.lt
  have t := h.after hb
  have hs := h.sz
  exact ⟨t.b, h1, t.l, t.bg, by omega, by omega, t.bS, by omega, by omega, fun j hj => by have := l4 j hj; exact ⟨by omega, by omega⟩, fun j hj => by have := h.la j hj; exact ⟨(t.la j hj).1, this.2.1, by omega, by omega, this.2.2.2.2⟩, t.bw, t.sz⟩
end
theorem W4_cl (n : Nat) (row : List (Nat × List Nat)) (S : Value) : ∀ i u, (W4 (nw (cl row))).toList[i]? = some u → (RF n S (Cv.cv row))[2 + i]? = some u := by
  intro i u h
  rcases i with _ | _ | _ | _ | i
  · exact h
  · exact h
  · exact h
  · exact h
  · simp [W4, I64, nw, cl] at h
end Go.Proofs.YtknfpdlomgllhaaDoor
