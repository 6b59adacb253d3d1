/-
  Blocks among some alone are written.
-/
import Derived.Test.YtoiibjblaafgpaaBk
namespace Go.Proofs.Ytoiibjblaafgpaa
open Go.RowKit
set_option maxRecDepth 100000
set_option linter.unusedVariables false

/-- Blocks among P alone may be written. -/
structure Kr (w w' : World) (P : Nat → Prop) : Prop where
  os : w'.os = w.os
  tape : w'.tape = w.tape
  output : w'.output = w.output
  size : w.heap.size ≤ w'.heap.size
  block : ∀ k, k < w.heap.size → ¬ P k → w'.heap[k]? = w.heap[k]?
theorem Kr.of_below {w w' : World} {P : Nat → Prop} (h : Below w.heap.size w w') : Kr w w' P := ⟨h.os, h.tape, h.output, h.size, fun k hk _ => h.block k hk⟩
theorem Kr.below {w w' : World} {P : Nat → Prop} {B : Nat} (h : Kr w w' P) (hB : ∀ k, P k → B ≤ k) (hs : B ≤ w.heap.size) : Below B w w' := ⟨h.os, h.tape, h.output, h.size, fun k hk => h.block k (by omega) (fun hp => by have := hB k hp; omega)⟩
theorem Rd.kr {w w' : World} {P : Nat → Prop} {b off n : Nat} {xs : List Value} (h : Rd w w.heap.size (some ⟨b, off, none⟩) n xs) (hk : Kr w w' P) (hb : ¬ P b) : Rd w' w'.heap.size (some ⟨b, off, none⟩) n xs :=
  ⟨h.len, fun hn => by
    obtain ⟨b', off', e, hlt, hc⟩ := h.at_ hn
    injection e with e
    injection e with e1 e2
    subst e1 e2
    exact ⟨b, off, rfl, by have := hk.size; omega, fun i u hu => (World.cell?_of_block (a := ⟨b, off + i, none⟩) (hk.block b hlt hb)).trans (hc i u hu)⟩⟩
end Go.Proofs.Ytoiibjblaafgpaa
