/-
  The library's sort at numbers of 16 bits: the state of the row that is sorted.
-/
import Derived.Test.YtkmacepodomdmaaMem
import Derived.Sort.LotB
import Derived.Sort.Row
namespace Go.Proofs.Ytkmacepodomdmaa
open Go.RowKit
set_option maxRecDepth 100000
open Go.Sort (swp PermIn SortedIn SWO Holds putRow mapBlock)
set_option linter.unusedVariables false

/-- A number as a cell. -/
def eU (x : Nat) : Value := .int .u16 (x : Int)
/-- Which of two is less. -/
def ltN (x y : Nat) : Bool := decide (x < y)
theorem swoN : SWO ltN where
  irrefl x := by simp [ltN]
  trans x y z h1 h2 := by simp [ltN] at *; omega
  ntrans x y z h1 h2 := by simp [ltN] at *; omega

theorem mapBlock_at (w : World) (g : Nat) (f : Array Value → Array Value) (k : Nat) : (mapBlock w g f).heap[k]? = if g = k then (w.heap[k]?).map (Go.Sort.onCells f) else w.heap[k]? := by
  simp only [mapBlock, Array.getElem?_modify]
theorem below_both {N : Nat} {W w : World} (h : Below N W w) (g : Nat) (f : Array Value → Array Value) : Below N (mapBlock W g f) (mapBlock w g f) :=
  ⟨h.os, h.tape, h.output, by simpa [mapBlock] using h.size, fun k hk => by rw [mapBlock_at, mapBlock_at, h.block k hk]⟩

/-- Since w0 the row of n places from 'off' on in block g has come to hold d; nothing else that lay there has changed. -/
structure SR (w0 : World) (g off n : Nat) (w : World) (d : Array Nat) : Prop where
  sz : d.size = n
  lt : g < w0.heap.size
  held : ∃ d0 : Array Nat, d0.size = n ∧ Holds eU w0 g off d0
  bel : Below w0.heap.size (putRow eU w0 g off d) w
section
variable {w0 w w' : World} {g off n : Nat} {d d' : Array Nat}
theorem SR.cell (h : SR w0 g off n w d) (t : Nat) (ht : t < n) : w.cell? ⟨g, off + t, none⟩ = some (eU d[t]!) := by
  obtain ⟨d0, h0, hH⟩ := h.held
  rw [h.bel.cell (p := ⟨g, off + t, none⟩) h.lt]
  exact Go.Sort.cell?_putRow eU w0 g off d0 d hH (by rw [h.sz, h0]) t (by rw [h.sz]; exact ht)
theorem SR.froz (h : SR w0 g off n w d) (t : Nat) (ht : t < n) : w.frozen? ⟨g, off + t, none⟩ = false := by
  obtain ⟨d0, h0, hH⟩ := h.held
  rw [World.frozen?_of_block (a := ⟨g, off + t, none⟩) (h.bel.block g h.lt), Go.Sort.frozen?_putRow]
  exact (hH t (by omega)).2
/-- What the row holds, under a name that the walk does not open. -/
theorem SR.names (h : SR w0 g off n w d) : ∃ G : Nat → Nat, Hid (∀ t, G t = d[t]!) ∧ (∀ t, t < n → w.cell? ⟨g, off + t, none⟩ = some (.int .u16 ((G t : Nat) : Int))) ∧ (∀ t, t < n → w.frozen? ⟨g, off + t, none⟩ = false) :=
  ⟨fun t => d[t]!, fun _ => rfl, fun t ht => h.cell t ht, fun t ht => h.froz t ht⟩
theorem SR.holds (h : SR w0 g off n w d) : Holds eU w g off d := fun t ht => ⟨h.cell t (by rw [← h.sz]; exact ht), h.froz t (by rw [← h.sz]; exact ht)⟩
theorem SR.start (hH : Holds eU w g off d) (hg : g < w.heap.size) : SR w g off d.size w d :=
  ⟨rfl, hg, ⟨d, rfl, hH⟩, by rw [Go.Sort.putRow_self eU w g off d hH]; exact Below.refl _ _⟩
theorem SR.lt' (h : SR w0 g off n w d) : g < w.heap.size := Nat.lt_of_lt_of_le h.lt (by simpa using h.bel.size)
theorem SR.size' (h : SR w0 g off n w d) : w0.heap.size ≤ w.heap.size := by simpa using h.bel.size
theorem SR.self (h : SR w0 g off n w d) : SR w g off n w d := by
  have := SR.start h.holds h.lt'
  rw [h.sz] at this
  exact this
theorem SR.after (h : SR w0 g off n w d) (hb : Below w.heap.size w w') : SR w0 g off n w' d := ⟨h.sz, h.lt, h.held, h.bel.trans (hb.mono h.size')⟩
theorem SR.draw (h : SR w0 g off n w d) (q : Nat) : SR w0 g off n (w.drewN q) d := h.after (below_drawn q)
theorem SR.drew (h : SR w0 g off n w d) : SR w0 g off n w.drew d := h.draw 1
theorem SR.swap (h : SR w0 g off n w d) {i j : Nat} (hi : i < n) (hj : j < n) : SR w0 g off n ((w.setCell ⟨g, off + i, none⟩ (eU d[j]!)).setCell ⟨g, off + j, none⟩ (eU d[i]!)) (swp d i j) := by
  refine ⟨by rw [Go.Sort.size_swp]; exact h.sz, h.lt, h.held, ?_⟩
  rw [← Go.Sort.putRow_swp eU w0 g off d i j (by rw [h.sz]; exact hi) (by rw [h.sz]; exact hj)]
  rw [Go.Sort.setCell_eq, Go.Sort.setCell_eq, Go.Sort.setCell_eq, Go.Sort.setCell_eq]
  exact below_both (below_both h.bel _ _) _ _
/-- The same, as a walk leaves it. -/
theorem SR.swapN (h : SR w0 g off n w d) {i j : Nat} (hi : i < n) (hj : j < n) {x y : Nat} (hx : x = d[j]!) (hy : y = d[i]!) :
    SR w0 g off n ((w.setCell ⟨g, off + i, none⟩ (.int .u16 (x : Int))).setCell ⟨g, off + j, none⟩ (.int .u16 (y : Int))) (swp d i j) := by
  subst hx; subst hy; exact h.swap hi hj
theorem SR.then_ (h : SR w0 g off n w d) (h2 : SR w g off n w' d') : SR w0 g off n w' d' := by
  refine ⟨h2.sz, h.lt, h.held, ?_⟩
  have e : putRow eU w0 g off d' = putRow eU (putRow eU w0 g off d) g off d' := (Go.Sort.putRow_putRow eU w0 g off d d' (by rw [h.sz, h2.sz])).symm
  rw [e]
  exact (below_both h.bel _ _).trans (h2.bel.mono h.size')
/-- A cell of another block. -/
theorem SR.other (h : SR w0 g off n w d) (a : Addr) (ha : a.block < w0.heap.size) (hne : a.block ≠ g) : w.cell? a = w0.cell? a := by
  rw [h.bel.cell ha]
  exact Go.Sort.cell?_putRow_other eU w0 g off d a (Or.inl hne)
theorem SR.block (h : SR w0 g off n w d) (k : Nat) (hk : k < w0.heap.size) (hne : k ≠ g) : w.heap[k]? = w0.heap[k]? := by
  rw [h.bel.block k hk]
  unfold putRow
  rw [mapBlock_at, if_neg (Ne.symm hne)]
theorem SR.grown (h : SR w0 g off n w d) : w0.grownBy w (some g) :=
  ⟨h.bel.os, h.bel.tape, h.bel.output, h.size', fun k hk hne => h.block k hk (fun e => hne (by rw [e]))⟩
end
end Go.Proofs.Ytkmacepodomdmaa
