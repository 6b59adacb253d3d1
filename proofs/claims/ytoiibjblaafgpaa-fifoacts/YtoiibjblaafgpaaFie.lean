/-
  Rows of messages, rows of truths that came in; an act of FifoActs.
-/
import Derived.Test.YtoiibjblaafgpaaRw
import Derived.Test.YtoiibjblaafgpaaArg
import Derived.Test.YtoiibjblaafgpaaMem
namespace Go.Proofs.Ytoiibjblaafgpaa
open Go.RowKit Go.WideShapes Go.ChangeShapes
set_option maxRecDepth 100000
set_option linter.unusedVariables false
set_option linter.unusedSimpArgs false
set_option maxRecDepth 100000

/-- A message that came in. -/
structure M8 where
  A : Option Addr
  n : Nat
  c : Nat
  bs : List Nat
deriving Inhabited
def M8.cells (e : M8) : Array Value := #[.slice e.A e.n e.c]
structure M8.Ok (w : World) (e : M8) : Prop where
  rb : Rd w w.heap.size e.A e.n (U8 e.bs)
  b256 : ∀ b ∈ e.bs, b < 256
  bnc : e.n ≤ e.c
  bcm : e.c ≤ 9223372036854775807
  bno : e.A = none → e.n = 0 ∧ e.c = 0
def M8Row (w : World) (B : Nat) (A : Option Addr) (n : Nat) (es : Nat → M8) : Prop := StRow 1 M8.cells w B A n es ∧ ∀ i, i < n → (es i).Ok w
theorem cameRows8 {H : Type} {enc : TypeId × Value → H} {W : World} {fuel len cap : Nat} {a : Option Addr} {x : DataW H × List MemPlace} (h : DataW.trod enc Try.prog W 0 (fun _ => true) true fuel 61 [.slice a len cap] = some x) :
    ∃ es : Nat → M8, M8Row W W.heap.size a len es ∧ len ≤ cap ∧ cap ≤ 9223372036854775807 := by
  refine cameRowsOf 1 M8.cells (M8.Ok W) Try.underlying61 (by kernel_rfl) (by omega) h ?_
  intro fuel cs r h hs
  obtain ⟨a1, len1, cap1, zs1, hcs, hc1⟩ : ∃ a len cap zs, cs = #[.slice a len cap] ∧ Came .u8 W a len cap zs := by
    rcases open_ints Try.underlying26 Try.underlying5 (by kernel_rfl) h with ⟨hcs, _⟩ | ⟨x, l, c, zs, hcs, _, hl, hm, hz, _, hcell, hwz⟩
    · exact ⟨none, 0, 0, [], by apply Array.ext'; simpa using hcs, .inl ⟨rfl, rfl, rfl, rfl⟩⟩
    · exact ⟨_, _, _, zs, by apply Array.ext'; simpa using hcs, .inr ⟨_, rfl, hl, hm, by simpa using hz, hcell, hwz⟩⟩
  obtain ⟨bs, r0, hb, hl, hc, hnn⟩ := came8 hc1
  exact ⟨⟨a1, len1, cap1, bs⟩, hcs.symm, ⟨r0, hb, hl, hc, hnn⟩⟩
def B1c (b : Bool) : Array Value := #[.bool b]
def BRow (w : World) (B : Nat) (A : Option Addr) (n : Nat) (es : Nat → Bool) : Prop := StRow 1 B1c w B A n es ∧ ∀ i, i < n → True
theorem cameRowsB {H : Type} {enc : TypeId × Value → H} {W : World} {fuel len cap : Nat} {a : Option Addr} {x : DataW H × List MemPlace} (h : DataW.trod enc Try.prog W 0 (fun _ => true) true fuel 67 [.slice a len cap] = some x) :
    ∃ es : Nat → Bool, BRow W W.heap.size a len es ∧ len ≤ cap ∧ cap ≤ 9223372036854775807 := by
  refine cameRowsOf 1 B1c (fun _ => True) Try.underlying67 (by kernel_rfl) (by omega) h ?_
  intro fuel cs r h hs
  obtain ⟨b, hb, _⟩ := DataW.trod_bool Try.underlying4 h
  exact ⟨b, by apply Array.ext'; simpa [B1c] using hb.symm, trivial⟩
end Go.Proofs.Ytoiibjblaafgpaa
