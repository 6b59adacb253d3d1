/-
  Rows of structs that came in, whatever the struct is.
-/
import Derived.Test.YtoiibjblaafgpaaSq
import Derived.Deep.Slices
namespace Go.Proofs.Ytoiibjblaafgpaa
open Go.RowKit Go.WideShapes Go.ChangeShapes
set_option maxRecDepth 100000
set_option linter.unusedVariables false

/-- A row of things of sz cells each. -/
structure StRow {X : Type} (sz : Nat) (cells : X → Array Value) (w : World) (B : Nat) (A : Option Addr) (n : Nat) (es : Nat → X) : Prop where
  at_ : 0 < n → ∃ b off, A = some ⟨b, off, none⟩ ∧ b < B ∧ ∀ i, i < n → ∀ j u, (cells (es i))[j]? = some u → w.cell? ⟨b, off + sz * i + j, none⟩ = some u
theorem StRow.below {X : Type} {sz : Nat} {cells : X → Array Value} {w w' : World} {B : Nat} {A : Option Addr} {n : Nat} {es : Nat → X} (h : StRow sz cells w B A n es) (hb : Below B w w') : StRow sz cells w' B A n es :=
  ⟨fun hn => by
    obtain ⟨b, off, e, hlt, hc⟩ := h.at_ hn
    exact ⟨b, off, e, hlt, fun i hi j u hu => (hb.cell (p := ⟨b, off + sz * i + j, none⟩) hlt).trans (hc i hi j u hu)⟩⟩
set_option maxRecDepth 100000 in
theorem cameRowsOf {P : Program} {H : Type} {enc : TypeId × Value → H} {W : World} {fuel len cap : Nat} {a : Option Addr} {x : DataW H × List MemPlace} {X : Type} [Inhabited X] (sz : Nat) (cells : X → Array Value) (ok : X → Prop) {ty ety : TypeId}
    (hu : P.underlying ty = some (.slice ety)) (hsz : P.cellsOf ety = sz) (hp : 0 < sz) (h : DataW.trod enc P W 0 (fun _ => true) true fuel ty [.slice a len cap] = some x)
    (each : ∀ (fuel : Nat) (cs : Array Value) (r : DataW H × List MemPlace), DataW.trod enc P W 0 (fun _ => true) true fuel ety cs.toList = some r → cs.size = sz → ∃ e : X, cells e = cs ∧ ok e) :
    ∃ es : Nat → X, (StRow sz cells W W.heap.size a len es ∧ ∀ i, i < len → ok (es i)) ∧ len ≤ cap ∧ cap ≤ 9223372036854775807 := by
  rcases Deep.open_slice hu h with ⟨hcs, _⟩ | ⟨ad, l, c, m, n, D, Pl, hcs, _, hl, hm, hmm, _, hx⟩
  · simp at hcs
    obtain ⟨rfl, rfl, rfl⟩ := hcs
    exact ⟨fun _ => default, ⟨⟨fun h => absurd h (by omega)⟩, fun i hi => absurd hi (by omega)⟩, by omega, by omega⟩
  · simp at hcs
    obtain ⟨rfl, rfl, rfl⟩ := hcs
    have hlm : len ≤ m := by rw [hmm]; simp; exact hl
    have each' : ∀ i, i < len → ∃ e : X, (∀ j u, (cells e)[j]? = some u → W.cell? (ad.add (i * sz + j)) = some u) ∧ (cells e).size = sz ∧ ok e := by
      intro i hi
      obtain ⟨cs', h1, h2⟩ := hx i (by omega)
      rw [hsz] at h1
      obtain ⟨_, hlen, hcell⟩ := World.cells?_some h1
      obtain ⟨e, he, hok⟩ := each _ cs'.toArray _ h2 (by simpa using hlen)
      refine ⟨e, fun j u hu' => ?_, by rw [he]; simpa using hlen, hok⟩
      rw [he] at hu'
      have hj : j < sz := by
        have := (Array.getElem?_eq_some_iff.1 hu').1
        simpa [hlen] using this
      have hcj := hcell j hj
      rw [Deep.add_add] at hcj
      rw [hcj]
      simpa using hu'
    obtain ⟨q, hq⟩ := Deep.choose_lt each'
    refine ⟨q, ⟨⟨fun hn => ?_⟩, fun i hi => (hq i hi).2.2⟩, hl, by unfold maxLen at hm; omega⟩
    obtain ⟨b, off, spot⟩ := ad
    have h0 : (cells (q 0))[0]? = some ((cells (q 0))[0]'(by have := (hq 0 hn).2.1; omega)) := Array.getElem?_eq_getElem _
    have hc := (hq 0 hn).1 0 _ h0
    have hspot : spot = none := by simpa [Addr.add] using World.cell?_spot hc
    subst hspot
    have e : ∀ i, (⟨b, off, none⟩ : Addr).add i = ⟨b, off + i, none⟩ := fun i => Addr.add_lit ..
    rw [e] at hc
    refine ⟨b, off, rfl, World.block_lt_of_cell? W _ hc, fun i hi j u hu => ?_⟩
    have h1 := (hq i hi).1 j u hu
    rw [e] at h1
    rw [show off + sz * i + j = off + (i * sz + j) by rw [Nat.mul_comm sz i]; omega]
    exact h1
end Go.Proofs.Ytoiibjblaafgpaa
