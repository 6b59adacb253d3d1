/-
  From a row of what came that came in to its elements.
-/
import Derived.Test.YtknfpdlomgllhaaDoorUd
import Derived.Test.YtknfpdlomgllhaaDoorArg
import Derived.Deep.SlicePairs
import Derived.OpenShut
namespace Go.Proofs.YtknfpdlomgllhaaDoor
open Go.RowKit Go.WideShapes Go.ChangeShapes
set_option maxRecDepth 100000
set_option linter.unusedVariables false

theorem cellsCame : Tryd.prog.cellsOf 48 = 4 := by kernel_rfl
theorem cellsB : Tryd.prog.cellsOf 4 = 1 := by kernel_rfl
theorem cellsI : Tryd.prog.cellsOf 3 = 1 := by kernel_rfl
theorem cellsSI : Tryd.prog.cellsOf 39 = 1 := by kernel_rfl
theorem cellsSB : Tryd.prog.cellsOf 23 = 1 := by kernel_rfl
theorem cameInts {H : Type} {enc : TypeId × Value → H} {W : World} {n : Nat} {v : Value} {y : DataW H × List MemPlace} (h : DataW.trod enc Tryd.prog W 0 (fun _ => true) true n 39 [v] = some y) : ∃ a l c zs, v = .slice a l c ∧ Came .i64 W a l c zs := by
  rcases open_ints Tryd.underlying39 Tryd.underlying3 (by kernel_rfl) h with ⟨hcs, _⟩ | ⟨x, l, c, zs, hcs, _, hl, hm, hz, _, hcell, hwz⟩
  · simp at hcs
    exact ⟨none, 0, 0, [], hcs, .inl ⟨rfl, rfl, rfl, rfl⟩⟩
  · simp at hcs
    exact ⟨some x, l, c, zs, hcs, .inr ⟨_, rfl, hl, hm, by simpa using hz, hcell, hwz⟩⟩
theorem cameBytes {H : Type} {enc : TypeId × Value → H} {W : World} {n : Nat} {v : Value} {y : DataW H × List MemPlace} (h : DataW.trod enc Tryd.prog W 0 (fun _ => true) true n 23 [v] = some y) : ∃ a l c zs, v = .slice a l c ∧ Came .u8 W a l c zs := by
  rcases open_ints Tryd.underlying23 Tryd.underlying5 (by kernel_rfl) h with ⟨hcs, _⟩ | ⟨x, l, c, zs, hcs, _, hl, hm, hz, _, hcell, hwz⟩
  · simp at hcs
    exact ⟨none, 0, 0, [], hcs, .inl ⟨rfl, rfl, rfl, rfl⟩⟩
  · simp at hcs
    exact ⟨some x, l, c, zs, hcs, .inr ⟨_, rfl, hl, hm, by simpa using hz, hcell, hwz⟩⟩
set_option maxRecDepth 100000 in
theorem cameRows {H : Type} {enc : TypeId × Value → H} {W : World} {fuel len cap : Nat} {a : Option Addr} {x : DataW H × List MemPlace} (h : DataW.trod enc Tryd.prog W 0 (fun _ => true) true fuel 33 [.slice a len cap] = some x) :
    ∃ es : Nat → CE, CRow W W.heap.size a len es ∧ len ≤ cap ∧ cap ≤ 9223372036854775807 := by
  rcases Deep.open_slice Tryd.underlying33 h with ⟨hcs, _⟩ | ⟨ad, l, c, m, n, D, Pl, hcs, _, hl, hm, hmm, _, hx⟩
  · simp at hcs
    obtain ⟨rfl, rfl, rfl⟩ := hcs
    exact ⟨fun _ => default, ⟨fun h => absurd h (by omega), fun i hi => absurd hi (by omega)⟩, by omega, by omega⟩
  · simp at hcs
    obtain ⟨rfl, rfl, rfl⟩ := hcs
    have hlm : len ≤ m := by rw [hmm]; simp; exact hl
    have each : ∀ i, i < len → ∃ e : CE, (∀ j u, e.cells[j]? = some u → W.cell? (ad.add (i * 4 + j)) = some u) ∧ e.ok W W.heap.size := by
      intro i hi
      obtain ⟨cs', h1, h2⟩ := hx i (by omega)
      rw [cellsCame] at h1
      obtain ⟨_, hlen, hcell⟩ := World.cells?_some h1
      obtain ⟨xs, k, hk, hxy, _, hxl, hf⟩ := DataW.trod_struct Tryd.underlying48 h2
      match xs, hxl, cs', hlen with
      | [y0, y1, y2, y3], _, [v0, v1, v2, v3], _ =>
        have g0 := hf 0 _ rfl
        have g1 := hf 1 _ rfl
        have g2 := hf 2 _ rfl
        have g3 := hf 3 _ rfl
        simp [cellsB, cellsI, cellsSI, cellsSB] at g0 g1 g2 g3
        obtain ⟨b, e0, _⟩ := DataW.trod_bool Tryd.underlying4 g0
        obtain ⟨z, e1, _, _⟩ := DataW.trod_int Tryd.underlying3 g1
        obtain ⟨aA, aL, aC, zs, e2, ca⟩ := cameInts g2
        obtain ⟨rA, rL, rC, bs, e3, cr⟩ := cameBytes g3
        simp at e0 e1
        obtain ⟨ys, ra, _, al, ac, _⟩ := came64 ca
        obtain ⟨bb, rb, rb2, rl, rc, rn⟩ := came8 cr
        refine ⟨⟨b, z, aA, aL, aC, rA, rL, rC, ys, bb⟩, fun j u hu => ?_, ⟨ra, Nat.le_trans al ac, rb, rb2, rl, rc, rn⟩⟩
        subst e0 e1 e2 e3
        have hj : j < 4 := by
          have := (Array.getElem?_eq_some_iff.1 hu).1
          simpa [CE.cells] using this
        have hcj := hcell j hj
        rw [Deep.add_add] at hcj
        rw [hcj]
        have h4 : j = 0 ∨ j = 1 ∨ j = 2 ∨ j = 3 := by omega
        rcases h4 with rfl | rfl | rfl | rfl <;> simpa [CE.cells] using hu
    obtain ⟨q, hq⟩ := Deep.choose_lt each
    refine ⟨q, ⟨fun hn => ?_, fun i hi => (hq i hi).2⟩, hl, by unfold maxLen at hm; omega⟩
    obtain ⟨b, off, spot⟩ := ad
    have hc := (hq 0 hn).1 0 _ rfl
    have hspot : spot = none := by simpa [Addr.add] using World.cell?_spot hc
    subst hspot
    have e : ∀ i, (⟨b, off, none⟩ : Addr).add i = ⟨b, off + i, none⟩ := fun i => Addr.add_lit ..
    rw [e] at hc
    refine ⟨b, off, rfl, World.block_lt_of_cell? W _ hc, fun i hi j u hu => ?_⟩
    have h1 := (hq i hi).1 j u hu
    rw [e] at h1
    rw [show off + 4 * i + j = off + (i * 4 + j) by omega]
    exact h1
end Go.Proofs.YtknfpdlomgllhaaDoor
