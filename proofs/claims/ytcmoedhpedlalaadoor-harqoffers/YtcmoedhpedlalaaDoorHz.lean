/-
  Texts joined: Arg, Ld, Ue, He, Hf, Hm.
-/
import Derived.Test.YtcmoedhpedlalaaDoorMem
import Derived.OpenShut
import Derived.Test.YtcmoedhpedlalaaDoorRows
import Derived.Test.YtcmoedhpedlalaaDoorKz
import Derived.Lib.LaidTab
import Derived.LaidMore
import Derived.Stop.Joined
import Derived.ProofKit
import Derived.Test.YtcmoedhpedlalaaDoorUd
import Derived.Deep.SlicePairs
import Derived.Test.YtcmoedhpedlalaaDoorHd
import Derived.Lib.SlBytesConst
import Derived.Test.YtcmoedhpedlalaaDoorHl
namespace Go.Proofs.YtcmoedhpedlalaaDoor
open Go.RowKit
set_option maxRecDepth 100000
set_option linter.unusedVariables false

/-- What is told of a slice of integers that came in. -/
def Came (k : IntKind) (w : World) (a : Option Addr) (len cap : Nat) (zs : List Int) : Prop :=
  (a = none ∧ len = 0 ∧ cap = 0 ∧ zs = []) ∨
  ∃ x, a = some x ∧ len ≤ cap ∧ cap ≤ maxLen ∧ zs.length = cap ∧ (∀ i, i < zs.length → w.cell? (x.add i) = some (.int k (zs.getD i 0))) ∧ ∀ n ∈ zs, (Lit.int k n).wf = true

theorem came_cells {k : IntKind} {w : World} {x : Addr} {zs : List Int} (h : ∀ i, i < zs.length → w.cell? (x.add i) = some (.int k (zs.getD i 0))) (hn : 0 < zs.length) :
    ∃ b off, x = ⟨b, off, none⟩ ∧ b < w.heap.size ∧ ∀ i, i < zs.length → w.cell? ⟨b, off + i, none⟩ = some (.int k (zs.getD i 0)) := by
  obtain ⟨b, off, spot⟩ := x
  have hc := h 0 hn
  have hspot : spot = none := by simpa [Addr.add] using World.cell?_spot hc
  subst hspot
  have e : ∀ i, (⟨b, off, none⟩ : Addr).add i = ⟨b, off + i, none⟩ := fun i => Addr.add_lit ..
  have hc0 := hc
  rw [e] at hc0
  exact ⟨b, off, rfl, World.block_lt_of_cell? w _ hc0, fun i hi => by rw [← e]; exact h i hi⟩

theorem came8 {w : World} {a : Option Addr} {len cap : Nat} {zs : List Int} (h : Came .u8 w a len cap zs) :
    ∃ bs : List Nat, Rd w w.heap.size a len (U8 bs) ∧ (∀ b ∈ bs, b < 256) ∧ len ≤ cap ∧ cap ≤ 9223372036854775807 ∧ (a = none → len = 0 ∧ cap = 0) := by
  rcases h with ⟨rfl, rfl, rfl, rfl⟩ | ⟨x, rfl, hl, hm, hz, hcell, hwz⟩
  · exact ⟨[], ⟨rfl, fun h => absurd h (by omega)⟩, by simp, by omega, by omega, fun _ => ⟨rfl, rfl⟩⟩
  · have hb : ∀ n ∈ zs, 0 ≤ n ∧ n ≤ 255 := fun n hn => bounds_u8 (hwz n hn)
    refine ⟨(zs.take len).map Int.toNat, ⟨by simp [U8]; omega, fun h0 => ?_⟩, ?_, hl, by unfold maxLen at hm; omega, by simp⟩
    · obtain ⟨b, off, rfl, hlt, hc⟩ := came_cells hcell (by omega)
      refine ⟨b, off, rfl, hlt, fun i u hu => ?_⟩
      have hi : i < len := by
        have := (List.getElem?_eq_some_iff.1 hu).1
        simp [U8] at this
        omega
      rw [hc i (by omega)]
      have hin : i < zs.length := by omega
      have := hb zs[i] (List.getElem_mem hin)
      have e : (U8 ((zs.take len).map Int.toNat))[i]? = some (.int .u8 (zs[i].toNat : Int)) := by simp [U8, hi, hin]
      rw [e] at hu
      injection hu with hu
      rw [← hu, Int.toNat_of_nonneg this.1]
      simp [List.getD, hin]
    · intro b hb'
      obtain ⟨z, hz', rfl⟩ := List.mem_map.1 hb'
      have := hb z (List.mem_of_mem_take hz')
      omega

theorem came64 {w : World} {a : Option Addr} {len cap : Nat} {zs : List Int} (h : Came .i64 w a len cap zs) :
    ∃ ys : List Int, Rd w w.heap.size a len (I64 ys) ∧ (∀ z ∈ ys, -9223372036854775808 ≤ z ∧ z ≤ 9223372036854775807) ∧ len ≤ cap ∧ cap ≤ 9223372036854775807 ∧ (a = none → len = 0 ∧ cap = 0) := by
  rcases h with ⟨rfl, rfl, rfl, rfl⟩ | ⟨x, rfl, hl, hm, hz, hcell, hwz⟩
  · exact ⟨[], ⟨rfl, fun h => absurd h (by omega)⟩, by simp, by omega, by omega, fun _ => ⟨rfl, rfl⟩⟩
  · refine ⟨zs.take len, ⟨by simp [I64]; omega, fun h0 => ?_⟩, ?_, hl, by unfold maxLen at hm; omega, by simp⟩
    · obtain ⟨b, off, rfl, hlt, hc⟩ := came_cells hcell (by omega)
      refine ⟨b, off, rfl, hlt, fun i u hu => ?_⟩
      have hi : i < len := by
        have := (List.getElem?_eq_some_iff.1 hu).1
        simp [I64] at this
        omega
      rw [hc i (by omega)]
      have hin : i < zs.length := by omega
      have e : (I64 (zs.take len))[i]? = some (.int .i64 zs[i]) := by simp [I64, hi, hin]
      rw [e] at hu
      injection hu with hu
      rw [← hu]
      simp [List.getD, hin]
    · intro z hz'
      exact bounds_i64 (hwz z (List.mem_of_mem_take hz'))
theorem wf_u8 {a : Int} (h : (Lit.int .u8 a).wf = true) : ∃ m : Nat, m < 256 ∧ a = (m : Int) := by
  simp [Lit.wf, IntKind.min, IntKind.max, IntKind.signed, IntKind.bits] at h
  exact ⟨a.toNat, by omega, by omega⟩
theorem wf_i64 {a : Int} (h : (Lit.int .i64 a).wf = true) : -9223372036854775808 ≤ a ∧ a ≤ 9223372036854775807 := by
  simp [Lit.wf, IntKind.min, IntKind.max, IntKind.signed, IntKind.bits] at h
  omega
end Go.Proofs.YtcmoedhpedlalaaDoor

namespace Go.Proofs.YtcmoedhpedlalaaDoor
open Go.RowKit
set_option maxRecDepth 100000

theorem gTaps : Tryd.prog.globalNamed "shuttle/conv.taps" = some 0 := by kernel_rfl
theorem tTaps : (Tryd.prog.globals[0]?).map (·.type) = some 45 := by kernel_rfl
/-- The door's own heap meets the condition. -/
theorem door_met (os : Os) (args : Array Value) : laidMetH Tryd.prog [("shuttle/conv.taps", Rows.laid_shuttle_conv_taps)] ((World.doorLaid Tryd.prog 400 os).forCall (fun _ _ => 0) ⟨#[], args, []⟩).memory :=
  laidMetH_of_parts3 (fuel := 8) (laidMet_of_run' 8 (by kernel_rfl) (by kernel_rfl)) (by kernel_rfl) (by kernel_rfl)
/-- What the condition gives the walks. -/
theorem of_laid {W : World} (h : laidMetH Tryd.prog [("shuttle/conv.taps", Rows.laid_shuttle_conv_taps)] W) : Taps W := by
  rw [MakeChecks.laidMetH_plain _ _ _ (by kernel_rfl)] at h
  have ht : Lib.TabIs Tryd.prog W "shuttle/conv.taps" .i64 [79, 87, 109, 121] :=
    Lib.tabIs_of_head (rest := []) gTaps tTaps Tryd.underlying45 Tryd.underlying3 (by kernel_rfl) (by kernel_rfl) h
  exact ⟨ht.cell gTaps 0 (by decide), ht.cell gTaps 1 (by decide), ht.cell gTaps 2 (by decide), ht.cell gTaps 3 (by decide)⟩
end Go.Proofs.YtcmoedhpedlalaaDoor

namespace Go.Proofs.YtcmoedhpedlalaaDoor
open Go.RowKit Go.WideShapes Go.ChangeShapes
set_option maxRecDepth 100000
set_option linter.unusedVariables false

theorem cellsCame : Tryd.prog.cellsOf 78 = 4 := by kernel_rfl
theorem cellsB : Tryd.prog.cellsOf 4 = 1 := by kernel_rfl
theorem cellsI : Tryd.prog.cellsOf 3 = 1 := by kernel_rfl
theorem cellsSI : Tryd.prog.cellsOf 35 = 1 := by kernel_rfl
theorem cellsSB : Tryd.prog.cellsOf 22 = 1 := by kernel_rfl
theorem cameInts {H : Type} {enc : TypeId × Value → H} {W : World} {n : Nat} {v : Value} {y : DataW H × List MemPlace} (h : DataW.trod enc Tryd.prog W 0 (fun _ => true) true n 35 [v] = some y) : ∃ a l c zs, v = .slice a l c ∧ Came .i64 W a l c zs := by
  rcases open_ints Tryd.underlying35 Tryd.underlying3 (by kernel_rfl) h with ⟨hcs, _⟩ | ⟨x, l, c, zs, hcs, _, hl, hm, hz, _, hcell, hwz⟩
  · simp at hcs
    exact ⟨none, 0, 0, [], hcs, .inl ⟨rfl, rfl, rfl, rfl⟩⟩
  · simp at hcs
    exact ⟨some x, l, c, zs, hcs, .inr ⟨_, rfl, hl, hm, by simpa using hz, hcell, hwz⟩⟩
theorem cameBytes {H : Type} {enc : TypeId × Value → H} {W : World} {n : Nat} {v : Value} {y : DataW H × List MemPlace} (h : DataW.trod enc Tryd.prog W 0 (fun _ => true) true n 22 [v] = some y) : ∃ a l c zs, v = .slice a l c ∧ Came .u8 W a l c zs := by
  rcases open_ints Tryd.underlying22 Tryd.underlying5 (by kernel_rfl) h with ⟨hcs, _⟩ | ⟨x, l, c, zs, hcs, _, hl, hm, hz, _, hcell, hwz⟩
  · simp at hcs
    exact ⟨none, 0, 0, [], hcs, .inl ⟨rfl, rfl, rfl, rfl⟩⟩
  · simp at hcs
    exact ⟨some x, l, c, zs, hcs, .inr ⟨_, rfl, hl, hm, by simpa using hz, hcell, hwz⟩⟩
set_option maxRecDepth 100000 in
theorem cameRows {H : Type} {enc : TypeId × Value → H} {W : World} {fuel len cap : Nat} {a : Option Addr} {x : DataW H × List MemPlace} (h : DataW.trod enc Tryd.prog W 0 (fun _ => true) true fuel 67 [.slice a len cap] = some x) :
    ∃ es : Nat → CE, CRow W W.heap.size a len es ∧ len ≤ cap ∧ cap ≤ 9223372036854775807 := by
  rcases Deep.open_slice Tryd.underlying67 h with ⟨hcs, _⟩ | ⟨ad, l, c, m, n, D, Pl, hcs, _, hl, hm, hmm, _, hx⟩
  · simp at hcs
    obtain ⟨rfl, rfl, rfl⟩ := hcs
    exact ⟨fun _ => default, ⟨fun h => absurd h (by omega), fun i hi => absurd hi (by omega)⟩, by omega, by omega⟩
  · simp at hcs
    obtain ⟨rfl, rfl, rfl⟩ := hcs
    have hlm : len ≤ m := by rw [hmm]; simp; exact hl
    have each : ∀ i, i < len → ∃ e : CE, (∀ j u, e.cells[j]? = some u → W.cell? (ad.add (i * 4 + j)) = some u) ∧ e.ok W W.heap.size := by
      intro i hi
      obtain ⟨cs', h1, h2⟩ := hx i (by omega)
      rw [cellsCame] at h1
      obtain ⟨_, hlen, hcell⟩ := World.cells?_some h1
      obtain ⟨xs, k, hk, hxy, _, hxl, hf⟩ := DataW.trod_struct Tryd.underlying78 h2
      match xs, hxl, cs', hlen with
      | [y0, y1, y2, y3], _, [v0, v1, v2, v3], _ =>
        have g0 := hf 0 _ rfl
        have g1 := hf 1 _ rfl
        have g2 := hf 2 _ rfl
        have g3 := hf 3 _ rfl
        simp [cellsB, cellsI, cellsSI, cellsSB] at g0 g1 g2 g3
        obtain ⟨b, e0, _⟩ := DataW.trod_bool Tryd.underlying4 g0
        obtain ⟨z, e1, _, _⟩ := DataW.trod_int Tryd.underlying3 g1
        obtain ⟨aA, aL, aC, zs, e2, ca⟩ := cameInts g2
        obtain ⟨rA, rL, rC, bs, e3, cr⟩ := cameBytes g3
        simp at e0 e1
        obtain ⟨ys, ra, _, al, ac, _⟩ := came64 ca
        obtain ⟨bb, rb, rb2, rl, rc, rn⟩ := came8 cr
        refine ⟨⟨b, z, aA, aL, aC, rA, rL, rC, ys, bb⟩, fun j u hu => ?_, ⟨ra, Nat.le_trans al ac, rb, rb2, rl, rc, rn⟩⟩
        subst e0 e1 e2 e3
        have hj : j < 4 := by
          have := (Array.getElem?_eq_some_iff.1 hu).1
          simpa [CE.cells] using this
        have hcj := hcell j hj
        rw [Deep.add_add] at hcj
        rw [hcj]
        have h4 : j = 0 ∨ j = 1 ∨ j = 2 ∨ j = 3 := by omega
        rcases h4 with rfl | rfl | rfl | rfl <;> simpa [CE.cells] using hu
    obtain ⟨q, hq⟩ := Deep.choose_lt each
    refine ⟨q, ⟨fun hn => ?_, fun i hi => (hq i hi).2⟩, hl, by unfold maxLen at hm; omega⟩
    obtain ⟨b, off, spot⟩ := ad
    have hc := (hq 0 hn).1 0 _ rfl
    have hspot : spot = none := by simpa [Addr.add] using World.cell?_spot hc
    subst hspot
    have e : ∀ i, (⟨b, off, none⟩ : Addr).add i = ⟨b, off + i, none⟩ := fun i => Addr.add_lit ..
    rw [e] at hc
    refine ⟨b, off, rfl, World.block_lt_of_cell? W _ hc, fun i hi j u hu => ?_⟩
    have h1 := (hq i hi).1 j u hu
    rw [e] at h1
    rw [show off + 4 * i + j = off + (i * 4 + j) by omega]
    exact h1
end Go.Proofs.YtcmoedhpedlalaaDoor

namespace Go.Proofs.YtcmoedhpedlalaaDoor
open Go.RowKit Go.WideShapes Go.ChangeShapes
set_option maxRecDepth 100000
set_option linter.unusedVariables false

theorem cellsCame7 : Tryd.prog.cellsOf 37 = 5 := by kernel_rfl
set_option maxRecDepth 100000 in
theorem cameRows7 {H : Type} {enc : TypeId × Value → H} {W : World} {fuel len cap : Nat} {a : Option Addr} {x : DataW H × List MemPlace} (h : DataW.trod enc Tryd.prog W 0 (fun _ => true) true fuel 23 [.slice a len cap] = some x) :
    ∃ es : Nat → CH7, CH7Row W W.heap.size a len es ∧ len ≤ cap ∧ cap ≤ 9223372036854775807 := by
  rcases Deep.open_slice Tryd.underlying23 h with ⟨hcs, _⟩ | ⟨ad, l, c, m, n, D, Pl, hcs, _, hl, hm, hmm, _, hx⟩
  · simp at hcs
    obtain ⟨rfl, rfl, rfl⟩ := hcs
    exact ⟨fun _ => default, ⟨fun h => absurd h (by omega), fun i hi => absurd hi (by omega)⟩, by omega, by omega⟩
  · simp at hcs
    obtain ⟨rfl, rfl, rfl⟩ := hcs
    have hlm : len ≤ m := by rw [hmm]; simp; exact hl
    have each : ∀ i, i < len → ∃ e : CH7, (∀ j u, e.cells[j]? = some u → W.cell? (ad.add (i * 5 + j)) = some u) ∧ e.ok W W.heap.size := by
      intro i hi
      obtain ⟨cs', h1, h2⟩ := hx i (by omega)
      rw [cellsCame7] at h1
      obtain ⟨_, hlen, hcell⟩ := World.cells?_some h1
      obtain ⟨xs, k, hk, hxy, _, hxl, hf⟩ := DataW.trod_struct Tryd.underlying37 h2
      match xs, hxl, cs', hlen with
      | [y0, y1, y2, y3, y4], _, [v0, v1, v2, v3, v4], _ =>
        have g0 := hf 0 _ rfl
        have g1 := hf 1 _ rfl
        have g2 := hf 2 _ rfl
        have g3 := hf 3 _ rfl
        have g4 := hf 4 _ rfl
        simp [cellsB, cellsI, cellsSI, cellsSB] at g0 g1 g2 g3 g4
        obtain ⟨b, e0, _⟩ := DataW.trod_bool Tryd.underlying4 g0
        obtain ⟨z, e1, _, hz1⟩ := DataW.trod_int Tryd.underlying3 g1
        obtain ⟨z4, e4, _, hz4⟩ := DataW.trod_int Tryd.underlying3 g4
        obtain ⟨aA, aL, aC, zs, e2, ca⟩ := cameInts g2
        obtain ⟨rA, rL, rC, bs, e3, cr⟩ := cameBytes g3
        simp at e0 e1 e4
        have HZ1 : -9223372036854775808 ≤ z ∧ z ≤ 9223372036854775807 := wf_i64 hz1
        have HZ4 : -9223372036854775808 ≤ z4 ∧ z4 ≤ 9223372036854775807 := wf_i64 hz4
        obtain ⟨ys, ra, _, al, ac, _⟩ := came64 ca
        obtain ⟨bb, rb, rb2, rl, rc, rn⟩ := came8 cr
        refine ⟨⟨b, z, aA, aL, aC, rA, rL, rC, ys, z4, bb⟩, fun j u hu => ?_, ⟨ra, Nat.le_trans al ac, rb, rb2, rl, rc, rn, HZ1, HZ4⟩⟩
        subst e0 e1 e2 e3 e4
        have hj : j < 5 := by
          have := (Array.getElem?_eq_some_iff.1 hu).1
          simpa [CH7.cells] using this
        have hcj := hcell j hj
        rw [Deep.add_add] at hcj
        rw [hcj]
        have h4 : j = 0 ∨ j = 1 ∨ j = 2 ∨ j = 3 ∨ j = 4 := by omega
        rcases h4 with rfl | rfl | rfl | rfl | rfl <;> simpa [CH7.cells] using hu
    obtain ⟨q, hq⟩ := Deep.choose_lt each
    refine ⟨q, ⟨fun hn => ?_, fun i hi => (hq i hi).2⟩, hl, by unfold maxLen at hm; omega⟩
    obtain ⟨b, off, spot⟩ := ad
    have hc := (hq 0 hn).1 0 _ rfl
    have hspot : spot = none := by simpa [Addr.add] using World.cell?_spot hc
    subst hspot
    have e : ∀ i, (⟨b, off, none⟩ : Addr).add i = ⟨b, off + i, none⟩ := fun i => Addr.add_lit ..
    rw [e] at hc
    refine ⟨b, off, rfl, World.block_lt_of_cell? W _ hc, fun i hi j u hu => ?_⟩
    have h1 := (hq i hi).1 j u hu
    rw [e] at h1
    rw [show off + 5 * i + j = off + (i * 5 + j) by omega]
    exact h1
theorem hi_lt : ∀ b ∈ [104, 105], b < 256 := by decide
theorem str_hi : ((str [104, 105]).toList == [104, 105]) = true := by decide +kernel
set_option maxHeartbeats 1000000 in
/-- The statements' first test. -/
theorem readsC (w : World) (hT : Taps w) : Calls Tryd.prog 14 #[] w fun e w' => e = .returned (.bool true) ∧ Below w.heap.size w w' := by
  have kc := fun (w : World) (C : Array Value) (n c : Nat) => Lib.run_convert_bytes_const (P := Tryd.prog) w 22 5 C n c Tryd.underlying22 Tryd.underlying5
  have CN := Lib.hid (hNew 2 w (by omega))
  have CX := Lib.hid (fun W => hNewNo 65 W (by omega))
  have HV : Hid ((vm [104, 105] 2).length = 54) := vm_length [104, 105] 2
  have HB := Lib.hid (vm_bit [104, 105] 2)
  have HR : Hid (rdx 48 (anew 2 [] 2 ++ [(2, vm [104, 105] 2)]) 2 (vm [104, 105] 2) = some [104, 105]) := rdx_whole [104, 105] hi_lt 2 48 (vm [104, 105] 2) (by omega) rfl
  have CV := Lib.hid (fun W => refVer17 _ 2 2 2 [104, 105] _ (rd_block W 5 #[.int .u8 104, .int .u8 105] (2, 3) (U8 [104, 105]) 2 rfl rfl) hi_lt (by simp) (by omega) (by omega))
  have hs := hT.pos
  have CO : Hid (∀ (w0 : World) (b c : Nat) (p : List Nat), PrS w0 (fun k => k = w.heap.size) w.heap.size 2 [] false → Rd w0 w0.heap.size (some ⟨b, 0, none⟩) 54 (U8 p) → (∀ x ∈ p, x ≤ 1) → w.heap.size < b → b < w0.heap.size → Taps w0 → Calls Tryd.prog 13 #[.pointer (some ⟨w.heap.size, 0, none⟩), .int .i64 2, .int .i64 2, .slice (some ⟨b, 0, none⟩) 54 c] w0 (OffO w0 (fun k => k = w.heap.size) w.heap.size 2 (anew 2 [] 2 ++ [(2, p)]) (rdx 48 (anew 2 [] 2 ++ [(2, p)]) 2 p))) :=
    fun w0 b c p h1 h2 h3 h4 h5 h6 => offerC w0 (fun k => k = w.heap.size) w.heap.size 2 2 48 54 2 c b 0 [] p h1 (by omega) rfl rfl (by omega) h2 h3 (fun h => by omega) h5 (fun h => by omega) h6
  generalize vm [104, 105] 2 = V at *
  generalize hrow : anew 2 [] 2 ++ [(2, V)] = row at *
  have HRow := Lib.hid hrow
  clear hrow
  generalize hr : rdx 48 row 2 V = r at *
  have Hr := Lib.hid hr
  clear hr
  go_enter Tryd.func14, Tryd.ntmps14
  go_upto_region 2 with (go_at_call 18; refine CN.out.mono ?_; rintro e w1 ⟨rfl, p1, b1⟩)
  have bel : Below w1.heap.size w1 (w1.alloc (.cells #[.int .u8 104, .int .u8 105] 5 (2, 3))) := (Below.refl _ _).alloc (Nat.le_refl _) _
  have p2 := p1.after bel
  have hs2 := bel.size
  go_upto_region 3 with (first
    | (go_at_call 22; refine (CV.out w1).mono ?_; rintro e w3 ⟨A3, n3, c3, rfl, own3, b3⟩; obtain rfl : n3 = 54 := (by rw [own3.rd.len8, HV.out]); obtain ⟨g3, rfl, hg1, hg2⟩ := own3.at0 (by omega); have p3 := p2.after b3; have bw3 := Below.then_ b1 (Below.then_ bel b3))
    | (go_at_call 13; refine (CO.out w3 g3 c3 V p3 own3.rd HB.out (by have := p1.lt _ rfl; omega) hg2 (hT.after bw3)).mono ?_; rw [HRow.out, Hr.out, HR.out]; rintro e w4 ⟨⟨P4, hP4, p4⟩, kr4, ho⟩; rcases ho with ⟨m, hm, A5, k5, c5, rfl, own5⟩ | ⟨hx, _⟩; rotate_left; cases hx; injection hm with hm; subst hm))
  have bw4 := bw3.trans (kr4.below (fun k hk => by rw [hk]; exact Nat.le_refl _) bw3.size)
  have CDn : Hid (Calls Tryd.prog 15 #[.pointer (some ⟨w.heap.size, 0, none⟩)] w4 fun e w' => e = .returned (.bool true) ∧ w4 = w') := hDone w4 _ _ _ _ _ p4
  have kcv := own5.conv w4 (Below.refl _ _)
  have hst := str_hi
  generalize str [104, 105] = s0 at *
  clear own5 own3 p1 p2 p3 p4 CO CV CN kc
  go_wp2_with (first | (go_at_call 18; refine (CX.out _).mono ?_; rintro e w' ⟨rfl, rfl⟩) | (go_at_call 15; refine CDn.out.mono ?_; rintro e w' ⟨rfl, rfl⟩))
  go_ret
  exact ⟨rfl, bw4⟩
end Go.Proofs.YtcmoedhpedlalaaDoor

namespace Go.Proofs.YtcmoedhpedlalaaDoor
open Go.RowKit
set_option maxRecDepth 100000
set_option linter.unusedVariables false
set_option linter.unusedSimpArgs false

theorem infoCame7 : (Tryd.prog.info? 37).map (·.size) = some 5 := by kernel_rfl
/-- An index into a row of what came. -/
theorem idxCame7 (b off n c i : Nat) (hi : i < n) (W : World) : (Instr.indexAt 23 (.slice (some ⟨b, off, none⟩) n c) (.int .i64 (i : Int))).run Tryd.prog W = .ok (.pointer (some ⟨b, off + 5 * i, none⟩)) W :=
  run_idxR (P := Tryd.prog) (sz := 5) Tryd.underlying23 (by kernel_rfl) b off n c i hi .i64 W
theorem CH7.ok.up {w : World} {B B' : Nat} {e : CH7} (h : e.ok w B) (hB : B ≤ B') : e.ok w B' := ⟨h.at_.up hB, h.ab, h.raw.up hB, h.r256, h.rc, h.rc2, h.rnone, h.vin, h.nin⟩
/-- A made version, as a row of its own. -/
theorem made_at {w w1 : World} {A : Option Addr} {n c T : Nat} {p : List Nat} (own : Own w1 w.heap.size 5 A n c (U8 p)) (hp : p.length = T) (hT : 0 < T) : ∃ g, A = some ⟨g, 0, none⟩ ∧ n = T ∧ w.heap.size ≤ g ∧ g < w1.heap.size := by
  have h := own.rd.len8
  obtain ⟨g, e, h1, h2⟩ := own.at0 (by omega)
  exact ⟨g, e, by omega, h1, h2⟩
set_option maxHeartbeats 1000000 in
/-- HarqAlone. -/
theorem walkAlone7 (A A1 : Option Addr) (n0 c0 n1 c1 : Nat) (bs : List Nat) (es : Nat → CH7) (v0 : Int) (w : World) (hr : Rd w w.heap.size A n0 (U8 bs)) (hb : ∀ b ∈ bs, b < 256) (hnc : n0 ≤ c0) (hc0 : c0 ≤ 9223372036854775807) (hnone : A = none → n0 = 0 ∧ c0 = 0) (hR : CH7Row w w.heap.size A1 n1 es) (hn1 : n1 ≤ 9223372036854775807) (hT : Taps w) :
    Calls Tryd.prog 4 #[.slice A n0 c0, .slice A1 n1 c1, .int .i64 v0] w fun e w' => e = .returned (.bool true) ∧ Below w.heap.size w w' := by
  obtain ⟨n, hk, hk2, hk3⟩ := min_if n0 8
  obtain ⟨hm1, hm2⟩ := hk3 8 rfl
  clear hk3
  have r0 := hr.cut8 n hk2
  have HB := Lib.hid (take256 hb n)
  have hnc2 : n ≤ c0 := by omega
  have HNO : Hid (A = none → n = 0 ∧ c0 = 0) := fun h => by have := hnone h; omega
  have HL : Hid (n = (bs.take n).length) := r0.len8
  generalize bs.take n = m at *
  have hs := hT.pos
  clear hr hb hnone
  have CN := Lib.hid (hNew n w (by omega))
  have CR := Lib.hid (fun (W : World) (h : Below w.heap.size w W) => readsC W (hT.after h))
  obtain ⟨N, hN⟩ : ∃ N, N = 8 * (n + 4) := ⟨_, rfl⟩
  obtain ⟨T, hTT⟩ : ∃ T, T = N + 6 := ⟨_, rfl⟩
  have HN := Lib.hid hN
  have HT := Lib.hid hTT
  have HNm : Hid (N = 8 * (m.length + 4)) := by unfold Hid; rw [← HL.out]; exact hN
  have hT1 : 0 < T := by omega
  have hT2 : T ≤ 200 := by omega
  have CO : Hid (∀ (w0 : World) (v : Nat) (row : List (Nat × List Nat)) (P : Nat → Prop) (b c : Nat) (p : List Nat), v < 4 → PrS w0 P w.heap.size n row false → Rd w0 w0.heap.size (some ⟨b, 0, none⟩) T (U8 p) → (∀ x ∈ p, x ≤ 1) → ¬ P b → b < w0.heap.size → ¬ P 0 → Taps w0 → Calls Tryd.prog 13 #[.pointer (some ⟨w.heap.size, 0, none⟩), .int .i64 (n : Int), .int .i64 (v : Int), .slice (some ⟨b, 0, none⟩) T c] w0 (OffO w0 P w.heap.size n (anew n row n ++ [(v, p)]) (rdx N (anew n row n ++ [(v, p)]) v p))) :=
    fun w0 v row P b c p h0 h1 h2 h3 h4 h5 h6 h7 => offerC w0 P w.heap.size n n N T v c b 0 row p h1 (by omega) hN hTT h0 h2 h3 h4 h5 h6 h7
  clear hN hTT
  go_enter Tryd.func4, Tryd.ntmps4
  go_upto_region 5 with (first | (go_at_call 18; refine CN.out.mono ?_; rintro e w1 ⟨rfl, p1, b1⟩) | (go_at_call 14; refine (CR.out w1 b1).mono ?_; rintro e w2 ⟨rfl, b2⟩))
  have p2 := p1.after b2
  have bw2 := Below.then_ b1 b2
  clear p1 b1 b2 CN CR hm1 hm2
  go_wp2
  go_loopw [9] (fun x wr => ∃ i : Nat, i ≤ n1 ∧ i ≤ 6 ∧ x = .int .i64 i ∧ ∃ (row : List (Nat × List Nat)) (P : Nat → Prop), PrS wr P w.heap.size n row false ∧ (∀ k, P k → w.heap.size ≤ k) ∧ Below w.heap.size w wr) (fun x _ => 6 - (intOf x).toNat)
  case atStart => exact ⟨0, by omega, by omega, rfl, [], _, p2, (fun k hk => by rw [hk]; exact Nat.le_refl _), bw2⟩
  case round =>
    clear p2 bw2
    obtain ⟨i, hi1, hi2, rfl, row, P, pr, hP, bw⟩ := hrel
    have hTr := hT.after bw
    have rm : Rd wr wr.heap.size A n (U8 m) := (r0.below bw).up bw.size
    by_cases hlt : i < n1 ∧ i < 6
    · obtain ⟨hlt1, hlt2⟩ := hlt
      have hRr := hR.below bw
      obtain ⟨b, off, hA1, hb, hcell⟩ := hRr.at_ (by omega)
      subst hA1
      have hok := (hRr.ok i hlt1).up bw.size
      have ic := idxCame7 b off n1 c1 i hlt1
      have kv : wr.cell? ⟨b, off + 5 * i + 1, none⟩ = some (.int .i64 (es i).v) := hcell i hlt1 1 _ rfl
      have HRA : Hid (wr.rangeAt b (off + 5 * i) (es i).cells.toList) := fun j u hu => hcell i hlt1 j u (by rw [← Array.getElem?_toList]; exact hu)
      have iE : Hid ((Tryd.prog.info? 37).map (·.size) = some (es i).cells.size) := infoCame7
      obtain ⟨uu, hu, hu2⟩ := wrap_u64 (es i).v
      obtain ⟨v, hv, hv2⟩ : ∃ v : Nat, v < 4 ∧ (uu : Int) % 4 = (v : Int) := ⟨uu % 4, by omega, by omega⟩
      have CB := Lib.hid (bodyC (es i) A n c0 v m wr hok rm HB.out HNO.out (by omega) hv)
      have HPL : Hid ((bd m v (es i)).length = T) := by unfold Hid; rw [bd_length, ← HL.out, HT.out, HN.out]
      have HPB := Lib.hid (bd_bit m v (es i))
      have d1 : decide ((i : Int) < (n1 : Int)) = true := by simp; omega
      have d2 : decide ((i : Int) < 6) = true := by simp; omega
      clear hcell hok
      generalize (es i).cells = E at *
      generalize (es i).v = z at *
      generalize bd m v (es i) = p at *
      go_upto_region 9 with fail
      go_wp2_with (refine at_load_mid rfl 37 _ rfl b (off + 5 * i) rfl E _ HRA.out Tryd.underlying37 rfl iE.out ?_)
      refine CB.out.mono ?_
      rintro e w9 ⟨A9, n9, c9, rfl, own9, b9⟩
      obtain ⟨g9, rfl, hn9, hg9, hg9l⟩ := made_at own9 HPL.out hT1
      have hn9' := Lib.hid hn9
      have r9 : Rd w9 w9.heap.size (some ⟨g9, 0, none⟩) T (U8 p) := by rw [← hn9]; exact own9.rd
      have bw9 := Below.then_ bw b9
      have K := Lib.hid (CO.out w9 v row P g9 c9 p hv (pr.after b9) r9 HPB.out (fun h => by have := pr.lt _ h; omega) hg9l (fun h => by have := hP _ h; omega) (hT.after bw9))
      obtain rfl : n9 = T := hn9'.out
      have HRL := Lib.hid (fun x (h : rdx N (anew n row n ++ [(v, p)]) v p = some x) => rdx_len h HN.out)
      clear own9 b9 CB r9 hn9 kv
      generalize rdx N (anew n row n ++ [(v, p)]) v p = rr at *
      generalize anew n row n ++ [(v, p)] = row' at *
      go_wp2_with fail
      refine K.out.mono ?_
      rintro e w10 ⟨⟨P10, hP10, p10⟩, kr10, ho⟩
      have bw10 := bw9.trans (kr10.below hP bw9.size)
      rcases ho with ⟨mm, hmm, A5, k5, c5, rfl, own5⟩ | ⟨hmm, rfl⟩
      · rw [hmm] at p10
        have hk5 : k5 = n := by rw [own5.rd.len8]; exact HRL.out mm hmm
        have CD : Hid (Calls Tryd.prog 15 #[.pointer (some ⟨w.heap.size, 0, none⟩)] w10 fun e w' => e = .returned (.bool true) ∧ w10 = w') := hDone w10 _ _ _ _ _ p10
        subst hk5
        have t0 : ((k5 : Int) == (k5 : Int)) = true := by simp
        clear own5 hmm p10 kr10
        go_wp2_with (go_at_call 15; refine CD.out.mono ?_; rintro e w' ⟨rfl, rfl⟩)
        go_ret
        exact ⟨rfl, bw10⟩
      · rw [hmm] at p10
        clear hmm kr10
        go_wp2
        go_roundw
        case rel => exact ⟨i + 1, by omega, by omega, by go_num, row', P10, p10, (fun k hk => (hP10 k hk).elim (hP k) (fun h => Nat.le_trans bw9.size h)), bw10⟩
        case measure => simp [intOf] <;> omega
    · obtain ⟨uu, hu, hu2⟩ := wrap_u64 v0
      obtain ⟨v, hv, hv2⟩ : ∃ v : Nat, v < 4 ∧ (uu : Int) % 4 = (v : Int) := ⟨uu % 4, by omega, by omega⟩
      have CV := Lib.hid (refVer17 A n c0 v m wr rm HB.out HNO.out (by omega) hv)
      have HPL : Hid ((vm m v).length = T) := by unfold Hid; rw [vm_length, ← HL.out, HT.out, HN.out]
      have HPB := Lib.hid (vm_bit m v)
      have HX := Lib.hid (rdx_vm m HB.out v (anew n row n ++ [(v, vm m v)]))
      rw [← HNm.out] at HX
      have HRL := Lib.hid (fun x (h : rdx N (anew n row n ++ [(v, vm m v)]) v (vm m v) = some x) => rdx_len h HN.out)
      generalize vm m v = p at *
      by_cases ha : i < n1
      · have d1 : decide ((i : Int) < (n1 : Int)) = true := by simp; omega
        have d2 : decide ((i : Int) < 6) = false := by simp; omega
        clear hlt
        go_wp2_with fail
        refine CV.out.mono ?_
        rintro e w9 ⟨A9, n9, c9, rfl, own9, b9⟩
        obtain ⟨g9, rfl, hn9, hg9, hg9l⟩ := made_at own9 HPL.out hT1
        have hn9' := Lib.hid hn9
        have r9 : Rd w9 w9.heap.size (some ⟨g9, 0, none⟩) T (U8 p) := by rw [← hn9]; exact own9.rd
        have bw9 := Below.then_ bw b9
        have K := Lib.hid (CO.out w9 v row P g9 c9 p hv (pr.after b9) r9 HPB.out (fun h => by have := pr.lt _ h; omega) hg9l (fun h => by have := hP _ h; omega) (hT.after bw9))
        obtain rfl : n9 = T := hn9'.out
        clear own9 b9 CV r9 hn9
        generalize rdx N (anew n row n ++ [(v, p)]) v p = rr at *
        generalize anew n row n ++ [(v, p)] = row' at *
        go_wp2_with fail
        refine K.out.mono ?_
        rintro e w10 ⟨⟨P10, hP10, p10⟩, kr10, ho⟩
        have bw10 := bw9.trans (kr10.below hP bw9.size)
        rcases ho with ⟨mm, hmm, A5, k5, c5, rfl, own5⟩ | ⟨hmm, rfl⟩
        · rw [hmm] at p10
          have hk5 : k5 = n := by rw [own5.rd.len8]; exact HRL.out mm hmm
          have CD : Hid (Calls Tryd.prog 15 #[.pointer (some ⟨w.heap.size, 0, none⟩)] w10 fun e w' => e = .returned (.bool true) ∧ w10 = w') := hDone w10 _ _ _ _ _ p10
          subst hk5
          have t0 : ((k5 : Int) == (k5 : Int)) = true := by simp
          clear own5 hmm p10 kr10
          go_wp2_with (go_at_call 15; refine CD.out.mono ?_; rintro e w' ⟨rfl, rfl⟩)
          go_ret
          exact ⟨rfl, bw10⟩
        · obtain ⟨x, hx⟩ := HX.out
          rw [hmm] at hx
          cases hx
      · have d1 : decide ((i : Int) < (n1 : Int)) = false := by simp; omega
        clear hlt
        go_wp2_with fail
        refine CV.out.mono ?_
        rintro e w9 ⟨A9, n9, c9, rfl, own9, b9⟩
        obtain ⟨g9, rfl, hn9, hg9, hg9l⟩ := made_at own9 HPL.out hT1
        have hn9' := Lib.hid hn9
        have r9 : Rd w9 w9.heap.size (some ⟨g9, 0, none⟩) T (U8 p) := by rw [← hn9]; exact own9.rd
        have bw9 := Below.then_ bw b9
        have K := Lib.hid (CO.out w9 v row P g9 c9 p hv (pr.after b9) r9 HPB.out (fun h => by have := pr.lt _ h; omega) hg9l (fun h => by have := hP _ h; omega) (hT.after bw9))
        obtain rfl : n9 = T := hn9'.out
        clear own9 b9 CV r9 hn9
        generalize rdx N (anew n row n ++ [(v, p)]) v p = rr at *
        generalize anew n row n ++ [(v, p)] = row' at *
        go_wp2_with fail
        refine K.out.mono ?_
        rintro e w10 ⟨⟨P10, hP10, p10⟩, kr10, ho⟩
        have bw10 := bw9.trans (kr10.below hP bw9.size)
        rcases ho with ⟨mm, hmm, A5, k5, c5, rfl, own5⟩ | ⟨hmm, rfl⟩
        · rw [hmm] at p10
          have hk5 : k5 = n := by rw [own5.rd.len8]; exact HRL.out mm hmm
          have CD : Hid (Calls Tryd.prog 15 #[.pointer (some ⟨w.heap.size, 0, none⟩)] w10 fun e w' => e = .returned (.bool true) ∧ w10 = w') := hDone w10 _ _ _ _ _ p10
          subst hk5
          have t0 : ((k5 : Int) == (k5 : Int)) = true := by simp
          clear own5 hmm p10 kr10
          go_wp2_with (go_at_call 15; refine CD.out.mono ?_; rintro e w' ⟨rfl, rfl⟩)
          go_ret
          exact ⟨rfl, bw10⟩
        · obtain ⟨x, hx⟩ := HX.out
          rw [hmm] at hx
          cases hx
end Go.Proofs.YtcmoedhpedlalaaDoor

namespace Go.Proofs.YtcmoedhpedlalaaDoor
open Go.RowKit
set_option maxRecDepth 100000
set_option linter.unusedVariables false
set_option linter.unusedSimpArgs false

/-- What is behind a call: the length, the row, whether it was read; the error, the message. -/
structure Nx where
  n : Nat
  row : List (Nat × List Nat)
  d : Bool
  g : Int
  s : List Nat
/-- What an offer leads to. -/
noncomputable def nxt (n0 : Nat) (row : List (Nat × List Nat)) (d : Bool) (n v : Int) (k : Nat) (bs : List Nat) : Nx :=
  if d = true then ⟨n0, row, true, 10, []⟩
  else if lookX n v k bs ≠ 0 then ⟨n0, row, false, lookX n v k bs, []⟩
  else match rdx (8 * (n.toNat + 4)) (anew n0 row n.toNat ++ [(v.toNat, bs)]) v.toNat bs with
    | some m => ⟨n.toNat, anew n0 row n.toNat ++ [(v.toNat, bs)], true, 0, m⟩
    | none => ⟨n.toNat, anew n0 row n.toNat ++ [(v.toNat, bs)], false, 12, []⟩
theorem look_zero {n v : Int} {k : Nat} {bs : List Nat} (h : lookX n v k bs = 0) : (0 ≤ n ∧ n ≤ 64) ∧ (0 ≤ v ∧ v < 4) ∧ Bm.isB bs = true ∧ (k : Int) = 8 * (n + 4) + 6 := by
  unfold lookX at h
  by_cases h1 : 0 ≤ n ∧ n ≤ 64
  · rw [if_neg (by omega)] at h
    by_cases h2 : v < 0 ∨ 4 ≤ v
    · rw [if_pos h2] at h; cases h
    · rw [if_neg h2] at h
      cases h3 : Bm.isB bs with
      | false => rw [h3, if_pos rfl] at h; cases h
      | true =>
        rw [h3, if_neg (by simp)] at h
        by_cases h4 : (k : Int) ≠ 8 * (n + 4) + 6
        · rw [if_pos h4] at h; cases h
        · exact ⟨h1, by omega, rfl, by omega⟩
  · rw [if_pos h1] at h; cases h
theorem anew_le (n0 : Nat) (row : List (Nat × List Nat)) (n : Nat) : (anew n0 row n).length ≤ 15 := by
  unfold anew
  split
  · simp
  · omega
theorem nxt_len (n0 : Nat) (row : List (Nat × List Nat)) (d : Bool) (n v : Int) (k : Nat) (bs : List Nat) (h : row.length ≤ 16) : (nxt n0 row d n v k bs).row.length ≤ 16 := by
  have := anew_le n0 row n.toNat
  unfold nxt
  split
  · exact h
  · split
    · exact h
    · split <;> · show (anew n0 row n.toNat ++ [_]).length ≤ 16; rw [List.length_append]; simp; omega
theorem Rd.krA {w w' : World} {P : Nat → Prop} {A : Option Addr} {n : Nat} {xs : List Value} (h : Rd w w.heap.size A n xs) (hk : Kr w w' P) (hA : ∀ b off, A = some ⟨b, off, none⟩ → ¬ P b) : Rd w' w'.heap.size A n xs :=
  ⟨h.len, fun hn => by
    obtain ⟨b, off, e, hlt, hc⟩ := h.at_ hn
    exact ⟨b, off, e, by have := hk.size; omega, fun i u hu => (cell_of_heap (hk.block b hlt (hA b off e)) (off + i)).trans (hc i u hu)⟩⟩
theorem rd_nil (w : World) : Rd w w.heap.size none 0 (U8 []) := ⟨rfl, fun h => absurd h (by omega)⟩
/-- Offer. -/
theorem offerN (w : World) (P : Nat → Prop) (gP n0 : Nat) (row : List (Nat × List Nat)) (d : Bool) (n v : Int) (A : Option Addr) (k c : Nat) (bs : List Nat) (h : PrS w P gP n0 row d) (hr : Rd w w.heap.size A k (U8 bs)) (hb : ∀ b ∈ bs, b < 256) (hk : k ≤ 65536) (hA : ∀ b off, A = some ⟨b, off, none⟩ → ¬ P b) (h0 : ¬ P 0) (hT : Taps w) :
    Calls Tryd.prog 13 #[.pointer (some ⟨gP, 0, none⟩), .int .i64 n, .int .i64 v, .slice A k c] w fun e w' => (∃ A' k' c', e = .returned (.tuple #[.slice A' k' c', .int .i64 (nxt n0 row d n v k bs).g]) ∧ Rd w' w'.heap.size A' k' (U8 (nxt n0 row d n v k bs).s) ∧ (A' = none → k' = 0) ∧ (∀ b off, A' = some ⟨b, off, none⟩ → w.heap.size ≤ b)) ∧ (∃ P' : Nat → Prop, (∀ k, P' k → P k ∨ w.heap.size ≤ k) ∧ PrS w' P' gP (nxt n0 row d n v k bs).n (nxt n0 row d n v k bs).row (nxt n0 row d n v k bs).d) ∧ Kr w w' P := by
  cases d with
  | true =>
    refine (offerOld w P gP n0 row n v A k c h).mono ?_
    rintro e w' ⟨rfl, rfl⟩
    have e1 : nxt n0 row true n v k bs = ⟨n0, row, true, 10, []⟩ := by unfold nxt; rw [if_pos rfl]
    rw [e1]
    exact ⟨⟨none, 0, 0, rfl, rd_nil _, fun _ => rfl, fun b off e => by cases e⟩, ⟨P, fun k hk => .inl hk, h⟩, Kr.of_below (Below.refl _ _)⟩
  | false =>
    by_cases hX : lookX n v k bs = 0
    · obtain ⟨⟨hn1, hn2⟩, ⟨hv1, hv2⟩, hB, hkk⟩ := look_zero hX
      obtain ⟨n', rfl⟩ : ∃ n' : Nat, n = (n' : Int) := ⟨n.toNat, by omega⟩
      obtain ⟨v', rfl⟩ : ∃ v' : Nat, v = (v' : Int) := ⟨v.toNat, by omega⟩
      obtain ⟨b, off, rfl, hlt, _⟩ := hr.cell8 0 (by omega)
      refine (offerC w P gP n0 n' (8 * (n' + 4)) k v' c b off row bs h (by omega) rfl (by omega) (by omega) hr (fun x hx => Bm.isB_true hB x hx) (hA b off rfl) hlt h0 hT).mono ?_
      rintro e w' ⟨⟨P', hP', p'⟩, kr, ho⟩
      have e1 : nxt n0 row false (n' : Int) (v' : Int) k bs = match rdx (8 * (n' + 4)) (anew n0 row n' ++ [(v', bs)]) v' bs with
        | some m => ⟨n', anew n0 row n' ++ [(v', bs)], true, 0, m⟩
        | none => ⟨n', anew n0 row n' ++ [(v', bs)], false, 12, []⟩ := by
        unfold nxt; rw [if_neg (by simp), if_neg (by simp [hX])]; rfl
      rw [e1]
      rcases ho with ⟨m, hm, A5, k5, c5, rfl, own5⟩ | ⟨hm, rfl⟩
      · rw [hm] at p' ⊢
        exact ⟨⟨A5, k5, c5, rfl, own5.rd, fun e => (own5.none_ e).1, fun b off e => (own5.block b (by rw [e]; rfl)).1⟩, ⟨P', hP', p'⟩, kr⟩
      · rw [hm] at p' ⊢
        exact ⟨⟨none, 0, 0, rfl, rd_nil _, fun _ => rfl, fun b off e => by cases e⟩, ⟨P', hP', p'⟩, kr⟩
    · refine (offerNo w P gP n0 row n v A k c bs h hr hb hk hX).mono ?_
      rintro e w' ⟨rfl, rfl⟩
      have e1 : nxt n0 row false n v k bs = ⟨n0, row, false, lookX n v k bs, []⟩ := by unfold nxt; rw [if_neg (by simp), if_pos hX]
      rw [e1]
      exact ⟨⟨none, 0, 0, rfl, rd_nil _, fun _ => rfl, fun b off e => by cases e⟩, ⟨P, fun k hk => .inl hk, h⟩, Kr.of_below (Below.refl _ _)⟩
/-- DocOffer. -/
theorem docN (w : World) (Q : Nat → Prop) (gQ n0 : Nat) (row : List (Nat × List Nat)) (d : Bool) (n v : Int) (A : Option Addr) (k c : Nat) (bs : List Nat) (h : QrS w Q gQ n0 row d) (hrl : row.length ≤ 16) (hr : Rd w w.heap.size A k (U8 bs)) (hb : ∀ b ∈ bs, b < 256) (hk : k ≤ 65536) (hA : ∀ b off, A = some ⟨b, off, none⟩ → ¬ Q b) :
    Calls Tryd.prog 21 #[.pointer (some ⟨gQ, 0, none⟩), .int .i64 n, .int .i64 v, .slice A k c] w fun e w' => (∃ A' k' c', e = .returned (.tuple #[.slice A' k' c', .int .i64 (nxt n0 row d n v k bs).g]) ∧ Rd w' w'.heap.size A' k' (U8 (nxt n0 row d n v k bs).s) ∧ (A' = none → k' = 0)) ∧ (∃ Q' : Nat → Prop, (∀ k, Q' k → Q k ∨ w.heap.size ≤ k) ∧ QrS w' Q' gQ (nxt n0 row d n v k bs).n (nxt n0 row d n v k bs).row (nxt n0 row d n v k bs).d) ∧ Kr w w' Q := by
  cases d with
  | true =>
    refine (docOld w Q gQ n0 row n v A k c h).mono ?_
    rintro e w' ⟨rfl, rfl⟩
    have e1 : nxt n0 row true n v k bs = ⟨n0, row, true, 10, []⟩ := by unfold nxt; rw [if_pos rfl]
    rw [e1]
    exact ⟨⟨none, 0, 0, rfl, rd_nil _, fun _ => rfl⟩, ⟨Q, fun k hk => .inl hk, h⟩, Kr.of_below (Below.refl _ _)⟩
  | false =>
    by_cases hX : lookX n v k bs = 0
    · obtain ⟨⟨hn1, hn2⟩, ⟨hv1, hv2⟩, hB, hkk⟩ := look_zero hX
      obtain ⟨n', rfl⟩ : ∃ n' : Nat, n = (n' : Int) := ⟨n.toNat, by omega⟩
      obtain ⟨v', rfl⟩ : ∃ v' : Nat, v = (v' : Int) := ⟨v.toNat, by omega⟩
      obtain ⟨b, off, rfl, hlt, _⟩ := hr.cell8 0 (by omega)
      refine (docC w Q gQ n0 n' (8 * (n' + 4)) k v' c b off row bs h hrl (by omega) rfl (by omega) (by omega) hr (fun x hx => Bm.isB_true hB x hx) (hA b off rfl) hlt).mono ?_
      rintro e w' ⟨⟨Q', hQ', p'⟩, kr, ho⟩
      have e1 : nxt n0 row false (n' : Int) (v' : Int) k bs = match rdx (8 * (n' + 4)) (anew n0 row n' ++ [(v', bs)]) v' bs with
        | some m => ⟨n', anew n0 row n' ++ [(v', bs)], true, 0, m⟩
        | none => ⟨n', anew n0 row n' ++ [(v', bs)], false, 12, []⟩ := by
        unfold nxt; rw [if_neg (by simp), if_neg (by simp [hX])]; rfl
      rw [e1]
      rcases ho with ⟨m, hm, A5, k5, c5, rfl, rd5, hno5⟩ | ⟨hm, rfl⟩
      · rw [hm] at p' ⊢
        exact ⟨⟨A5, k5, c5, rfl, rd5, hno5⟩, ⟨Q', hQ', p'⟩, kr⟩
      · rw [hm] at p' ⊢
        exact ⟨⟨none, 0, 0, rfl, rd_nil _, fun _ => rfl⟩, ⟨Q', hQ', p'⟩, kr⟩
    · refine (docNo w Q gQ n0 row n v A k c bs h hr hb hk hX).mono ?_
      rintro e w' ⟨rfl, rfl⟩
      have e1 : nxt n0 row false n v k bs = ⟨n0, row, false, lookX n v k bs, []⟩ := by unfold nxt; rw [if_neg (by simp), if_pos hX]
      rw [e1]
      exact ⟨⟨none, 0, 0, rfl, rd_nil _, fun _ => rfl⟩, ⟨Q, fun k hk => .inl hk, h⟩, Kr.of_below (Below.refl _ _)⟩
set_option maxHeartbeats 400000 in
theorem noneH (w : World) : Calls Tryd.prog 12 #[] w fun e w' => e = .returned (.pointer none) ∧ w = w' := by
  go_enter Tryd.func12, Tryd.ntmps12
  go_wp2
  go_ret
  exact ⟨rfl, rfl⟩
set_option maxHeartbeats 400000 in
theorem offerNil (w : World) : Calls Tryd.prog 13 #[.pointer none, .int .i64 0, .int .i64 0, .slice none 0 0] w fun e w' => e = .returned (.tuple #[.slice none 0 0, .int .i64 1]) ∧ w = w' := by
  go_enter Tryd.func13, Tryd.ntmps13
  go_wp2
  go_ret2
  exact ⟨rfl, rfl⟩
set_option maxHeartbeats 400000 in
theorem doneNil (w : World) : Calls Tryd.prog 15 #[.pointer none] w fun e w' => e = .returned (.bool true) ∧ w = w' := by
  go_enter Tryd.func15, Tryd.ntmps15
  go_wp2
  go_ret
  exact ⟨rfl, rfl⟩
set_option maxHeartbeats 400000 in
theorem cameNil (w : World) : Calls Tryd.prog 16 #[.pointer none] w fun e w' => e = .returned (.int .i64 0) ∧ w = w' := by
  go_enter Tryd.func16, Tryd.ntmps16
  go_wp2
  go_ret
  exact ⟨rfl, rfl⟩
set_option maxHeartbeats 400000 in
theorem lenNil (w : World) : Calls Tryd.prog 17 #[.pointer none] w fun e w' => e = .returned (.int .i64 0) ∧ w = w' := by
  go_enter Tryd.func17, Tryd.ntmps17
  go_wp2
  go_ret
  exact ⟨rfl, rfl⟩
theorem QrS.cells {w : World} {Q : Nat → Prop} {gQ n : Nat} {row : List (Nat × List Nat)} {d : Bool} (h : QrS w Q gQ n row d) : w.cell? ⟨gQ, 3, none⟩ = some (.bool d) ∧ w.cell? ⟨gQ, 2, none⟩ = some (.int .i64 ((row.length : Nat) : Int)) ∧ w.cell? ⟨gQ, 0, none⟩ = some (.int .i64 (n : Int)) := by
  obtain ⟨gR, gs, q, _⟩ := h
  exact ⟨q.cell 3, q.cell 2, q.cell 0⟩
end Go.Proofs.YtcmoedhpedlalaaDoor
