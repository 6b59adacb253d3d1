/-
  Layer 17: the statements' first test; rows of what came.
-/
import Derived.Test.YtcmoedhpedlalaaDoorHd
import Derived.Test.YtcmoedhpedlalaaDoorUe
import Derived.Lib.SlBytesConst
namespace Go.Proofs.YtcmoedhpedlalaaDoor
open Go.RowKit Go.WideShapes Go.ChangeShapes
set_option maxRecDepth 100000
set_option linter.unusedVariables false

theorem cellsCame7 : Tryd.prog.cellsOf 37 = 5 := by kernel_rfl
set_option maxRecDepth 100000 in
theorem cameRows7 {H : Type} {enc : TypeId × Value → H} {W : World} {fuel len cap : Nat} {a : Option Addr} {x : DataW H × List MemPlace} (h : DataW.trod enc Tryd.prog W 0 (fun _ => true) true fuel 23 [.slice a len cap] = some x) :
    ∃ es : Nat → CH7, CH7Row W W.heap.size a len es ∧ len ≤ cap ∧ cap ≤ 9223372036854775807 := by
  rcases Deep.open_slice Tryd.underlying23 h with ⟨hcs, _⟩ | ⟨ad, l, c, m, n, D, Pl, hcs, _, hl, hm, hmm, _, hx⟩
  · simp at hcs
    obtain ⟨rfl, rfl, rfl⟩ := hcs
    exact ⟨fun _ => default, ⟨fun h => absurd h (by omega), fun i hi => absurd hi (by omega)⟩, by omega, by omega⟩
  · simp at hcs
    obtain ⟨rfl, rfl, rfl⟩ := hcs
    have hlm : len ≤ m := by rw [hmm]; simp; exact hl
    have each : ∀ i, i < len → ∃ e : CH7, (∀ j u, e.cells[j]? = some u → W.cell? (ad.add (i * 5 + j)) = some u) ∧ e.ok W W.heap.size := by
      intro i hi
      obtain ⟨cs', h1, h2⟩ := hx i (by omega)
      rw [cellsCame7] at h1
      obtain ⟨_, hlen, hcell⟩ := World.cells?_some h1
      obtain ⟨xs, k, hk, hxy, _, hxl, hf⟩ := DataW.trod_struct Tryd.underlying37 h2
      match xs, hxl, cs', hlen with
      | [y0, y1, y2, y3, y4], _, [v0, v1, v2, v3, v4], _ =>
        have g0 := hf 0 _ rfl
        have g1 := hf 1 _ rfl
        have g2 := hf 2 _ rfl
        have g3 := hf 3 _ rfl
        have g4 := hf 4 _ rfl
        simp [cellsB, cellsI, cellsSI, cellsSB] at g0 g1 g2 g3 g4
        obtain ⟨b, e0, _⟩ := DataW.trod_bool Tryd.underlying4 g0
        obtain ⟨z, e1, _, hz1⟩ := DataW.trod_int Tryd.underlying3 g1
        obtain ⟨z4, e4, _, hz4⟩ := DataW.trod_int Tryd.underlying3 g4
        obtain ⟨aA, aL, aC, zs, e2, ca⟩ := cameInts g2
        obtain ⟨rA, rL, rC, bs, e3, cr⟩ := cameBytes g3
        simp at e0 e1 e4
        have HZ1 : -9223372036854775808 ≤ z ∧ z ≤ 9223372036854775807 := wf_i64 hz1
        have HZ4 : -9223372036854775808 ≤ z4 ∧ z4 ≤ 9223372036854775807 := wf_i64 hz4
        obtain ⟨ys, ra, _, al, ac, _⟩ := came64 ca
        obtain ⟨bb, rb, rb2, rl, rc, rn⟩ := came8 cr
        refine ⟨⟨b, z, aA, aL, aC, rA, rL, rC, ys, z4, bb⟩, fun j u hu => ?_, ⟨ra, Nat.le_trans al ac, rb, rb2, rl, rc, rn, HZ1, HZ4⟩⟩
        subst e0 e1 e2 e3 e4
        have hj : j < 5 := by
          have := (Array.getElem?_eq_some_iff.1 hu).1
          simpa [CH7.cells] using this
        have hcj := hcell j hj
        rw [Deep.add_add] at hcj
        rw [hcj]
        have h4 : j = 0 ∨ j = 1 ∨ j = 2 ∨ j = 3 ∨ j = 4 := by omega
        rcases h4 with rfl | rfl | rfl | rfl | rfl <;> simpa [CH7.cells] using hu
    obtain ⟨q, hq⟩ := Deep.choose_lt each
    refine ⟨q, ⟨fun hn => ?_, fun i hi => (hq i hi).2⟩, hl, by unfold maxLen at hm; omega⟩
    obtain ⟨b, off, spot⟩ := ad
    have hc := (hq 0 hn).1 0 _ rfl
    have hspot : spot = none := by simpa [Addr.add] using World.cell?_spot hc
    subst hspot
    have e : ∀ i, (⟨b, off, none⟩ : Addr).add i = ⟨b, off + i, none⟩ := fun i => Addr.add_lit ..
    rw [e] at hc
    refine ⟨b, off, rfl, World.block_lt_of_cell? W _ hc, fun i hi j u hu => ?_⟩
    have h1 := (hq i hi).1 j u hu
    rw [e] at h1
    rw [show off + 5 * i + j = off + (i * 5 + j) by omega]
    exact h1
theorem hi_lt : ∀ b ∈ [104, 105], b < 256 := by decide
theorem str_hi : ((str [104, 105]).toList == [104, 105]) = true := by decide +kernel
set_option maxHeartbeats 1000000 in
/-- The statements' first test. -/
theorem readsC (w : World) (hT : Taps w) : Calls Tryd.prog 14 #[] w fun e w' => e = .returned (.bool true) ∧ Below w.heap.size w w' := by
  have kc := fun (w : World) (C : Array Value) (n c : Nat) => Lib.run_convert_bytes_const (P := Tryd.prog) w 22 5 C n c Tryd.underlying22 Tryd.underlying5
  have CN := Lib.hid (hNew 2 w (by omega))
  have CX := Lib.hid (fun W => hNewNo 65 W (by omega))
  have HV : Hid ((vm [104, 105] 2).length = 54) := vm_length [104, 105] 2
  have HB := Lib.hid (vm_bit [104, 105] 2)
  have HR : Hid (rdx 48 (anew 2 [] 2 ++ [(2, vm [104, 105] 2)]) 2 (vm [104, 105] 2) = some [104, 105]) := rdx_whole [104, 105] hi_lt 2 48 (vm [104, 105] 2) (by omega) rfl
  have CV := Lib.hid (fun W => refVer17 _ 2 2 2 [104, 105] _ (rd_block W 5 #[.int .u8 104, .int .u8 105] (2, 3) (U8 [104, 105]) 2 rfl rfl) hi_lt (by simp) (by omega) (by omega))
  have hs := hT.pos
  have CO : Hid (∀ (w0 : World) (b c : Nat) (p : List Nat), PrS w0 (fun k => k = w.heap.size) w.heap.size 2 [] false → Rd w0 w0.heap.size (some ⟨b, 0, none⟩) 54 (U8 p) → (∀ x ∈ p, x ≤ 1) → w.heap.size < b → b < w0.heap.size → Taps w0 → Calls Tryd.prog 13 #[.pointer (some ⟨w.heap.size, 0, none⟩), .int .i64 2, .int .i64 2, .slice (some ⟨b, 0, none⟩) 54 c] w0 (OffO w0 (fun k => k = w.heap.size) w.heap.size 2 (anew 2 [] 2 ++ [(2, p)]) (rdx 48 (anew 2 [] 2 ++ [(2, p)]) 2 p))) :=
    fun w0 b c p h1 h2 h3 h4 h5 h6 => offerC w0 (fun k => k = w.heap.size) w.heap.size 2 2 48 54 2 c b 0 [] p h1 (by omega) rfl rfl (by omega) h2 h3 (fun h => by omega) h5 (fun h => by omega) h6
  generalize vm [104, 105] 2 = V at *
  generalize hrow : anew 2 [] 2 ++ [(2, V)] = row at *
  have HRow := Lib.hid hrow
  clear hrow
  generalize hr : rdx 48 row 2 V = r at *
  have Hr := Lib.hid hr
  clear hr
  go_enter Tryd.func14, Tryd.ntmps14
  go_upto_region 2 with (go_at_call 18; refine CN.out.mono ?_; rintro e w1 ⟨rfl, p1, b1⟩)
  have bel : Below w1.heap.size w1 (w1.alloc (.cells #[.int .u8 104, .int .u8 105] 5 (2, 3))) := (Below.refl _ _).alloc (Nat.le_refl _) _
  have p2 := p1.after bel
  have hs2 := bel.size
  go_upto_region 3 with (first
    | (go_at_call 22; refine (CV.out w1).mono ?_; rintro e w3 ⟨A3, n3, c3, rfl, own3, b3⟩; obtain rfl : n3 = 54 := (by rw [own3.rd.len8, HV.out]); obtain ⟨g3, rfl, hg1, hg2⟩ := own3.at0 (by omega); have p3 := p2.after b3; have bw3 := Below.then_ b1 (Below.then_ bel b3))
    | (go_at_call 13; refine (CO.out w3 g3 c3 V p3 own3.rd HB.out (by have := p1.lt _ rfl; omega) hg2 (hT.after bw3)).mono ?_; rw [HRow.out, Hr.out, HR.out]; rintro e w4 ⟨⟨P4, hP4, p4⟩, kr4, ho⟩; rcases ho with ⟨m, hm, A5, k5, c5, rfl, own5⟩ | ⟨hx, _⟩; rotate_left; cases hx; injection hm with hm; subst hm))
  have bw4 := bw3.trans (kr4.below (fun k hk => by rw [hk]; exact Nat.le_refl _) bw3.size)
  have CDn : Hid (Calls Tryd.prog 15 #[.pointer (some ⟨w.heap.size, 0, none⟩)] w4 fun e w' => e = .returned (.bool true) ∧ w4 = w') := hDone w4 _ _ _ _ _ p4
  have kcv := own5.conv w4 (Below.refl _ _)
  have hst := str_hi
  generalize str [104, 105] = s0 at *
  clear own5 own3 p1 p2 p3 p4 CO CV CN kc
  go_wp2_with (first | (go_at_call 18; refine (CX.out _).mono ?_; rintro e w' ⟨rfl, rfl⟩) | (go_at_call 15; refine CDn.out.mono ?_; rintro e w' ⟨rfl, rfl⟩))
  go_ret
  exact ⟨rfl, bw4⟩
end Go.Proofs.YtcmoedhpedlalaaDoor
