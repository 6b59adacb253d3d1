/-
  Layer 11: Split; the statements' first test.
-/
import Derived.Test.YtknfpdlomgllhaaNa
import Derived.Test.YtknfpdlomgllhaaRr
import Derived.Deep.DeepCutAuto
namespace Go.Proofs.Ytknfpdlomgllhaa
open Go.RowKit
set_option maxRecDepth 100000
set_option linter.unusedVariables false
set_option linter.unusedSimpArgs false

/-- Four slices. -/
def S4 (a b c d : Value) : Array Value := #[a, b, c, d]
/-- A slice of a block of its own. -/
def sl (g T : Nat) : Value := .slice (some ⟨g, 0, none⟩) T T
theorem S4_size (a b c d : Value) : (S4 a b c d).size = 4 := rfl
theorem S4_one (a b c d T : Nat) : (S4 (sl a T) (sl b T) (sl c T) (sl d T)).all (·.oneCell') = true := by simp [S4, sl, Value.oneCell']
theorem infoS4 : (Try.prog.info? 25).map (·.size) = some 4 := by kernel_rfl
theorem infoS1 : (Try.prog.info? 22).map (·.size) = some 1 := by kernel_rfl
theorem ZS_eq : (Try.prog.info? 25).bind (fun i => i.zero.map (fun z => z.cells)) = some (S4 (.slice none 0 0) (.slice none 0 0) (.slice none 0 0) (.slice none 0 0)) := by kernel_rfl
/-- What Split gives. -/
def SplitOk (w : World) (T : Nat) (l : List Nat) (e : Ending) (w' : World) : Prop := ∃ g0 g1 g2 g3, e = .returned (.tuple #[.agg (S4 (sl g0 T) (sl g1 T) (sl g2 T) (sl g3 T)), .int .i64 0]) ∧ Blk w' g0 5 (B8 (Cv.pick l 0)) ∧ Blk w' g1 5 (B8 (Cv.pick l 1)) ∧ Blk w' g2 5 (B8 (Cv.pick l 2)) ∧ Blk w' g3 5 (B8 (Cv.pick l 3)) ∧ Below w.heap.size w w' ∧ w.heap.size < g0 ∧ w.heap.size < g1 ∧ w.heap.size < g2 ∧ w.heap.size < g3
set_option maxHeartbeats 1000000 in
/-- version.Split of a code. -/
theorem vSplit (A : Option Addr) (n c T : Nat) (l : List Nat) (w : World) (hr : Rd w w.heap.size A n (U8 l)) (hl : ∀ x ∈ l, x ≤ 1) (hn : n = 4 * T) (hT : T ≤ 10000) :
    Calls Try.prog 25 #[.slice A n c] w (SplitOk w T l) := by
  have CR := Lib.hid (fun (W : World) (hb : Below w.heap.size w W) => right A n c l W ((hr.below hb).up hb.size) (bit256 hl) (by omega))
  have hok : Bm.isB l = true := Bm.isB_of_getD fun i hi => hl _ (by rw [Bm.getD_lt _ _ _ hi]; exact List.getElem_mem hi)
  rw [hok] at CR
  have CP := Lib.hid (fun (v : Nat) (hv : v < 4) (W : World) (hb : Below w.heap.size w W) => vpart A n c T v l W ((hr.below hb).up hb.size) hn (by omega) hv)
  have C0 : Hid (∀ W, Below w.heap.size w W → Calls Try.prog 36 #[.slice A n c, .int .i64 0] W (PartOk W T (Cv.pick l 0))) := CP.out 0 (by omega)
  have C1 : Hid (∀ W, Below w.heap.size w W → Calls Try.prog 36 #[.slice A n c, .int .i64 1] W (PartOk W T (Cv.pick l 1))) := CP.out 1 (by omega)
  have C2 : Hid (∀ W, Below w.heap.size w W → Calls Try.prog 36 #[.slice A n c, .int .i64 2] W (PartOk W T (Cv.pick l 2))) := CP.out 2 (by omega)
  have C3 : Hid (∀ W, Below w.heap.size w W → Calls Try.prog 36 #[.slice A n c, .int .i64 3] W (PartOk W T (Cv.pick l 3))) := CP.out 3 (by omega)
  have e4 : (n : Int) % 4 = 0 := by omega
  clear CP hok hr hl hn
  go_enter Try.func25, Try.ntmps25
  go_upto_region 1 with (refine at_alloc rfl 25 rfl _ ZS_eq ?_; intro w1 h1)
  have q2 := h1.row
  have b1 := h1.bel
  have hs1 := h1.size
  obtain ⟨g2, hg2⟩ : ∃ g, g = w.heap.size := ⟨_, rfl⟩
  rw [← hg2] at q2
  go_upto_region 6 with (first | (go_at_call 23; refine (CR.out _ b1).mono ?_; rintro e w' ⟨rfl, rfl⟩) | (refine at_alloc rfl 25 rfl _ ZS_eq ?_; intro w2 h2))
  have q4 := h2.row
  have b2 := Below.then_ b1 h2.bel
  have hs2 := h2.size
  replace q2 := q2.after h2.bel
  obtain ⟨g4, hg4⟩ : ∃ g, g = w1.heap.size := ⟨_, rfl⟩
  rw [← hg4] at q4
  rw [← hg2, ← hg4]
  have hlt : g2 < g4 := by omega
  have hw4 : g4 < w2.heap.size := by omega
  have HG2 := Lib.hid hg2
  have HG1 : Hid (w.heap.size < g4) := by unfold Hid; omega
  clear hg2 hg4 hs1 hs2 h1 h2 b1
  go_wp2
  refine wp_loop_rounds 5 ?_
  rw [rounds_succ]
  go_wp2_with (first | (go_at_call 36; refine (C0.out _ b2).mono ?_; rintro e w3 ⟨g0, rfl, hg0, p0, hb0⟩; replace q4 := q4.after hb0; replace q2 := q2.after hb0; replace b2 := Below.then_ b2 hb0) | (refine at_cell rfl 22 _ _ rfl g4 0 (sl g0 T) rfl rfl 25 _ q4 (by rw [S4_size]; decide) infoS1 rfl ?_; intro w4 h0))
  have n0 : g0 ≠ g4 := by omega
  replace q4 : Blk w4 g4 25 (S4 (sl g0 T) (.slice none 0 0) (.slice none 0 0) (.slice none 0 0)) := h0.row
  replace q2 := h0.blk q2 (by omega)
  replace p0 := h0.blk p0 n0
  replace b2 := b2.trans (h0.below (Nat.le_of_lt HG1.out))
  have hw4 := q4.lt
  have HW0 : Hid (w.heap.size < g0) := by unfold Hid; have := HG1.out; omega
  clear h0 hb0 hg0
  rw [rounds_succ]
  go_wp2_with (first | (go_at_call 36; refine (C1.out _ b2).mono ?_; rintro e w5 ⟨g1, rfl, hg1, p1, hb1⟩; replace q4 := q4.after hb1; replace p0 := p0.after hb1; replace q2 := q2.after hb1; replace b2 := Below.then_ b2 hb1) | (refine at_cell rfl 22 _ _ rfl g4 1 (sl g1 T) rfl rfl 25 _ q4 (by rw [S4_size]; decide) infoS1 rfl ?_; intro w6 h1))
  have n1 : g1 ≠ g4 := by omega
  replace q4 : Blk w6 g4 25 (S4 (sl g0 T) (sl g1 T) (.slice none 0 0) (.slice none 0 0)) := h1.row
  replace q2 := h1.blk q2 (by omega)
  replace p0 := h1.blk p0 n0
  replace p1 := h1.blk p1 n1
  replace b2 := b2.trans (h1.below (Nat.le_of_lt HG1.out))
  have hw4 := q4.lt
  have HW1 : Hid (w.heap.size < g1) := by unfold Hid; have := HG1.out; omega
  clear h1 hb1 hg1
  rw [rounds_succ]
  go_wp2_with (first | (go_at_call 36; refine (C2.out _ b2).mono ?_; rintro e w7 ⟨g2_, rfl, hg2, p2, hb2⟩; replace q4 := q4.after hb2; replace p0 := p0.after hb2; replace p1 := p1.after hb2; replace q2 := q2.after hb2; replace b2 := Below.then_ b2 hb2) | (refine at_cell rfl 22 _ _ rfl g4 2 (sl g2_ T) rfl rfl 25 _ q4 (by rw [S4_size]; decide) infoS1 rfl ?_; intro w8 h2))
  have n2 : g2_ ≠ g4 := by omega
  replace q4 : Blk w8 g4 25 (S4 (sl g0 T) (sl g1 T) (sl g2_ T) (.slice none 0 0)) := h2.row
  replace q2 := h2.blk q2 (by omega)
  replace p0 := h2.blk p0 n0
  replace p1 := h2.blk p1 n1
  replace p2 := h2.blk p2 n2
  replace b2 := b2.trans (h2.below (Nat.le_of_lt HG1.out))
  have hw4 := q4.lt
  have HW2 : Hid (w.heap.size < g2_) := by unfold Hid; have := HG1.out; omega
  clear h2 hb2 hg2
  rw [rounds_succ]
  go_wp2_with (first | (go_at_call 36; refine (C3.out _ b2).mono ?_; rintro e w9 ⟨g3, rfl, hg3, p3, hb3⟩; replace q4 := q4.after hb3; replace p0 := p0.after hb3; replace p1 := p1.after hb3; replace p2 := p2.after hb3; replace q2 := q2.after hb3; replace b2 := Below.then_ b2 hb3) | (refine at_cell rfl 22 _ _ rfl g4 3 (sl g3 T) rfl rfl 25 _ q4 (by rw [S4_size]; decide) infoS1 rfl ?_; intro w10 h3))
  have n3 : g3 ≠ g4 := by omega
  replace q4 : Blk w10 g4 25 (S4 (sl g0 T) (sl g1 T) (sl g2_ T) (sl g3 T)) := h3.row
  replace q2 := h3.blk q2 (by omega)
  replace p0 := h3.blk p0 n0
  replace p1 := h3.blk p1 n1
  replace p2 := h3.blk p2 n2
  replace p3 := h3.blk p3 n3
  replace b2 := b2.trans (h3.below (Nat.le_of_lt HG1.out))
  have hw4 := q4.lt
  have HW3 : Hid (w.heap.size < g3) := by unfold Hid; have := HG1.out; omega
  clear h3 hb3 hg3
  rw [rounds_succ]
  go_wp2_with (first | (refine at_load rfl 25 _ rfl g4 rfl 25 (S4 (sl g0 T) (sl g1 T) (sl g2_ T) (sl g3 T)) _ q4 Try.underlying25 rfl infoS4 ?_) | (refine at_store rfl 25 _ _ rfl g2 (S4 (sl g0 T) (sl g1 T) (sl g2_ T) (sl g3 T)) rfl rfl 25 _ q2 infoS4 rfl (S4_one _ _ _ _ _) ?_; intro w11 h11))
  refine bodyPost_ret (v := .tuple #[.agg (S4 (sl g0 T) (sl g1 T) (sl g2_ T) (sl g3 T)), .int .i64 0]) (results_row_tmp rfl _ _ g2 25 _ _ rfl _ rfl h11.row Try.underlying25 rfl infoS4) rfl ?_
  have HE := HG2.out
  exact ⟨g0, g1, g2_, g3, rfl, h11.blk p0 (by have := HW0.out; omega), h11.blk p1 (by have := HW1.out; omega), h11.blk p2 (by have := HW2.out; omega), h11.blk p3 (by have := HW3.out; omega), b2.trans (h11.below (by omega)), HW0.out, HW1.out, HW2.out, HW3.out⟩
theorem str_one1 : ((str [1]).toList == [1]) = true := by decide +kernel
theorem str_one0 : ((str [0]).toList == [0]) = true := by decide +kernel
theorem picks4 : Cv.pick [1, 0, 1, 1] 0 = [1] ∧ Cv.pick [1, 0, 1, 1] 1 = [0] ∧ Cv.pick [1, 0, 1, 1] 2 = [1] ∧ Cv.pick [1, 0, 1, 1] 3 = [1] := by decide
set_option maxHeartbeats 1000000 in
/-- The statements' first test. -/
theorem splitsC (w : World) : Calls Try.prog 7 #[] w fun e w' => e = .returned (.bool true) ∧ Below w.heap.size w w' := by
  have CB : Hid (∀ W, Calls Try.prog 26 #[.int .i64 2] W fun e w' => e = .returned (.int .i64 8) ∧ W = w') := fun W => vBits 2 W (by omega)
  have s1 := str_one1
  have s0 := str_one0
  go_enter Try.func7, Try.ntmps7
  go_wp2_with fail
  refine (vSplit _ 4 4 1 [1, 0, 1, 1] _ (rd_block w 5 _ (0, 0) _ 4 rfl rfl) (by decide) rfl (by omega)).mono ?_
  rintro e w1 ⟨g0, g1, g2, g3, rfl, p0, p1, p2, p3, hb, _, _, _, _⟩
  rw [picks4.1] at p0
  rw [picks4.2.1] at p1
  rw [picks4.2.2.2] at p3
  have b1 : Below w.heap.size w w1 := Below.then_ ((Below.refl _ _).alloc (Nat.le_refl _) _) hb
  have l0 := p0.lt
  have l1 := p1.lt
  have l3 := p3.lt
  clear hb p2
  go_wp2_with (first | (refine at_alloc rfl 25 rfl _ ZS_eq ?_; intro w2 h2; replace p0 := p0.after h2.bel; replace p1 := p1.after h2.bel; replace p3 := p3.after h2.bel) | (refine at_store rfl 25 _ _ rfl w1.heap.size (S4 (sl g0 1) (sl g1 1) (sl g2 1) (sl g3 1)) rfl rfl 25 _ h2.row infoS4 rfl (S4_one _ _ _ _ _) ?_; intro w3 h3; have k0 : w3.cell? ⟨w1.heap.size, 0, none⟩ = some (.slice (some ⟨g0, 0, none⟩) 1 1) := h3.row.cell 0; have k1 : w3.cell? ⟨w1.heap.size, 1, none⟩ = some (.slice (some ⟨g1, 0, none⟩) 1 1) := h3.row.cell 1; have k3 : w3.cell? ⟨w1.heap.size, 3, none⟩ = some (.slice (some ⟨g3, 0, none⟩) 1 1) := h3.row.cell 3; have c0 := (h3.blk p0 (by omega)).convB (n := 1) (c := 1) rfl; have c1 := (h3.blk p1 (by omega)).convB (n := 1) (c := 1) rfl; have c3 := (h3.blk p3 (by omega)).convB (n := 1) (c := 1) rfl; have b3 := (Below.then_ b1 h2.bel).trans (h3.below b1.size)) | (go_at_call 26; refine (CB.out _).mono ?_; rintro e w' ⟨rfl, rfl⟩))
  go_ret
  exact ⟨rfl, b3⟩
end Go.Proofs.Ytknfpdlomgllhaa
