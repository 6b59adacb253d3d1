/-
  Layer 17: Versions; the walk of HarqVersions.
-/
import Derived.Test.YtcmoedhpedlalaaDoorHf
namespace Go.Proofs.YtcmoedhpedlalaaDoor
open Go.RowKit
set_option maxRecDepth 100000
set_option linter.unusedVariables false
set_option linter.unusedSimpArgs false

/-- What Versions gives. -/
def VersO (w : World) (T : Nat) (m : List Nat) (e : Ending) (w' : World) : Prop := ∃ g0 g1 g2 g3, e = .returned (.tuple #[.agg (S4 (sl g0 T) (sl g1 T) (sl g2 T) (sl g3 T)), .int .i64 0]) ∧ Blk w' g0 5 (B8 (vm m 0)) ∧ Blk w' g1 5 (B8 (vm m 1)) ∧ Blk w' g2 5 (B8 (vm m 2)) ∧ Blk w' g3 5 (B8 (vm m 3)) ∧ Below w.heap.size w w' ∧ w.heap.size < g0 ∧ w.heap.size < g1 ∧ w.heap.size < g2 ∧ w.heap.size < g3
set_option maxHeartbeats 1000000 in
/-- harq.Versions. -/
theorem hVersions (A : Option Addr) (n c T : Nat) (m : List Nat) (w : World) (hr : Rd w w.heap.size A n (U8 m)) (hm : ∀ b ∈ m, b < 256) (hnone : A = none → n = 0 ∧ c = 0) (hn : n ≤ 64) (hTT : T = 8 * (n + 4) + 6) (hT : Taps w) :
    Calls Tryd.prog 25 #[.slice A n c] w (VersO w T m) := by
  have CI := hIsLen (n : Int) w
  have CI2 := fun W => hIsLen (n : Int) W
  rw [decide_eq_true (show (0 : Int) ≤ (n : Int) ∧ (n : Int) ≤ 64 by omega)] at CI2
  replace CI2 := Lib.hid CI2
  clear CI
  have CCl := Lib.hid (fun (W : World) (h : Below w.heap.size w W) => closeC A n c m W ((hr.below h).up h.size) hm hnone (by omega))
  have COf := Lib.hid (fun (A : Option Addr) (n c : Nat) (w : World) (hr : Rd w w.heap.size A n (U8 (Crc.close32 m))) (hn : n ≤ 65536) => bitsOf A n c _ w hr (Crc.close32_lt m hm) hn)
  have L1 : Hid ((Crc.close32 m).length = n + 4) := by unfold Hid; rw [Crc.close32_length, hr.len8]
  have L2 : Hid ((mls m).length + 6 = T) := by unfold Hid; rw [mls_length, hTT, hr.len8]
  have CVc := Lib.hid (fun (v : Nat) (hv : v < 4) (A : Option Addr) (k c : Nat) (W : World) (hr : Rd W W.heap.size A k (U8 (mls m))) (hno : A = none → k = 0 ∧ c = 0) (hk : k + 6 = T) (hT : Taps W) => vCode A k c v (mls m) W hr hno (mls_bit m) (by omega) hv hT)
  have HVM : Hid (∀ v, Cv.pick (Cv.code (mls m)) v = vm m v) := fun v => rfl
  have HMB : Hid (Bm.ofBytes (Crc.close32 m) = mls m) := rfl
  have hTb : T ≤ 1000 := by omega
  have HSP : Hid (∀ e w', VersO w T m e w' = VersO w T m e w') := fun _ _ => rfl
  clear hr hm hnone hTT
  go_enter Tryd.func25, Tryd.ntmps25
  go_upto_region 1 with (refine at_alloc rfl 49 rfl _ ZS_eq ?_; intro w1 h1)
  have q2 := h1.row
  have b1 := h1.bel
  have hs1 := h1.size
  obtain ⟨g2, hg2⟩ : ∃ g, g = w.heap.size := ⟨_, rfl⟩
  rw [← hg2] at q2
  go_upto_region 4 with (first | (go_at_call 54; refine (CI2.out _).mono ?_; rintro e w' ⟨rfl, rfl⟩) | (go_at_call 66; refine (CCl.out w1 b1).mono ?_; rintro e w1a ⟨Aa, na, ca, rfl, owna, ba⟩) | (go_at_call 65; refine (COf.out Aa na ca w1a owna.rd (by rw [owna.rd.len8, L1.out]; omega)).mono ?_; rintro e w1b ⟨Ab, nb, cb, rfl, ownb, bb⟩))
  rw [HMB.out] at ownb
  have b1ab := Below.then_ ba bb
  have q2b := q2.after b1ab
  have b1b := Below.then_ b1 b1ab
  have hnb : nb + 6 = T := by rw [ownb.rd.len8]; exact L2.out
  have CC : Hid (∀ v : Nat, v < 4 → ∀ W, Below w1b.heap.size w1b W → Calls Tryd.prog 67 #[.slice Ab nb cb, .int .i64 (v : Int)] W (VCodeOk W T (vm m v))) := fun v hv W hW => by
    have := CVc.out v hv Ab nb cb W (ownb.rdOf hW) ownb.none_ hnb (hT.after (Below.then_ b1b hW))
    rw [hnb, HVM.out] at this
    exact this
  have hsb := b1ab.size
  go_upto_region 5 with (refine at_alloc rfl 49 rfl _ ZS_eq ?_; intro w2 h2)
  have q4 := h2.row
  have C0 := Lib.hid (fun W h => CC.out 0 (by omega) W h)
  have C1 := Lib.hid (fun W h => CC.out 1 (by omega) W h)
  have C2 := Lib.hid (fun W h => CC.out 2 (by omega) W h)
  have C3 := Lib.hid (fun W h => CC.out 3 (by omega) W h)
  have B0 := Lib.hid b1b
  have b2 : Below w1b.heap.size w1b w2 := h2.bel
  replace q2 := q2b.after h2.bel
  have hs2 := h2.size
  obtain ⟨g4, hg4⟩ : ∃ g, g = w1b.heap.size := ⟨_, rfl⟩
  rw [← hg4] at q4
  rw [← hg2, ← hg4]
  have hlt : g2 < g4 := by omega
  have hw4 : g4 < w2.heap.size := by omega
  have HG2 := Lib.hid hg2
  have HG1 : Hid (w.heap.size < g4) := by unfold Hid; omega
  have HGE : Hid (w1b.heap.size ≤ g4) := by unfold Hid; omega
  clear hg2 hg4 hs1 hs2 h1 h2 b1 b1ab b1b q2b ba bb owna ownb CC hsb hnb CCl COf CVc
  go_wp2
  refine wp_loop_rounds 5 ?_
  rw [rounds_succ]
  go_wp2_with (first | (go_at_call 67; refine (C0.out _ b2).mono ?_; rintro e w3 ⟨g0, rfl, hg0, p0, hb0⟩; replace q4 := q4.after hb0; replace q2 := q2.after hb0; replace b2 := Below.then_ b2 hb0) | (refine at_cell rfl 22 _ _ rfl g4 0 (sl g0 T) rfl rfl 49 _ q4 (by rw [S4_size]; decide) infoS1 rfl ?_; intro w4 h0))
  have n0 : g0 ≠ g4 := by omega
  replace q4 : Blk w4 g4 49 (S4 (sl g0 T) (.slice none 0 0) (.slice none 0 0) (.slice none 0 0)) := h0.row
  replace q2 := h0.blk q2 (by omega)
  replace p0 := h0.blk p0 n0
  replace b2 := b2.trans (h0.below (HGE.out))
  have hw4 := q4.lt
  have HW0 : Hid (w.heap.size < g0) := by unfold Hid; have := HG1.out; omega
  clear h0 hb0 hg0
  rw [rounds_succ]
  go_wp2_with (first | (go_at_call 67; refine (C1.out _ b2).mono ?_; rintro e w5 ⟨g1, rfl, hg1, p1, hb1⟩; replace q4 := q4.after hb1; replace p0 := p0.after hb1; replace q2 := q2.after hb1; replace b2 := Below.then_ b2 hb1) | (refine at_cell rfl 22 _ _ rfl g4 1 (sl g1 T) rfl rfl 49 _ q4 (by rw [S4_size]; decide) infoS1 rfl ?_; intro w6 h1))
  have n1 : g1 ≠ g4 := by omega
  replace q4 : Blk w6 g4 49 (S4 (sl g0 T) (sl g1 T) (.slice none 0 0) (.slice none 0 0)) := h1.row
  replace q2 := h1.blk q2 (by omega)
  replace p0 := h1.blk p0 n0
  replace p1 := h1.blk p1 n1
  replace b2 := b2.trans (h1.below (HGE.out))
  have hw4 := q4.lt
  have HW1 : Hid (w.heap.size < g1) := by unfold Hid; have := HG1.out; omega
  clear h1 hb1 hg1
  rw [rounds_succ]
  go_wp2_with (first | (go_at_call 67; refine (C2.out _ b2).mono ?_; rintro e w7 ⟨g2_, rfl, hg2, p2, hb2⟩; replace q4 := q4.after hb2; replace p0 := p0.after hb2; replace p1 := p1.after hb2; replace q2 := q2.after hb2; replace b2 := Below.then_ b2 hb2) | (refine at_cell rfl 22 _ _ rfl g4 2 (sl g2_ T) rfl rfl 49 _ q4 (by rw [S4_size]; decide) infoS1 rfl ?_; intro w8 h2))
  have n2 : g2_ ≠ g4 := by omega
  replace q4 : Blk w8 g4 49 (S4 (sl g0 T) (sl g1 T) (sl g2_ T) (.slice none 0 0)) := h2.row
  replace q2 := h2.blk q2 (by omega)
  replace p0 := h2.blk p0 n0
  replace p1 := h2.blk p1 n1
  replace p2 := h2.blk p2 n2
  replace b2 := b2.trans (h2.below (HGE.out))
  have hw4 := q4.lt
  have HW2 : Hid (w.heap.size < g2_) := by unfold Hid; have := HG1.out; omega
  clear h2 hb2 hg2
  rw [rounds_succ]
  go_wp2_with (first | (go_at_call 67; refine (C3.out _ b2).mono ?_; rintro e w9 ⟨g3, rfl, hg3, p3, hb3⟩; replace q4 := q4.after hb3; replace p0 := p0.after hb3; replace p1 := p1.after hb3; replace p2 := p2.after hb3; replace q2 := q2.after hb3; replace b2 := Below.then_ b2 hb3) | (refine at_cell rfl 22 _ _ rfl g4 3 (sl g3 T) rfl rfl 49 _ q4 (by rw [S4_size]; decide) infoS1 rfl ?_; intro w10 h3))
  have n3 : g3 ≠ g4 := by omega
  replace q4 : Blk w10 g4 49 (S4 (sl g0 T) (sl g1 T) (sl g2_ T) (sl g3 T)) := h3.row
  replace q2 := h3.blk q2 (by omega)
  replace p0 := h3.blk p0 n0
  replace p1 := h3.blk p1 n1
  replace p2 := h3.blk p2 n2
  replace p3 := h3.blk p3 n3
  replace b2 := b2.trans (h3.below (HGE.out))
  have hw4 := q4.lt
  have HW3 : Hid (w.heap.size < g3) := by unfold Hid; have := HG1.out; omega
  clear h3 hb3 hg3
  rw [rounds_succ]
  go_wp2_with (first | (refine at_load rfl 49 _ rfl g4 rfl 49 (S4 (sl g0 T) (sl g1 T) (sl g2_ T) (sl g3 T)) _ q4 Tryd.underlying49 rfl infoS4 ?_) | (refine at_store rfl 49 _ _ rfl g2 (S4 (sl g0 T) (sl g1 T) (sl g2_ T) (sl g3 T)) rfl rfl 49 _ q2 infoS4 rfl (S4_one _ _ _ _ _) ?_; intro w11 h11))
  refine bodyPost_ret (v := .tuple #[.agg (S4 (sl g0 T) (sl g1 T) (sl g2_ T) (sl g3 T)), .int .i64 0]) (results_row_tmp rfl _ _ g2 49 _ _ rfl _ rfl h11.row Tryd.underlying49 rfl infoS4) rfl ?_
  have HE := HG2.out
  exact ⟨g0, g1, g2_, g3, rfl, h11.blk p0 (by have := HW0.out; omega), h11.blk p1 (by have := HW1.out; omega), h11.blk p2 (by have := HW2.out; omega), h11.blk p3 (by have := HW3.out; omega), (B0.out.trans (b2.mono B0.out.size)).trans (h11.below (by omega)), HW0.out, HW1.out, HW2.out, HW3.out⟩
theorem ZS_one : (S4 (.slice none 0 0) (.slice none 0 0) (.slice none 0 0) (.slice none 0 0)).all (·.oneCell') = true := by simp [S4, Value.oneCell']
theorem built_S4 : Tryd.prog.built 49 [] = some (S4 (.slice none 0 0) (.slice none 0 0) (.slice none 0 0) (.slice none 0 0)) := by kernel_rfl
set_option maxHeartbeats 400000 in
/-- harq.Versions of too many bytes. -/
theorem hVersionsNo (A : Option Addr) (n c : Nat) (w : World) (hn : 64 < n) (hn2 : n ≤ 9223372036854775807) :
    Calls Tryd.prog 25 #[.slice A n c] w fun e w' => e = .returned (.tuple #[.agg (S4 (.slice none 0 0) (.slice none 0 0) (.slice none 0 0) (.slice none 0 0)), .int .i64 7]) ∧ Below w.heap.size w w' := by
  have CI2 := fun W => hIsLen (n : Int) W
  rw [decide_eq_false (show ¬ ((0 : Int) ≤ (n : Int) ∧ (n : Int) ≤ 64) by omega)] at CI2
  replace CI2 := Lib.hid CI2
  go_enter Tryd.func25, Tryd.ntmps25
  go_upto_region 1 with (refine at_alloc rfl 49 rfl _ ZS_eq ?_; intro w1 h1)
  have q2 := h1.row
  have b1 := h1.bel
  have hb := built_S4
  go_wp2_with (first | (go_at_call 54; refine (CI2.out _).mono ?_; rintro e w' ⟨rfl, rfl⟩) | (refine at_store rfl 49 _ _ rfl w.heap.size (S4 (.slice none 0 0) (.slice none 0 0) (.slice none 0 0) (.slice none 0 0)) rfl rfl 49 _ q2 infoS4 rfl ZS_one ?_; intro w11 h11))
  refine bodyPost_ret (v := .tuple #[.agg (S4 (.slice none 0 0) (.slice none 0 0) (.slice none 0 0) (.slice none 0 0)), .int .i64 7]) (results_row_tmp rfl _ _ w.heap.size 49 _ _ rfl _ rfl h11.row Tryd.underlying49 rfl infoS4) rfl ?_
  exact ⟨rfl, b1.trans (h11.below (Nat.le_refl _))⟩
end Go.Proofs.YtcmoedhpedlalaaDoor
