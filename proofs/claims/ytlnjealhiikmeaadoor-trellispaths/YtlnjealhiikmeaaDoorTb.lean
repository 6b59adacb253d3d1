/-
  Contracts of layer 7: Into; the statements' first test; the walk of TrellisBack.
-/
import Derived.Test.YtlnjealhiikmeaaDoorTa
import Derived.Test.YtlnjealhiikmeaaDoorKg
import Derived.Deep.DeepCutAuto
namespace Go.Proofs.YtlnjealhiikmeaaDoor
open Go.RowKit
set_option linter.unusedVariables false
set_option linter.unusedSimpArgs false

set_option maxHeartbeats 600000 in
/-- trellis.Into. -/
theorem intoC (s : Nat) (w : World) (hs : s < 64) (hT : Taps w) :
    Calls Tryd.prog 22 #[.int .i64 (s : Int)] w fun e w' => e = .returned (.tuple #[.agg (E14 (2 * s % 64) (s / 32) (2 * s % 64 + 1) (s / 32)), .int .i64 0]) ∧ Below w.heap.size w w' := by
  have C0 := Lib.hid (fun W => thereC s W hs)
  obtain ⟨x, hx⟩ : ∃ x, s / 32 = x := ⟨_, rfl⟩
  obtain ⟨r, hr⟩ : ∃ r, 2 * s % 64 = r := ⟨_, rfl⟩
  have ex : (s : Int) / 32 = (x : Int) := by omega
  have er : (s : Int) * 2 % 64 = (r : Int) := by omega
  have hx1 : x ≤ 1 := by omega
  have hr1 : r + 1 < 64 := by omega
  rw [hx, hr]
  clear hx hr
  have C1 := Lib.hid (fun W (hT : Taps W) => edgeC r x W (by omega) hx1 hT)
  have C2 := Lib.hid (fun W (hT : Taps W) => edgeC (r + 1) x W hr1 hx1 hT)
  have H1 := Lib.hid (E14_one r x (r + 1) x)
  have HE : Hid (E14 r x (r + 1) x = C7 r (Cv.nx r x) x (Cv.out r x 0) (Cv.out r x 1) (Cv.out r x 2) (Cv.out r x 3) ++ C7 (r + 1) (Cv.nx (r + 1) x) x (Cv.out (r + 1) x 0) (Cv.out (r + 1) x 1) (Cv.out (r + 1) x 2) (Cv.out (r + 1) x 3)) := rfl
  unfold E7 at C1 C2
  rw [HE.out]
  rw [HE.out] at H1
  generalize Cv.nx r x = t0 at *
  generalize Cv.nx (r + 1) x = t1 at *
  generalize Cv.out r x 0 = a0 at *
  generalize Cv.out r x 1 = a1 at *
  generalize Cv.out r x 2 = a2 at *
  generalize Cv.out r x 3 = a3 at *
  generalize Cv.out (r + 1) x 0 = b0 at *
  generalize Cv.out (r + 1) x 1 = b1 at *
  generalize Cv.out (r + 1) x 2 = b2 at *
  generalize Cv.out (r + 1) x 3 = b3 at *
  clear HE
  unfold C7 at C1 C2
  have e1 : ((r + 1 : Nat) : Int) = (r : Int) + 1 := by omega
  rw [e1] at C2
  clear e1
  go_enter Tryd.func22, Tryd.ntmps22
  go_wp2_with (first | (go_at_call 34; refine (C0.out _).mono ?_; rintro e w' ⟨rfl, rfl⟩) | (refine at_alloc rfl 45 rfl Z14 Z14_eq ?_; intro w1 h1))
  refine (C1.out w1 (hT.after h1.bel)).mono ?_
  rintro e w5 ⟨rfl, hb5⟩
  have hT5 := (hT.after h1.bel).after hb5
  go_wp2_with fail
  refine (C2.out w5 hT5).mono ?_
  rintro e w6 ⟨rfl, hb6⟩
  have hrow := (h1.row.after hb5).after hb6
  have bel6 := Below.then_ (Below.then_ h1.bel hb5) hb6
  have H2 : (C7 r t0 x a0 a1 a2 a3 ++ C7 (r + 1) t1 x b0 b1 b2 b3) = #[.int .i64 (r : Int), .int .i64 (t0 : Int), .int .u8 (x : Int), .int .u8 (a0 : Int), .int .u8 (a1 : Int), .int .u8 (a2 : Int), .int .u8 (a3 : Int), .int .i64 ((r : Int) + 1), .int .i64 (t1 : Int), .int .u8 (x : Int), .int .u8 (b0 : Int), .int .u8 (b1 : Int), .int .u8 (b2 : Int), .int .u8 (b3 : Int)] := rfl
  have HH2 := Lib.hid H2
  rw [H2] at H1
  clear H2
  go_wp2_with (refine at_store rfl 45 _ _ rfl w.heap.size _ rfl rfl 45 Z14 hrow info14 Z14_size H1.out ?_; intro w8 h8)
  refine bodyPost_ret (v := .tuple #[.agg (C7 r t0 x a0 a1 a2 a3 ++ C7 (r + 1) t1 x b0 b1 b2 b3), .int .i64 0]) (results_row_tmp rfl _ _ w.heap.size 45 _ _ rfl _ rfl (by rw [HH2.out]; exact h8.row) Tryd.underlying45 rfl info14) rfl ⟨rfl, ?_⟩
  exact bel6.trans (h8.below (Nat.le_refl _))
end Go.Proofs.YtlnjealhiikmeaaDoor
