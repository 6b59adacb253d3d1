/-
  Contracts of layer 7: there, edge, From.
-/
import Derived.Test.YtknfpdlomgllhaaDoorKz
import Derived.Test.YtknfpdlomgllhaaDoorTz
namespace Go.Proofs.YtknfpdlomgllhaaDoor
open Go.RowKit
set_option maxRecDepth 100000
set_option linter.unusedVariables false

theorem info7 : (Tryd.prog.info? 138).map (·.size) = some 7 := by kernel_rfl
theorem Z7_eq : (Tryd.prog.info? 138).bind (fun i => i.zero.map (fun z => z.cells)) = some (C7 0 0 0 0 0 0 0) := by kernel_rfl

set_option maxHeartbeats 1000000 in
/-- trellis.edge. -/
theorem edgeC (s x : Nat) (w : World) (hs : s < 64) (hx : x ≤ 1) (hT : Taps w) :
    Calls Tryd.prog 124 #[.int .i64 (s : Int), .int .u8 (x : Int)] w fun e w' => e = .returned (.agg (E7 s x)) ∧ Below w.heap.size w w' := by
  have C1 := Lib.hid (fun W (hT : Taps W) => outC s x W hs hx hT)
  have C2 := Lib.hid (fun W => nextC s x W hs hx)
  unfold E7
  generalize Cv.nx s x = t at *
  generalize Cv.out s x 0 = o0 at *
  generalize Cv.out s x 1 = o1 at *
  generalize Cv.out s x 2 = o2 at *
  generalize Cv.out s x 3 = o3 at *
  unfold F4 at C1
  go_enter Tryd.func124, Tryd.ntmps124
  go_wp2_with (first | (go_at_call 147; refine (C2.out _).mono ?_; rintro e w' ⟨rfl, rfl⟩) | (go_at_call 148; refine (C1.out w1 (hT.after h1.bel)).mono ?_; rintro e w5 ⟨rfl, hb5⟩) | (refine at_alloc rfl 138 rfl (C7 0 0 0 0 0 0 0) Z7_eq ?_; intro w1 h1) | (refine at_store rfl 138 _ _ rfl w.heap.size (C7 s t x o0 o1 o2 o3) rfl rfl 138 (C7 0 0 0 0 0 0 0) ?hrow info7 rfl (C7_one _ _ _ _ _ _ _) ?_; rotate_left; intro w8 h8))
  · refine bodyPost_ret (v := .agg (C7 s t x o0 o1 o2 o3)) (results_row rfl _ _ w.heap.size 138 _ _ rfl h8.row Tryd.underlying138 rfl info7) rfl ⟨rfl, ?_⟩
    exact ((Below.then_ h1.bel hb5).trans (((Below.refl _ w5).alloc (Nat.le_refl _) _).mono (Nat.le_trans (by rw [h1.size]; omega) hb5.size))).trans (h8.below (Nat.le_refl _))
  case hrow => exact (h1.row.after hb5).after ((Below.refl _ _).alloc (Nat.le_refl _) _)

set_option maxHeartbeats 400000 in
/-- trellis.there. -/
theorem thereC (s : Nat) (w : World) (hs : s < 64) : Calls Tryd.prog 123 #[.int .i64 (s : Int)] w fun e w' => e = .returned (.bool true) ∧ w = w' := by
  have d : decide ((s : Int) < 64) = true := by simp <;> omega
  go_enter Tryd.func123, Tryd.ntmps123
  go_wp2
  go_ret
  exact ⟨rfl, rfl⟩
set_option maxHeartbeats 400000 in
theorem thereNo (s : Int) (w : World) (h : s < 0 ∨ 63 < s) : Calls Tryd.prog 123 #[.int .i64 s] w fun e w' => e = .returned (.bool false) ∧ w = w' := by
  by_cases h1 : 0 ≤ s
  · have d : decide (s < 64) = false := by simp <;> omega
    go_enter Tryd.func123, Tryd.ntmps123
    go_wp2
    go_ret
    exact ⟨rfl, rfl⟩
  · go_enter Tryd.func123, Tryd.ntmps123
    go_wp2
    go_ret
    exact ⟨rfl, rfl⟩

theorem info14 : (Tryd.prog.info? 139).map (·.size) = some 14 := by kernel_rfl
theorem Z14_eq : (Tryd.prog.info? 139).bind (fun i => i.zero.map (fun z => z.cells)) = some Z14 := by kernel_rfl
set_option maxHeartbeats 1000000 in
/-- trellis.From. -/
theorem fromC (s : Nat) (w : World) (hs : s < 64) (hT : Taps w) :
    Calls Tryd.prog 86 #[.int .i64 (s : Int)] w fun e w' => e = .returned (.tuple #[.agg (E14 s 0 s 1), .int .i64 0]) ∧ Below w.heap.size w w' := by
  have C0 := Lib.hid (fun W => thereC s W hs)
  have C1 := Lib.hid (fun W (hT : Taps W) => edgeC s 0 W hs (by omega) hT)
  have C2 := Lib.hid (fun W (hT : Taps W) => edgeC s 1 W hs (by omega) hT)
  have H1 := Lib.hid (E14_one s 0 s 1)
  have HE : Hid (E14 s 0 s 1 = C7 s (Cv.nx s 0) 0 (Cv.out s 0 0) (Cv.out s 0 1) (Cv.out s 0 2) (Cv.out s 0 3) ++ C7 s (Cv.nx s 1) 1 (Cv.out s 1 0) (Cv.out s 1 1) (Cv.out s 1 2) (Cv.out s 1 3)) := rfl
  unfold E7 at C1 C2
  rw [HE.out]
  rw [HE.out] at H1
  generalize Cv.nx s 0 = t0 at *
  generalize Cv.nx s 1 = t1 at *
  generalize Cv.out s 0 0 = a0 at *
  generalize Cv.out s 0 1 = a1 at *
  generalize Cv.out s 0 2 = a2 at *
  generalize Cv.out s 0 3 = a3 at *
  generalize Cv.out s 1 0 = b0 at *
  generalize Cv.out s 1 1 = b1 at *
  generalize Cv.out s 1 2 = b2 at *
  generalize Cv.out s 1 3 = b3 at *
  clear HE
  unfold C7 at C1 C2
  go_enter Tryd.func86, Tryd.ntmps86
  go_wp2_with (first | (go_at_call 123; refine (C0.out _).mono ?_; rintro e w' ⟨rfl, rfl⟩) | (refine at_alloc rfl 139 rfl Z14 Z14_eq ?_; intro w1 h1))
  refine (C1.out w1 (hT.after h1.bel)).mono ?_
  rintro e w5 ⟨rfl, hb5⟩
  have hT5 := (hT.after h1.bel).after hb5
  go_wp2_with fail
  refine (C2.out w5 hT5).mono ?_
  rintro e w6 ⟨rfl, hb6⟩
  have hrow := (h1.row.after hb5).after hb6
  have bel6 := Below.then_ (Below.then_ h1.bel hb5) hb6
  go_wp2_with (refine at_store rfl 139 _ _ rfl w.heap.size (C7 s t0 0 a0 a1 a2 a3 ++ C7 s t1 1 b0 b1 b2 b3) rfl rfl 139 Z14 hrow info14 Z14_size H1.out ?_; intro w8 h8)
  refine bodyPost_ret (v := .tuple #[.agg (C7 s t0 0 a0 a1 a2 a3 ++ C7 s t1 1 b0 b1 b2 b3), .int .i64 0]) (results_row_tmp rfl _ _ w.heap.size 139 _ _ rfl _ rfl h8.row Tryd.underlying139 rfl info14) rfl ⟨rfl, ?_⟩
  exact bel6.trans (h8.below (Nat.le_refl _))
end Go.Proofs.YtknfpdlomgllhaaDoor
