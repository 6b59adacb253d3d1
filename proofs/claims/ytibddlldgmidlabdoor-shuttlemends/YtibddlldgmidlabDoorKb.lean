/-
  Contract of layer 6: told.
-/
import Derived.Test.YtibddlldgmidlabDoorKa
import Derived.LoopN
namespace Go.Proofs.YtibddlldgmidlabDoor
open Go.RowKit
set_option maxRecDepth 100000
set_option linter.unusedVariables false

/-- Four bits as an array. -/
def F4 (a b c d : Nat) : Value := .agg #[.int .u8 (a : Int), .int .u8 (b : Int), .int .u8 (c : Int), .int .u8 (d : Int)]

set_option maxHeartbeats 1000000 in
/-- conv.told. -/
theorem toldC (q : Nat) (w : World) (hq : q < 128) (hT : Taps w) :
    Calls Tryd.prog 53 #[.int .i64 (q : Int)] w fun e w' => e = .returned (F4 (pr 7 (q &&& 79)) (pr 7 (q &&& 87)) (pr 7 (q &&& 109)) (pr 7 (q &&& 121))) ∧ Below w.heap.size w w' := by
  have k0 := hT.c0
  have k1 := hT.c1
  have k2 := hT.c2
  have k3 := hT.c3
  have i0 : ∀ w, (Instr.index 33 (.agg #[.int .i64 79, .int .i64 87, .int .i64 109, .int .i64 121]) (.int .i64 0)).run Tryd.prog w = .ok (.int .i64 79) w := fun _ => by kernel_rfl
  have i1 : ∀ w, (Instr.index 33 (.agg #[.int .i64 79, .int .i64 87, .int .i64 109, .int .i64 121]) (.int .i64 1)).run Tryd.prog w = .ok (.int .i64 87) w := fun _ => by kernel_rfl
  have i2 : ∀ w, (Instr.index 33 (.agg #[.int .i64 79, .int .i64 87, .int .i64 109, .int .i64 121]) (.int .i64 2)).run Tryd.prog w = .ok (.int .i64 109) w := fun _ => by kernel_rfl
  have i3 : ∀ w, (Instr.index 33 (.agg #[.int .i64 79, .int .i64 87, .int .i64 109, .int .i64 121]) (.int .i64 3)).run Tryd.prog w = .ok (.int .i64 121) w := fun _ => by kernel_rfl
  have a0 : bits BinOp.and IntKind.i64 (q : Int) 79 = ((q &&& 79 : Nat) : Int) := i64_and_nat q 79 (by omega) (by omega)
  have a1 : bits BinOp.and IntKind.i64 (q : Int) 87 = ((q &&& 87 : Nat) : Int) := i64_and_nat q 87 (by omega) (by omega)
  have a2 : bits BinOp.and IntKind.i64 (q : Int) 109 = ((q &&& 109 : Nat) : Int) := i64_and_nat q 109 (by omega) (by omega)
  have a3 : bits BinOp.and IntKind.i64 (q : Int) 121 = ((q &&& 121 : Nat) : Int) := i64_and_nat q 121 (by omega) (by omega)
  have l0 : q &&& 79 < 128 := Nat.and_lt_two_pow (n := 7) _ (by omega)
  have l1 : q &&& 87 < 128 := Nat.and_lt_two_pow (n := 7) _ (by omega)
  have l2 : q &&& 109 < 128 := Nat.and_lt_two_pow (n := 7) _ (by omega)
  have l3 : q &&& 121 < 128 := Nat.and_lt_two_pow (n := 7) _ (by omega)
  have C0 := Lib.hid (fun w => oddC (q &&& 79) w l0)
  have C1 := Lib.hid (fun w => oddC (q &&& 87) w l1)
  have C2 := Lib.hid (fun w => oddC (q &&& 109) w l2)
  have C3 := Lib.hid (fun w => oddC (q &&& 121) w l3)
  generalize q &&& 79 = q0 at *
  generalize q &&& 87 = q1 at *
  generalize q &&& 109 = q2 at *
  generalize q &&& 121 = q3 at *
  generalize pr 7 q0 = p0 at *
  generalize pr 7 q1 = p1 at *
  generalize pr 7 q2 = p2 at *
  generalize pr 7 q3 = p3 at *
  have hpos := hT.pos
  clear hT
  go_enter Tryd.func53, Tryd.ntmps53
  go_wp2
  refine wp_loop_rounds 5 ?_
  rw [rounds_succ]
  go_wp2_with (go_at_call 75; refine (C0.out _).mono ?_; rintro e w' ⟨rfl, rfl⟩)
  rw [rounds_succ]
  go_wp2_with (go_at_call 75; refine (C1.out _).mono ?_; rintro e w' ⟨rfl, rfl⟩)
  rw [rounds_succ]
  go_wp2_with (go_at_call 75; refine (C2.out _).mono ?_; rintro e w' ⟨rfl, rfl⟩)
  rw [rounds_succ]
  go_wp2_with (go_at_call 75; refine (C3.out _).mono ?_; rintro e w' ⟨rfl, rfl⟩)
  rw [rounds_succ]
  go_wp2
  refine bodyPost_ret (v := F4 p0 p1 p2 p3) ?_ rfl ⟨rfl, ?_⟩
  · exact results_cell_row (P := Tryd.prog) (fn := Tryd.f53) (p := 2) (ty := 76) rfl _ _ w.heap.size 76 #[.int .u8 (p0 : Int), .int .u8 (p1 : Int), .int .u8 (p2 : Int), .int .u8 (p3 : Int)] (0, 0) _ rfl (heap_alloc2_old w _ _) Tryd.underlying76 rfl (by kernel_rfl)
  · exact ((Below.refl _ _).alloc (Nat.le_refl _) _).alloc (by simp) _

theorem told_out (s x : Nat) (hs : s < 64) (hx : x ≤ 1) : F4 (pr 7 ((64 * x + s) &&& 79)) (pr 7 ((64 * x + s) &&& 87)) (pr 7 ((64 * x + s) &&& 109)) (pr 7 ((64 * x + s) &&& 121)) = F4 (Cv.out s x 0) (Cv.out s x 1) (Cv.out s x 2) (Cv.out s x 3) := by
  have h0 := pr_out s hs x (by omega) 0 (by omega)
  have h1 := pr_out s hs x (by omega) 1 (by omega)
  have h2 := pr_out s hs x (by omega) 2 (by omega)
  have h3 := pr_out s hs x (by omega) 3 (by omega)
  simp only [tapOf] at h0 h1 h2 h3
  rw [h0, h1, h2, h3]
/-- conv.told of a state and a bit. -/
theorem toldOut (s x : Nat) (w : World) (hs : s < 64) (hx : x ≤ 1) (hT : Taps w) :
    Calls Tryd.prog 53 #[.int .i64 ((64 * x + s : Nat) : Int)] w fun e w' => e = .returned (F4 (Cv.out s x 0) (Cv.out s x 1) (Cv.out s x 2) (Cv.out s x 3)) ∧ Below w.heap.size w w' := by
  have := toldC (64 * x + s) w (by omega) hT
  rw [told_out s x hs hx] at this
  exact this
end Go.Proofs.YtibddlldgmidlabDoor
