/-
  Contracts of layer 6: Out, Next.
-/
import Derived.Test.YtibddlldgmidlabDoorKb
import Derived.Test.YtibddlldgmidlabDoorBk
namespace Go.Proofs.YtibddlldgmidlabDoor
open Go.RowKit
set_option maxRecDepth 100000
set_option linter.unusedVariables false

/-- Four bits as cells. -/
def C4 (a b c d : Nat) : Array Value := #[.int .u8 (a : Int), .int .u8 (b : Int), .int .u8 (c : Int), .int .u8 (d : Int)]
theorem F4_C4 (a b c d : Nat) : F4 a b c d = .agg (C4 a b c d) := rfl
theorem C4_size (a b c d : Nat) : (C4 a b c d).size = 4 := rfl
theorem C4_one (a b c d : Nat) : (C4 a b c d).all (·.oneCell') = true := by simp [C4, Value.oneCell']
theorem info4 : (Tryd.prog.info? 76).map (·.size) = some 4 := by kernel_rfl

set_option maxHeartbeats 1000000 in
/-- conv.Out. -/
theorem outC (s x : Nat) (w : World) (hs : s < 64) (hx : x ≤ 1) (hT : Taps w) :
    Calls Tryd.prog 87 #[.int .i64 (s : Int), .int .u8 (x : Int)] w fun e w' => e = .returned (.tuple #[F4 (Cv.out s x 0) (Cv.out s x 1) (Cv.out s x 2) (Cv.out s x 3), .int .i64 0]) ∧ Below w.heap.size w w' := by
  have bel0 : Below w.heap.size w (w.alloc (.cells (C4 0 0 0 0) 76)) := (Below.refl _ _).alloc (Nat.le_refl _) _
  have C1 := Lib.hid (fun w => convRight s x w hs hx)
  have C2 := Lib.hid (fun w => wordC s x w hs hx)
  have C3 := Lib.hid (toldOut s x _ hs hx (hT.after bel0))
  have hL := laid_alloc w 76 (C4 0 0 0 0)
  generalize 64 * x + s = q at *
  generalize Cv.out s x 0 = o0 at *
  generalize Cv.out s x 1 = o1 at *
  generalize Cv.out s x 2 = o2 at *
  generalize Cv.out s x 3 = o3 at *
  rw [F4_C4] at *
  clear hT
  go_enter Tryd.func87, Tryd.ntmps87
  go_wp2_with (first | (go_at_call 89; refine (C1.out _).mono ?_; rintro e w' ⟨rfl, rfl⟩) | (go_at_call 52; refine (C2.out _).mono ?_; rintro e w' ⟨rfl, rfl⟩) | (go_at_call 53; refine C3.out.mono ?_; rintro e w1 ⟨rfl, hb1⟩; have hg := hL.row.after hb1) | (refine at_store rfl 76 _ _ rfl w.heap.size (C4 o0 o1 o2 o3) rfl rfl 76 (C4 0 0 0 0) hg info4 rfl (C4_one _ _ _ _) ?_; intro w2 hu))
  refine bodyPost_ret (v := .tuple #[.agg (C4 o0 o1 o2 o3), .int .i64 0]) (results_row_tmp rfl _ _ w.heap.size 76 _ _ rfl _ rfl hu.row Tryd.underlying76 rfl info4) rfl ⟨rfl, ?_⟩
  exact (bel0.trans (hb1.mono (by simp))).trans (hu.below (Nat.le_refl _))

set_option maxHeartbeats 400000 in
/-- conv.Out of what there is none of. -/
theorem outNo (s : Int) (x : Nat) (w : World) (h : s < 0 ∨ 63 < s ∨ 1 < x) :
    Calls Tryd.prog 87 #[.int .i64 s, .int .u8 (x : Int)] w fun e w' => e = .returned (.tuple #[F4 0 0 0 0, .int .i64 1]) ∧ Below w.heap.size w w' := by
  have C1 := Lib.hid (fun w => convRightNo s x w h)
  have bel0 : Below w.heap.size w (w.alloc (.cells (C4 0 0 0 0) 76)) := (Below.refl _ _).alloc (Nat.le_refl _) _
  have hL := laid_alloc w 76 (C4 0 0 0 0)
  clear h
  go_enter Tryd.func87, Tryd.ntmps87
  go_wp2_with (first | (go_at_call 89; refine (C1.out _).mono ?_; rintro e w' ⟨rfl, rfl⟩))
  refine bodyPost_ret (v := .tuple #[.agg (C4 0 0 0 0), .int .i64 1]) (results_row_tmp rfl _ _ w.heap.size 76 (C4 0 0 0 0) _ rfl _ rfl hL.row Tryd.underlying76 rfl info4) rfl ⟨rfl, bel0⟩

theorem half_word (s x : Nat) : (64 * x + s) / 2 = Cv.nx s x := by unfold Cv.nx; omega
set_option maxHeartbeats 400000 in
/-- conv.Next. -/
theorem nextC (s x : Nat) (w : World) (hs : s < 64) (hx : x ≤ 1) :
    Calls Tryd.prog 86 #[.int .i64 (s : Int), .int .u8 (x : Int)] w fun e w' => e = .returned (.tuple #[.int .i64 (Cv.nx s x : Nat), .int .i64 0]) ∧ w = w' := by
  have C1 := Lib.hid (convRight s x w hs hx)
  have C2 := Lib.hid (wordC s x w hs hx)
  have C3 := Lib.hid (behindC (64 * x + s) w (by omega))
  rw [half_word] at C3
  generalize 64 * x + s = q at *
  generalize Cv.nx s x = t at *
  go_enter Tryd.func86, Tryd.ntmps86
  go_wp2_with (first | (go_at_call 89; refine C1.out.mono ?_; rintro e w' ⟨rfl, rfl⟩) | (go_at_call 52; refine C2.out.mono ?_; rintro e w' ⟨rfl, rfl⟩) | (go_at_call 54; refine C3.out.mono ?_; rintro e w' ⟨rfl, rfl⟩))
  go_ret2
  exact ⟨rfl, rfl⟩
set_option maxHeartbeats 400000 in
/-- conv.Next of what there is none of. -/
theorem nextNo (s : Int) (x : Nat) (w : World) (h : s < 0 ∨ 63 < s ∨ 1 < x) :
    Calls Tryd.prog 86 #[.int .i64 s, .int .u8 (x : Int)] w fun e w' => e = .returned (.tuple #[.int .i64 0, .int .i64 1]) ∧ w = w' := by
  have C1 := Lib.hid (convRightNo s x w h)
  clear h
  go_enter Tryd.func86, Tryd.ntmps86
  go_wp2_with (go_at_call 89; refine C1.out.mono ?_; rintro e w' ⟨rfl, rfl⟩)
  go_ret2
  exact ⟨rfl, rfl⟩
end Go.Proofs.YtibddlldgmidlabDoor
