/-
  Contracts of layer 8 and of its reference: All, Hard, Few, Add.
-/
import Derived.Test.YtibddlldgmidlabDoorSb
namespace Go.Proofs.YtibddlldgmidlabDoor
open Go.RowKit
set_option maxRecDepth 100000
set_option linter.unusedVariables false

/-- What a call gives that makes a []int. -/
def MadeI (w : World) (zs : List Int) (e : Ending) (w' : World) : Prop := ∃ A n c, e = .returned (.slice A n c) ∧ Own w' w.heap.size 3 A n c (I64 zs) ∧ Below w.heap.size w w'

set_option maxHeartbeats 400000 in
/-- soft.Add. -/
theorem softAdd (a b : Int) (w : World) : Calls Tryd.prog 41 #[.int .i64 a, .int .i64 b] w fun e w' => e = .returned (.int .i64 (Cv.clip (Cv.clip a + Cv.clip b))) ∧ w = w' := by
  obtain ⟨h1, h1'⟩ := Cv.clip_bounds a
  obtain ⟨h2, h2'⟩ := Cv.clip_bounds b
  go_enter Tryd.func41, Tryd.ntmps41
  go_wp2_with (go_at_call 69; refine (softClip _ _).mono ?_; rintro e w' ⟨rfl, rfl⟩)
  go_ret
  exact ⟨rfl, rfl⟩
set_option maxHeartbeats 400000 in
/-- The reference's Add. -/
theorem refAdd (a b : Int) (w : World) : Calls Tryd.prog 45 #[.int .i64 a, .int .i64 b] w fun e w' => e = .returned (.int .i64 (Cv.clip (Cv.clip a + Cv.clip b))) ∧ w = w' := by
  obtain ⟨h1, h1'⟩ := Cv.clip_bounds a
  obtain ⟨h2, h2'⟩ := Cv.clip_bounds b
  go_enter Tryd.func45, Tryd.ntmps45
  go_wp2_with (go_at_call 70; refine (refClip _ _).mono ?_; rintro e w' ⟨rfl, rfl⟩)
  go_ret
  exact ⟨rfl, rfl⟩
end Go.Proofs.YtibddlldgmidlabDoor
