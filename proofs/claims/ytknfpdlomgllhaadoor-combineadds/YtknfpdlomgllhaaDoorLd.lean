/-
  The variable's listed datum: the door's own heap meets it; what it gives the walks.
-/
import Derived.Test.YtknfpdlomgllhaaDoorRows
import Derived.Test.YtknfpdlomgllhaaDoorKz
import Derived.Lib.LaidTab
import Derived.LaidMore
import Derived.Stop.Joined
import Derived.ProofKit
namespace Go.Proofs.YtknfpdlomgllhaaDoor
open Go.RowKit
set_option maxRecDepth 100000

theorem gTaps : Tryd.prog.globalNamed "shuttle/conv.taps" = some 6 := by kernel_rfl
theorem tTaps : (Tryd.prog.globals[6]?).map (·.type) = some 22 := by kernel_rfl
/-- The door's own heap meets the condition. -/
theorem door_met (os : Os) (args : Array Value) : laidMetH Tryd.prog [("shuttle/conv.taps", Rows.laid_shuttle_conv_taps)] ((World.doorLaid Tryd.prog 400 os).forCall (fun _ _ => 0) ⟨#[], args, []⟩).memory :=
  laidMetH_of_parts3 (fuel := 8) (laidMet_of_run' 8 (by kernel_rfl) (by kernel_rfl)) (by kernel_rfl) (by kernel_rfl)
/-- What the condition gives the walks. -/
theorem of_laid {W : World} (h : laidMetH Tryd.prog [("shuttle/conv.taps", Rows.laid_shuttle_conv_taps)] W) : Taps W := by
  rw [MakeChecks.laidMetH_plain _ _ _ (by kernel_rfl)] at h
  have ht : Lib.TabIs Tryd.prog W "shuttle/conv.taps" .i64 [79, 87, 109, 121] :=
    Lib.tabIs_of_head (rest := []) gTaps tTaps Tryd.underlying22 Tryd.underlying3 (by kernel_rfl) (by kernel_rfl) h
  exact ⟨ht.cell gTaps 0 (by decide), ht.cell gTaps 1 (by decide), ht.cell gTaps 2 (by decide), ht.cell gTaps 3 (by decide)⟩
end Go.Proofs.YtknfpdlomgllhaaDoor
