/-
  Layer 6: the statements' first test; Code of what are no bits.
-/
import Derived.Test.YtcmoedhpedlalaaDoorKz
namespace Go.Proofs.YtcmoedhpedlalaaDoor
open Go.RowKit
set_option maxRecDepth 100000
set_option linter.unusedVariables false

set_option maxHeartbeats 400000 in
/-- conv.Code of what are no bits. -/
theorem codeNo (A : Option Addr) (n c : Nat) (l : List Nat) (w : World) (hr : Rd w w.heap.size A n (U8 l)) (hb : ∀ x ∈ l, x < 256) (hl : Bm.isB l = false) (hn : n ≤ 16384) :
    Calls Tryd.prog 92 #[.slice A n c] w fun e w' => e = .returned (.tuple #[.slice none 0 0, .int .i64 5]) ∧ w = w' := by
  have C := Lib.hid (right A n c l w hr hb (by omega))
  rw [hl] at C
  go_enter Tryd.func92, Tryd.ntmps92
  go_wp2_with (go_at_call 79; refine C.out.mono ?_; rintro e w' ⟨rfl, rfl⟩)
  go_ret2
  exact ⟨rfl, rfl⟩
end Go.Proofs.YtcmoedhpedlalaaDoor
