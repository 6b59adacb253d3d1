/-
  Layer 6: the statements' first test; Code of what are no bits.
-/
import Derived.Test.YtlnjealhiikmeaaDoorKf
namespace Go.Proofs.YtlnjealhiikmeaaDoor
open Go.RowKit
set_option linter.unusedVariables false

theorem eq4_ones : ∀ w, (binOp .eql 22 (.agg #[.int .u8 1, .int .u8 1, .int .u8 1, .int .u8 1]) (.agg #[.int .u8 1, .int .u8 1, .int .u8 1, .int .u8 1])).run Tryd.prog w = .ok (.bool true) w := fun _ => by kernel_rfl
set_option maxHeartbeats 1000000 in
theorem codesC (w : World) (hT : Taps w) : Calls Tryd.prog 13 #[] w fun e w' => e = .returned (.bool true) ∧ Below w.heap.size w w' := by
  have C1 := Lib.hid (outC 0 1 w (by omega) (by omega) hT)
  rw [show F4 (Cv.out 0 1 0) (Cv.out 0 1 1) (Cv.out 0 1 2) (Cv.out 0 1 3) = .agg (C4 1 1 1 1) by rw [F4_C4]; rfl] at C1
  have C2 := Lib.hid (fun W => nextC 0 1 W (by omega) (by omega))
  rw [show Cv.nx 0 1 = 32 from rfl] at C2
  have C3 := Lib.hid (fun W => stepsC 3 W (by omega))
  have heq := eq4_ones
  clear hT
  go_enter Tryd.func13, Tryd.ntmps13
  go_wp2_with (first | (go_at_call 11; refine C1.out.mono ?_; rintro e w5 ⟨rfl, hb5⟩) | (go_at_call 12; refine (C2.out _).mono ?_; rintro e w' ⟨rfl, rfl⟩) | (go_at_call 14; refine (C3.out _).mono ?_; rintro e w' ⟨rfl, rfl⟩) | (refine at_alloc rfl 22 rfl (C4 0 0 0 0) Z4_eq ?_; intro w6 h6) | (refine at_store rfl 22 _ _ rfl w5.heap.size (C4 1 1 1 1) rfl rfl 22 (C4 0 0 0 0) h6.row info4 rfl (C4_one _ _ _ _) ?_; intro w7 h7; have k0 : w7.cell? ⟨w5.heap.size, 0, none⟩ = some (.int .u8 1) := h7.row.cell 0; have k1 : w7.cell? ⟨w5.heap.size, 1, none⟩ = some (.int .u8 1) := h7.row.cell 1; have k2 : w7.cell? ⟨w5.heap.size, 2, none⟩ = some (.int .u8 1) := h7.row.cell 2; have k3 : w7.cell? ⟨w5.heap.size, 3, none⟩ = some (.int .u8 1) := h7.row.cell 3; have br7 := Below.then_ hb5 (h6.bel.trans (h7.below (Nat.le_refl _)))))
  go_ret
  exact ⟨rfl, br7⟩

set_option maxHeartbeats 400000 in
/-- conv.Code of what are no bits. -/
theorem codeNo (A : Option Addr) (n c : Nat) (l : List Nat) (w : World) (hr : Rd w w.heap.size A n (U8 l)) (hb : ∀ x ∈ l, x < 256) (hl : Bm.isB l = false) (hn : n ≤ 16384) :
    Calls Tryd.prog 17 #[.slice A n c] w fun e w' => e = .returned (.tuple #[.slice none 0 0, .int .i64 5]) ∧ w = w' := by
  have C := Lib.hid (right A n c l w hr hb (by omega))
  rw [hl] at C
  go_enter Tryd.func17, Tryd.ntmps17
  go_wp2_with (go_at_call 33; refine C.out.mono ?_; rintro e w' ⟨rfl, rfl⟩)
  go_ret2
  exact ⟨rfl, rfl⟩
end Go.Proofs.YtlnjealhiikmeaaDoor
