/-
  Contracts of the statements' first test, and of crc32.told.
-/
import Derived.Test.YtmafkcjlehlebaaCa
import Derived.Lib.SlBytesConst
namespace Go.Proofs.Ytmafkcjlehlebaa
open Go.RowKit
set_option linter.unusedVariables false

/-- A new block of cells reads as these. -/
theorem rd_block (w : World) (t : TypeId) (cs : Array Value) (m : Nat × Nat) (xs : List Value) (n : Nat) (hn : cs.size = n) (h : cs.toList = xs) : Rd (w.alloc (.cells cs t m)) (w.alloc (.cells cs t m)).heap.size (some ⟨w.heap.size, 0, none⟩) n xs := by
  subst hn
  refine ⟨by rw [← h, Array.length_toList], fun _ => ⟨w.heap.size, 0, rfl, by simp, fun i v hv => ?_⟩⟩
  subst h
  rw [Array.getElem?_toList] at hv
  show (World.cell? _ _) = _
  simp only [World.cell?, World.alloc, Nat.zero_add, Array.getElem?_push_size]
  exact hv

theorem known16 : Crc.r16 [49, 50, 51, 52, 53, 54, 55, 56, 57] = 10673 := by decide +kernel
theorem known32 : Crc.c32 [49, 50, 51, 52, 53, 54, 55, 56, 57] = 3421780262 := by decide +kernel

theorem known_lt : ∀ b ∈ [49, 50, 51, 52, 53, 54, 55, 56, 57], b < 256 := by decide

set_option maxHeartbeats 400000 in
theorem sums16 (w : World) : Calls Try.prog 17 #[] w fun e w' => e = .returned (.bool true) ∧ Below w.heap.size w w' := by
  have kc := fun (w : World) (C : Array Value) (n c : Nat) => Lib.run_convert_bytes_const (P := Try.prog) w 22 5 C n c Try.underlying22 Try.underlying5
  have C := Lib.hid (sum16 _ 9 9 [49, 50, 51, 52, 53, 54, 55, 56, 57] _ (rd_block w 5 #[.int .u8 49, .int .u8 50, .int .u8 51, .int .u8 52, .int .u8 53, .int .u8 54, .int .u8 55, .int .u8 56, .int .u8 57] (9, 10) (U8 [49, 50, 51, 52, 53, 54, 55, 56, 57]) 9 rfl rfl) known_lt (by omega))
  rw [known16] at C
  go_enter Try.func17, Try.ntmps17
  go_wp2_with (go_at_call 18; refine C.out.mono ?_; rintro e w' ⟨rfl, rfl⟩)
  go_ret
  exact ⟨rfl, (Below.refl _ _).alloc (Nat.le_refl _) _⟩
set_option maxHeartbeats 400000 in
theorem sums32 (w : World) : Calls Try.prog 13 #[] w fun e w' => e = .returned (.bool true) ∧ Below w.heap.size w w' := by
  have kc := fun (w : World) (C : Array Value) (n c : Nat) => Lib.run_convert_bytes_const (P := Try.prog) w 22 5 C n c Try.underlying22 Try.underlying5
  have C := Lib.hid (sum32 _ 9 9 [49, 50, 51, 52, 53, 54, 55, 56, 57] _ (rd_block w 5 #[.int .u8 49, .int .u8 50, .int .u8 51, .int .u8 52, .int .u8 53, .int .u8 54, .int .u8 55, .int .u8 56, .int .u8 57] (9, 10) (U8 [49, 50, 51, 52, 53, 54, 55, 56, 57]) 9 rfl rfl) known_lt (by omega))
  rw [known32] at C
  go_enter Try.func13, Try.ntmps13
  go_wp2_with (go_at_call 14; refine C.out.mono ?_; rintro e w' ⟨rfl, rfl⟩)
  go_ret
  exact ⟨rfl, (Below.refl _ _).alloc (Nat.le_refl _) _⟩
set_option maxHeartbeats 400000 in
theorem stands (w : World) : Calls Try.prog 28 #[] w fun e w' => e = .returned (.bool true) ∧ Below w.heap.size w w' := by
  have kc := fun (w : World) (C : Array Value) (n c : Nat) => Lib.run_convert_bytes_const (P := Try.prog) w 22 5 C n c Try.underlying22 Try.underlying5
  have C := Lib.hid (sum32 _ 9 9 [49, 50, 51, 52, 53, 54, 55, 56, 57] _ (rd_block w 5 #[.int .u8 49, .int .u8 50, .int .u8 51, .int .u8 52, .int .u8 53, .int .u8 54, .int .u8 55, .int .u8 56, .int .u8 57] (9, 10) (U8 [49, 50, 51, 52, 53, 54, 55, 56, 57]) 9 rfl rfl) known_lt (by omega))
  rw [known32] at C
  go_enter Try.func28, Try.ntmps28
  go_wp2_with (go_at_call 14; refine C.out.mono ?_; rintro e w' ⟨rfl, rfl⟩)
  go_ret
  exact ⟨rfl, (Below.refl _ _).alloc (Nat.le_refl _) _⟩
end Go.Proofs.Ytmafkcjlehlebaa
