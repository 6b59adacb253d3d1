/-
  Contracts of bits.Right and of the reference of layer 1: Right, Few.
-/
import Derived.Test.YtkmacepodomdmaaDoorMem
import Derived.Test.YtkmacepodomdmaaDoorBn
namespace Go.Proofs.YtkmacepodomdmaaDoor
open Go.RowKit
set_option maxRecDepth 100000
set_option linter.unusedVariables false
set_option maxHeartbeats 400000 in
/-- bits.Right. -/
theorem right (A : Option Addr) (n c : Nat) (bs : List Nat) (w : World) (hr : Rd w w.heap.size A n (U8 bs)) (hb : ∀ b ∈ bs, b < 256) (hn : n ≤ 65536) :
    Calls Tryd.prog 70 #[.slice A n c] w fun e w' => e = .returned (.bool (Bm.isB bs)) ∧ w = w' := by
  have HN := Lib.hid hr.len8
  go_enter Tryd.func70, Tryd.ntmps70
  go_wp2
  go_loop [7] (fun i => ∃ k : Nat, k ≤ n ∧ i = .int .i64 k ∧ Hid (∀ j, j < k → bs.getD j 0 ≤ 1)) (fun i => n - (intOf i).toNat)
  case atStart => exact ⟨0, Nat.zero_le _, rfl, fun j h => absurd h (by omega)⟩
  case round =>
    obtain ⟨k, hk, rfl, HA⟩ := hrel
    by_cases hlt : k < n
    · obtain ⟨b, off, rfl, hlt2, hcell⟩ := hr.cell8 k hlt
      have hx := Bm.byte_lt bs hb k
      obtain ⟨x, hxe⟩ : ∃ x, x = bs.getD k 0 := ⟨_, rfl⟩
      rw [← hxe] at hx hcell
      have HX := Lib.hid hxe
      clear hxe
      by_cases h1 : 1 < x
      · go_wp2
        go_ret
        exact ⟨ret_bool (Bm.isB_false k (by rw [← HN.out]; exact hlt) (by rw [← HX.out]; exact h1)).symm, rfl⟩
      · go_wp2
        go_round
        case rel => exact ⟨k + 1, by omega, by go_num, fun j hj => by
          by_cases hjk : j = k
          · subst hjk; rw [← HX.out]; omega
          · exact HA.out j (by omega)⟩
        case measure => simp [intOf] <;> omega
    · go_wp2
      go_ret
      refine ⟨ret_bool (Bm.isB_of_getD fun i hi => HA.out i ?_).symm, rfl⟩
      rw [← HN.out] at hi; omega
set_option maxHeartbeats 400000 in
/-- The reference's Right. -/
theorem refRight (A : Option Addr) (n c : Nat) (bs : List Nat) (w : World) (hr : Rd w w.heap.size A n (U8 bs)) (hb : ∀ b ∈ bs, b < 256) (hn : n ≤ 65536) :
    Calls Tryd.prog 36 #[.slice A n c] w fun e w' => e = .returned (.bool (Bm.isB bs)) ∧ w = w' := by
  have HN := Lib.hid hr.len8
  go_enter Tryd.func36, Tryd.ntmps36
  go_wp2
  go_loop [3] (fun i => ∃ k : Nat, k ≤ n ∧ i = .int .i64 k ∧ Hid (∀ j, j < k → bs.getD j 0 ≤ 1)) (fun i => n - (intOf i).toNat)
  case atStart => exact ⟨0, Nat.zero_le _, rfl, fun j h => absurd h (by omega)⟩
  case round =>
    obtain ⟨k, hk, rfl, HA⟩ := hrel
    by_cases hlt : k < n
    · obtain ⟨b, off, rfl, hlt2, hcell⟩ := hr.cell8 k hlt
      have hx := Bm.byte_lt bs hb k
      obtain ⟨x, hxe⟩ : ∃ x, x = bs.getD k 0 := ⟨_, rfl⟩
      rw [← hxe] at hx hcell
      have HX := Lib.hid hxe
      clear hxe
      by_cases h1 : 1 < x
      · go_wp2
        go_ret
        exact ⟨ret_bool (Bm.isB_false k (by rw [← HN.out]; exact hlt) (by rw [← HX.out]; exact h1)).symm, rfl⟩
      · go_wp2
        go_round
        case rel => exact ⟨k + 1, by omega, by go_num, fun j hj => by
          by_cases hjk : j = k
          · subst hjk; rw [← HX.out]; omega
          · exact HA.out j (by omega)⟩
        case measure => simp [intOf] <;> omega
    · go_wp2
      go_ret
      refine ⟨ret_bool (Bm.isB_of_getD fun i hi => HA.out i ?_).symm, rfl⟩
      rw [← HN.out] at hi; omega
theorem rem_u8 (x : Nat) : ((x : Int) % 2) = ((x % 2 : Nat) : Int) := by omega
end Go.Proofs.YtkmacepodomdmaaDoor
