/-
  Contracts of bits.Right and of the reference of layer 1: Right, Few.
-/
import Derived.Test.YtknfpdlomgllhaaDoorMem
import Derived.Test.YtknfpdlomgllhaaDoorMz
namespace Go.Proofs.YtknfpdlomgllhaaDoor
open Go.RowKit
set_option maxRecDepth 100000
set_option linter.unusedVariables false
set_option maxHeartbeats 400000 in
/-- bits.Right. -/
theorem right (A : Option Addr) (n c : Nat) (bs : List Nat) (w : World) (hr : Rd w w.heap.size A n (U8 bs)) (hb : ∀ b ∈ bs, b < 256) (hn : n ≤ 65536) :
    Calls Tryd.prog 57 #[.slice A n c] w fun e w' => e = .returned (.bool (Bm.isB bs)) ∧ w = w' := by
  have HN := Lib.hid hr.len8
  go_enter Tryd.func57, Tryd.ntmps57
  go_wp2
  go_loop [7] (fun i => ∃ k : Nat, k ≤ n ∧ i = .int .i64 k ∧ Hid (∀ j, j < k → bs.getD j 0 ≤ 1)) (fun i => n - (intOf i).toNat)
  case atStart => exact ⟨0, Nat.zero_le _, rfl, fun j h => absurd h (by omega)⟩
  case round =>
    obtain ⟨k, hk, rfl, HA⟩ := hrel
    by_cases hlt : k < n
    · obtain ⟨b, off, rfl, hlt2, hcell⟩ := hr.cell8 k hlt
      have hx := Bm.byte_lt bs hb k
      obtain ⟨x, hxe⟩ : ∃ x, x = bs.getD k 0 := ⟨_, rfl⟩
      rw [← hxe] at hx hcell
      have HX := Lib.hid hxe
      clear hxe
      by_cases h1 : 1 < x
      · go_wp2
        go_ret
        exact ⟨ret_bool (Bm.isB_false k (by rw [← HN.out]; exact hlt) (by rw [← HX.out]; exact h1)).symm, rfl⟩
      · go_wp2
        go_round
        case rel => exact ⟨k + 1, by omega, by go_num, fun j hj => by
          by_cases hjk : j = k
          · subst hjk; rw [← HX.out]; omega
          · exact HA.out j (by omega)⟩
        case measure => simp [intOf] <;> omega
    · go_wp2
      go_ret
      refine ⟨ret_bool (Bm.isB_of_getD fun i hi => HA.out i ?_).symm, rfl⟩
      rw [← HN.out] at hi; omega
set_option maxHeartbeats 400000 in
/-- The reference's Right. -/
theorem refRight (A : Option Addr) (n c : Nat) (bs : List Nat) (w : World) (hr : Rd w w.heap.size A n (U8 bs)) (hb : ∀ b ∈ bs, b < 256) (hn : n ≤ 65536) :
    Calls Tryd.prog 25 #[.slice A n c] w fun e w' => e = .returned (.bool (Bm.isB bs)) ∧ w = w' := by
  have HN := Lib.hid hr.len8
  go_enter Tryd.func25, Tryd.ntmps25
  go_wp2
  go_loop [3] (fun i => ∃ k : Nat, k ≤ n ∧ i = .int .i64 k ∧ Hid (∀ j, j < k → bs.getD j 0 ≤ 1)) (fun i => n - (intOf i).toNat)
  case atStart => exact ⟨0, Nat.zero_le _, rfl, fun j h => absurd h (by omega)⟩
  case round =>
    obtain ⟨k, hk, rfl, HA⟩ := hrel
    by_cases hlt : k < n
    · obtain ⟨b, off, rfl, hlt2, hcell⟩ := hr.cell8 k hlt
      have hx := Bm.byte_lt bs hb k
      obtain ⟨x, hxe⟩ : ∃ x, x = bs.getD k 0 := ⟨_, rfl⟩
      rw [← hxe] at hx hcell
      have HX := Lib.hid hxe
      clear hxe
      by_cases h1 : 1 < x
      · go_wp2
        go_ret
        exact ⟨ret_bool (Bm.isB_false k (by rw [← HN.out]; exact hlt) (by rw [← HX.out]; exact h1)).symm, rfl⟩
      · go_wp2
        go_round
        case rel => exact ⟨k + 1, by omega, by go_num, fun j hj => by
          by_cases hjk : j = k
          · subst hjk; rw [← HX.out]; omega
          · exact HA.out j (by omega)⟩
        case measure => simp [intOf] <;> omega
    · go_wp2
      go_ret
      refine ⟨ret_bool (Bm.isB_of_getD fun i hi => HA.out i ?_).symm, rfl⟩
      rw [← HN.out] at hi; omega
theorem rem_u8 (x : Nat) : ((x : Int) % 2) = ((x % 2 : Nat) : Int) := by omega
set_option maxHeartbeats 1000000 in
/-- The reference's Few. -/
theorem fewC (A : Option Addr) (n c most : Nat) (bs : List Nat) (w : World) (hr : Rd w w.heap.size A n (U8 bs)) (hb : ∀ b ∈ bs, b < 256) (hn : most ≤ 65536) (hn2 : n ≤ 9223372036854775807) :
    Calls Tryd.prog 9 #[.slice A n c, .int .i64 (most : Int)] w (Made w (Bm.few bs most)) := by
  have HN := Lib.hid hr.len8
  go_enter Tryd.func9, Tryd.ntmps9
  go_wp2
  go_loopw [5, 6] (fun l i wr => ∃ k : Nat, k ≤ n ∧ k ≤ most ∧ i = .int .i64 k ∧ ∃ A1 c1, l = .slice A1 k c1 ∧ Own wr w.heap.size 5 A1 k c1 (U8 (Bm.few bs k)) ∧ Below w.heap.size w wr) (fun _ i _ => n - (intOf i).toNat)
  case atStart => exact ⟨0, Nat.zero_le _, Nat.zero_le _, rfl, none, 0, rfl, by rw [Bm.few_zero]; exact Own.nil _ _ _, Below.refl _ _⟩
  case round =>
    obtain ⟨k, hk, hkm, rfl, A1, c1, rfl, hown, hbel⟩ := hrel
    have hsz := hbel.size
    by_cases hlt : k < n
    · by_cases hlt1 : k < most
      · obtain ⟨b, off, rfl, hlt2, hcell⟩ := (hr.below hbel).cell8 k hlt
        have hx := Bm.byte_lt bs hb k
        have HT := Lib.hid (Bm.few_take bs k (by rw [← HN.out]; exact hlt))
        obtain ⟨x, hxe⟩ : ∃ x, x = bs.getD k 0 := ⟨_, rfl⟩
        rw [← hxe] at hx hcell HT
        clear hxe
        have t1 : decide ((k : Int) < (n : Int)) = true := by simp; omega
        have t2 : decide ((k : Int) < (most : Int)) = true := by simp; omega
        go_wp2_with (at_builtin; refine app8 _ rfl _ _ rfl w.heap.size _ _ _ _ (x % 2) _ (rem_u8 x) rfl hown rfl (by omega) hsz ?_; intro A3 c3 w3 hown3 hgrow3)
        go_roundw
        case rel =>
          exact ⟨k + 1, by omega, by omega, by go_num, A3, c3, rfl, by rw [HT.out]; exact hown3, hbel.grown hgrow3 hsz (fun j hj => (hown.block j hj).1)⟩
        case measure => simp [intOf] <;> omega
      · have t1 : decide ((k : Int) < (n : Int)) = true := by simp; omega
        have t2 : decide ((k : Int) < (most : Int)) = false := by simp; omega
        go_wp2
        go_ret
        refine ⟨A1, k, c1, rfl, ?_, hbel⟩
        rw [show most = k by omega]; exact hown
    · have t1 : decide ((k : Int) < (n : Int)) = false := by simp; omega
      go_wp2
      go_ret
      refine ⟨A1, k, c1, rfl, hown.to rfl ?_, hbel⟩
      have e : Bm.few bs most = Bm.few bs k := by
        unfold Bm.few
        rw [List.take_of_length_le (by rw [← HN.out]; omega), List.take_of_length_le (by rw [← HN.out]; omega)]
      rw [e]
end Go.Proofs.YtknfpdlomgllhaaDoor
