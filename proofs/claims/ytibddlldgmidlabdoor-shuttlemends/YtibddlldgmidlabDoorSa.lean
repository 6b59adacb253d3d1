/-
  Contracts of layer 8 and of its reference: Clip, Of, within, Right.
-/
import Derived.Test.YtibddlldgmidlabDoorSm
import Derived.Test.YtibddlldgmidlabDoorMem
import Derived.Test.YtibddlldgmidlabDoorRr
namespace Go.Proofs.YtibddlldgmidlabDoor
open Go.RowKit
set_option maxRecDepth 100000
set_option linter.unusedVariables false

set_option maxHeartbeats 400000 in
/-- soft.Clip. -/
theorem softClip (z : Int) (w : World) : Calls Tryd.prog 69 #[.int .i64 z] w fun e w' => e = .returned (.int .i64 (Cv.clip z)) ∧ w = w' := by
  by_cases h1 : 31 < z
  · have HC := Lib.hid (Cv.clip_hi h1)
    go_enter Tryd.func69, Tryd.ntmps69
    go_wp2 <;> (go_ret; exact ⟨ret_int' (by rw [HC.out]; try omega), rfl⟩)
  · by_cases h2 : z < -31
    · have HC := Lib.hid (Cv.clip_lo h2)
      go_enter Tryd.func69, Tryd.ntmps69
      go_wp2 <;> (go_ret; exact ⟨ret_int' (by rw [HC.out]; try omega), rfl⟩)
    · have HC := Lib.hid (Cv.clip_in h1 h2)
      go_enter Tryd.func69, Tryd.ntmps69
      go_wp2 <;> (go_ret; exact ⟨ret_int' (by rw [HC.out]; try omega), rfl⟩)
set_option maxHeartbeats 400000 in
/-- The reference's Clip. -/
theorem refClip (z : Int) (w : World) : Calls Tryd.prog 70 #[.int .i64 z] w fun e w' => e = .returned (.int .i64 (Cv.clip z)) ∧ w = w' := by
  by_cases h1 : 31 < z
  · have HC := Lib.hid (Cv.clip_hi h1)
    go_enter Tryd.func70, Tryd.ntmps70
    go_wp2
    go_ret
    exact ⟨ret_int' HC.out.symm, rfl⟩
  · by_cases h2 : z < -31
    · have HC := Lib.hid (Cv.clip_lo h2)
      go_enter Tryd.func70, Tryd.ntmps70
      go_wp2
      go_ret
      exact ⟨ret_int' HC.out.symm, rfl⟩
    · have HC := Lib.hid (Cv.clip_in h1 h2)
      go_enter Tryd.func70, Tryd.ntmps70
      go_wp2
      go_ret
      exact ⟨ret_int' HC.out.symm, rfl⟩
set_option maxHeartbeats 400000 in
/-- soft.Of. -/
theorem softOf (x : Nat) (w : World) : Calls Tryd.prog 42 #[.int .u8 (x : Int)] w fun e w' => e = .returned (.int .i64 (if x = 0 then 1 else -1)) ∧ w = w' := by
  by_cases h : x = 0
  · rw [if_pos h]
    subst h
    go_enter Tryd.func42, Tryd.ntmps42
    go_wp2
    go_ret
    exact ⟨rfl, rfl⟩
  · rw [if_neg h]
    have e : ((x : Int) == 0) = false := by simp; omega
    go_enter Tryd.func42, Tryd.ntmps42
    go_wp2
    go_ret
    exact ⟨rfl, rfl⟩
set_option maxHeartbeats 400000 in
/-- The reference's Of. -/
theorem refOf (x : Nat) (w : World) : Calls Tryd.prog 46 #[.int .u8 (x : Int)] w fun e w' => e = .returned (.int .i64 (if x = 0 then 1 else -1)) ∧ w = w' := by
  by_cases h : x = 0
  · rw [if_pos h]
    subst h
    go_enter Tryd.func46, Tryd.ntmps46
    go_wp2
    go_ret
    exact ⟨rfl, rfl⟩
  · rw [if_neg h]
    have e : ((x : Int) == 0) = false := by simp; omega
    go_enter Tryd.func46, Tryd.ntmps46
    go_wp2
    go_ret
    exact ⟨rfl, rfl⟩
set_option maxHeartbeats 400000 in
/-- soft.within. -/
theorem softWithin (A : Option Addr) (n c : Nat) (zs : List Int) (w : World) (hr : Rd w w.heap.size A n (I64 zs)) (hn : n ≤ 65536) :
    Calls Tryd.prog 88 #[.slice A n c] w fun e w' => e = .returned (.bool (Cv.inB zs)) ∧ w = w' := by
  have HN := Lib.hid hr.len64
  go_enter Tryd.func88, Tryd.ntmps88
  go_wp2
  go_loop [7] (fun i => ∃ k : Nat, k ≤ n ∧ i = .int .i64 k ∧ Hid (∀ j, j < k → -31 ≤ zs.getD j 0 ∧ zs.getD j 0 ≤ 31)) (fun i => n - (intOf i).toNat)
  case atStart => exact ⟨0, Nat.zero_le _, rfl, fun j hj => by omega⟩
  case round =>
    obtain ⟨k, hk, rfl, HR⟩ := hrel
    by_cases hlt : k < n
    · obtain ⟨b', off, rfl, hlt2, hcell⟩ := hr.cell64 k hlt
      obtain ⟨x, hxe⟩ : ∃ x, x = zs.getD k 0 := ⟨_, rfl⟩
      have HX := Lib.hid hxe
      rw [← hxe] at hcell
      clear hxe
      by_cases hb : -31 ≤ x ∧ x ≤ 31
      · have e : (x != Cv.clip x) = false := by rw [← (Cv.clip_eq x).2 hb]; simp
        go_wp2_with (go_at_call 69; refine (softClip x _).mono ?_; rintro e w' ⟨rfl, rfl⟩)
        go_round
        case rel =>
          refine ⟨k + 1, by omega, by go_num, fun j hj => ?_⟩
          by_cases hjk : j = k
          · rw [hjk, ← HX.out]; exact hb
          · exact HR.out j (by omega)
        case measure => simp [intOf] <;> omega
      · have e : (x != Cv.clip x) = true := by
          have : x ≠ Cv.clip x := fun h => hb ((Cv.clip_eq x).1 h)
          simpa using this
        go_wp2_with (go_at_call 69; refine (softClip x _).mono ?_; rintro e w' ⟨rfl, rfl⟩)
        go_ret
        exact ⟨ret_bool (Cv.inB_false k (by rw [← HN.out]; exact hlt) (by rw [← HX.out]; exact hb)).symm, rfl⟩
    · go_wp2
      go_ret
      exact ⟨ret_bool (Cv.inB_of_getD (fun i hi => HR.out i (by rw [← HN.out] at hi; omega))).symm, rfl⟩
end Go.Proofs.YtibddlldgmidlabDoor
