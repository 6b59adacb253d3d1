/-
  Contracts of layer 8 and of its reference: Clip, Of, within, Right.
-/
import Derived.Test.YtlnjealhiikmeabDoorSm
import Derived.Test.YtlnjealhiikmeabDoorMem
import Derived.Test.YtlnjealhiikmeabDoorRr
namespace Go.Proofs.YtlnjealhiikmeabDoor
open Go.RowKit
set_option linter.unusedVariables false

set_option maxHeartbeats 400000 in
/-- soft.Clip. -/
theorem softClip (z : Int) (w : World) : Calls Tryd.prog 47 #[.int .i64 z] w fun e w' => e = .returned (.int .i64 (Cv.clip z)) ∧ w = w' := by
  by_cases h1 : 31 < z
  · have HC := Lib.hid (Cv.clip_hi h1)
    go_enter Tryd.func47, Tryd.ntmps47
    go_wp2 <;> (go_ret; exact ⟨ret_int' (by rw [HC.out]; try omega), rfl⟩)
  · by_cases h2 : z < -31
    · have HC := Lib.hid (Cv.clip_lo h2)
      go_enter Tryd.func47, Tryd.ntmps47
      go_wp2 <;> (go_ret; exact ⟨ret_int' (by rw [HC.out]; try omega), rfl⟩)
    · have HC := Lib.hid (Cv.clip_in h1 h2)
      go_enter Tryd.func47, Tryd.ntmps47
      go_wp2 <;> (go_ret; exact ⟨ret_int' (by rw [HC.out]; try omega), rfl⟩)
set_option maxHeartbeats 400000 in
/-- The reference's Clip. -/
theorem refClip (z : Int) (w : World) : Calls Tryd.prog 35 #[.int .i64 z] w fun e w' => e = .returned (.int .i64 (Cv.clip z)) ∧ w = w' := by
  by_cases h1 : 31 < z
  · have HC := Lib.hid (Cv.clip_hi h1)
    go_enter Tryd.func35, Tryd.ntmps35
    go_wp2
    go_ret
    exact ⟨ret_int' HC.out.symm, rfl⟩
  · by_cases h2 : z < -31
    · have HC := Lib.hid (Cv.clip_lo h2)
      go_enter Tryd.func35, Tryd.ntmps35
      go_wp2
      go_ret
      exact ⟨ret_int' HC.out.symm, rfl⟩
    · have HC := Lib.hid (Cv.clip_in h1 h2)
      go_enter Tryd.func35, Tryd.ntmps35
      go_wp2
      go_ret
      exact ⟨ret_int' HC.out.symm, rfl⟩
set_option maxHeartbeats 400000 in
/-- soft.Of. -/
theorem softOf (x : Nat) (w : World) : Calls Tryd.prog 46 #[.int .u8 (x : Int)] w fun e w' => e = .returned (.int .i64 (if x = 0 then 1 else -1)) ∧ w = w' := by
  by_cases h : x = 0
  · rw [if_pos h]
    subst h
    go_enter Tryd.func46, Tryd.ntmps46
    go_wp2
    go_ret
    exact ⟨rfl, rfl⟩
  · rw [if_neg h]
    have e : ((x : Int) == 0) = false := by simp; omega
    go_enter Tryd.func46, Tryd.ntmps46
    go_wp2
    go_ret
    exact ⟨rfl, rfl⟩
set_option maxHeartbeats 400000 in
/-- The reference's Of. -/
theorem refOf (x : Nat) (w : World) : Calls Tryd.prog 20 #[.int .u8 (x : Int)] w fun e w' => e = .returned (.int .i64 (if x = 0 then 1 else -1)) ∧ w = w' := by
  by_cases h : x = 0
  · rw [if_pos h]
    subst h
    go_enter Tryd.func20, Tryd.ntmps20
    go_wp2
    go_ret
    exact ⟨rfl, rfl⟩
  · rw [if_neg h]
    have e : ((x : Int) == 0) = false := by simp; omega
    go_enter Tryd.func20, Tryd.ntmps20
    go_wp2
    go_ret
    exact ⟨rfl, rfl⟩
set_option maxHeartbeats 400000 in
/-- soft.within. -/
theorem softWithin (A : Option Addr) (n c : Nat) (zs : List Int) (w : World) (hr : Rd w w.heap.size A n (I64 zs)) (hn : n ≤ 65536) :
    Calls Tryd.prog 59 #[.slice A n c] w fun e w' => e = .returned (.bool (Cv.inB zs)) ∧ w = w' := by
  have HN := Lib.hid hr.len64
  go_enter Tryd.func59, Tryd.ntmps59
  go_wp2
  go_loop [7] (fun i => ∃ k : Nat, k ≤ n ∧ i = .int .i64 k ∧ Hid (∀ j, j < k → -31 ≤ zs.getD j 0 ∧ zs.getD j 0 ≤ 31)) (fun i => n - (intOf i).toNat)
  case atStart => exact ⟨0, Nat.zero_le _, rfl, fun j hj => by omega⟩
  case round =>
    obtain ⟨k, hk, rfl, HR⟩ := hrel
    by_cases hlt : k < n
    · obtain ⟨b', off, rfl, hlt2, hcell⟩ := hr.cell64 k hlt
      obtain ⟨x, hxe⟩ : ∃ x, x = zs.getD k 0 := ⟨_, rfl⟩
      have HX := Lib.hid hxe
      rw [← hxe] at hcell
      clear hxe
      by_cases hb : -31 ≤ x ∧ x ≤ 31
      · have e : (x != Cv.clip x) = false := by rw [← (Cv.clip_eq x).2 hb]; simp
        go_wp2_with (go_at_call 47; refine (softClip x _).mono ?_; rintro e w' ⟨rfl, rfl⟩)
        go_round
        case rel =>
          refine ⟨k + 1, by omega, by go_num, fun j hj => ?_⟩
          by_cases hjk : j = k
          · rw [hjk, ← HX.out]; exact hb
          · exact HR.out j (by omega)
        case measure => simp [intOf] <;> omega
      · have e : (x != Cv.clip x) = true := by
          have : x ≠ Cv.clip x := fun h => hb ((Cv.clip_eq x).1 h)
          simpa using this
        go_wp2_with (go_at_call 47; refine (softClip x _).mono ?_; rintro e w' ⟨rfl, rfl⟩)
        go_ret
        exact ⟨ret_bool (Cv.inB_false k (by rw [← HN.out]; exact hlt) (by rw [← HX.out]; exact hb)).symm, rfl⟩
    · go_wp2
      go_ret
      exact ⟨ret_bool (Cv.inB_of_getD (fun i hi => HR.out i (by rw [← HN.out] at hi; omega))).symm, rfl⟩
set_option maxHeartbeats 400000 in
/-- The reference's Right of numbers. -/
theorem refRight64 (A : Option Addr) (n c : Nat) (zs : List Int) (w : World) (hr : Rd w w.heap.size A n (I64 zs)) (hn : n ≤ 65536) :
    Calls Tryd.prog 14 #[.slice A n c] w fun e w' => e = .returned (.bool (Cv.inB zs)) ∧ ∃ m, w' = w.drewN m := by
  have HN := Lib.hid hr.len64
  go_enter Tryd.func14, Tryd.ntmps14
  go_wp2
  go_loopw [3] (fun i wr => ∃ k q : Nat, k ≤ n ∧ i = .int .i64 k ∧ Hid (∀ j, j < k → -31 ≤ zs.getD j 0 ∧ zs.getD j 0 ≤ 31) ∧ wr = w.drewN q) (fun i _ => n - (intOf i).toNat)
  case atStart => exact ⟨0, 0, Nat.zero_le _, rfl, fun j hj => by omega, rfl⟩
  case round =>
    obtain ⟨k, q, hk, rfl, HR, hw⟩ := hrel
    have HW := Lib.hid hw
    have hr := hr.below (hw ▸ below_drawn q : Below w.heap.size w wr)
    clear hw
    by_cases hlt : k < n
    · obtain ⟨b', off, rfl, hlt2, hcell⟩ := hr.cell64 k hlt
      obtain ⟨x, hxe⟩ : ∃ x, x = zs.getD k 0 := ⟨_, rfl⟩
      have HX := Lib.hid hxe
      rw [← hxe] at hcell
      clear hxe
      have C := Lib.hid (fun j : Nat => Calls.quiet_of_same ((refClip x (wr.drewN j)).mono fun e w' h => ⟨h.1, h.2.symm⟩))
      by_cases hb : -31 ≤ x ∧ x ≤ 31
      · have e : (x != Cv.clip x) = false := by rw [← (Cv.clip_eq x).2 hb]; simp
        go_wp2_with fail
        go_quiet ((go_at_call 35; exact C.out _))
        go_wp2
        go_roundw
        case rel =>
          refine ⟨k + 1, q + _, by omega, by go_num, fun j hj => ?_, by rw [HW.out, World.drewN_drewN]⟩
          by_cases hjk : j = k
          · rw [hjk, ← HX.out]; exact hb
          · exact HR.out j (by omega)
        case measure => simp [intOf] <;> omega
      · have e : (x != Cv.clip x) = true := by
          have : x ≠ Cv.clip x := fun h => hb ((Cv.clip_eq x).1 h)
          simpa using this
        go_wp2_with fail
        go_quiet ((go_at_call 35; exact C.out _))
        go_wp2
        go_ret
        exact ⟨ret_bool (Cv.inB_false k (by rw [← HN.out]; exact hlt) (by rw [← HX.out]; exact hb)).symm, q + _, by rw [HW.out, World.drewN_drewN]⟩
    · go_wp2
      go_ret
      exact ⟨ret_bool (Cv.inB_of_getD (fun i hi => HR.out i (by rw [← HN.out] at hi; omega))).symm, q, HW.out⟩
end Go.Proofs.YtlnjealhiikmeabDoor
