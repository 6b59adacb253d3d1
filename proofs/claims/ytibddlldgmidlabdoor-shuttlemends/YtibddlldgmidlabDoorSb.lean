/-
  Contracts of layer 8 and of its reference: Score, All, Hard, Few.
-/
import Derived.Test.YtibddlldgmidlabDoorSa
namespace Go.Proofs.YtibddlldgmidlabDoor
open Go.RowKit
set_option maxRecDepth 100000
set_option linter.unusedVariables false

theorem sg_of (c : Nat) (x s K : Int) (h : -K ≤ s ∧ s ≤ K) (hx : -31 ≤ x ∧ x ≤ 31) (hK : K ≤ 100000000) : IntKind.i64.wrap (x * (if c = 0 then 1 else -1)) = Cv.sg c x ∧ IntKind.i64.wrap (s + Cv.sg c x) = s + Cv.sg c x := by
  have h2 := Cv.sg_bounds (c := c) hx
  rw [Cv.sg_mul]
  exact ⟨IntWalk.i64_in _ (by omega), IntWalk.i64_in _ (by omega)⟩

set_option maxHeartbeats 400000 in
/-- The reference's Score. -/
theorem refScore (A A2 : Option Addr) (n c c2 : Nat) (zs : List Int) (bs : List Nat) (w : World) (hz : Rd w w.heap.size A n (I64 zs)) (hb : Rd w w.heap.size A2 n (U8 bs)) (hin : ∀ z ∈ zs, -31 ≤ z ∧ z ≤ 31) (hn : n ≤ 65536) :
    Calls Tryd.prog 72 #[.slice A n c, .slice A2 n c2] w fun e w' => e = .returned (.int .i64 (Cv.score zs bs)) ∧ w = w' := by
  have HN := Lib.hid hz.len64
  have HB := Lib.hid (Cv.sc_bounds hin bs)
  go_enter Tryd.func72, Tryd.ntmps72
  go_wp2
  go_loop [5, 6] (fun s i => ∃ k : Nat, ∃ r : Int, k ≤ n ∧ i = .int .i64 k ∧ s = .int .i64 r ∧ -(31 * (k : Int)) ≤ r ∧ r ≤ 31 * (k : Int) ∧ Hid (r = Cv.scTo zs bs k)) (fun _ i => n - (intOf i).toNat)
  case atStart => exact ⟨0, 0, Nat.zero_le _, rfl, rfl, by omega, by omega, rfl⟩
  case round =>
    obtain ⟨k, r, hk, rfl, rfl, hr1, hr2, HR⟩ := hrel
    by_cases hlt : k < n
    · obtain ⟨b, off, rfl, hlt2, hcell⟩ := hz.cell64 k hlt
      obtain ⟨b', off', rfl, hlt3, hcell2⟩ := hb.cell8 k hlt
      have hx := Cv.inB_getD hin k
      have HS : Hid (Cv.scTo zs bs (k + 1) = r + Cv.sg (bs.getD k 0) (zs.getD k 0)) := by unfold Hid; rw [HR.out]; rfl
      have hbd := HB.out (k + 1)
      rw [HS.out] at hbd
      obtain ⟨x, hxe⟩ : ∃ x, x = zs.getD k 0 := ⟨_, rfl⟩
      obtain ⟨y, hye⟩ : ∃ y, y = bs.getD k 0 := ⟨_, rfl⟩
      rw [← hxe] at hx hcell HS hbd
      rw [← hye] at hcell2 HS hbd
      clear hxe hye
      obtain ⟨hx1, hx2⟩ := hx
      by_cases h0 : y = 0
      · have e : ((y : Int) == 0) = true := by simp [h0]
        have HG : Hid (Cv.sg y x = x) := by unfold Hid Cv.sg; rw [if_pos h0]
        rw [HG.out] at HS hbd
        obtain ⟨hbd1, hbd2⟩ := hbd
        clear h0
        go_wp2
        go_round
        case rel => exact ⟨k + 1, r + x, by omega, by go_num, rfl, by omega, by omega, HS.out.symm⟩
        case measure => simp [intOf] <;> omega
      · have e : ((y : Int) == 0) = false := by simp; omega
        have HG : Hid (Cv.sg y x = -x) := by unfold Hid Cv.sg; rw [if_neg h0]
        rw [HG.out] at HS hbd
        obtain ⟨hbd1, hbd2⟩ := hbd
        go_wp2
        go_round
        case rel => exact ⟨k + 1, r - x, by omega, by go_num, rfl, by omega, by omega, by unfold Hid; rw [HS.out]; omega⟩
        case measure => simp [intOf] <;> omega
    · go_wp2
      go_ret
      refine ⟨ret_int' ?_, rfl⟩
      unfold Cv.score
      rw [HR.out, ← HN.out, show k = n by omega]

theorem ret_ie {r s : Int} {e : Int} (h : r = s) : Ending.returned (.tuple #[.int .i64 r, .int .i64 e]) = .returned (.tuple #[.int .i64 s, .int .i64 e]) := by rw [h]

set_option maxHeartbeats 400000 in
/-- soft.Score, lists of one length, bits, numbers within the bounds. -/
theorem softScore (A A2 : Option Addr) (n c c2 : Nat) (zs : List Int) (bs : List Nat) (w : World) (hz : Rd w w.heap.size A n (I64 zs)) (hb : Rd w w.heap.size A2 n (U8 bs)) (hin : ∀ z ∈ zs, -31 ≤ z ∧ z ≤ 31) (hbit : ∀ x ∈ bs, x ≤ 1) (hn : n ≤ 65536) :
    Calls Tryd.prog 85 #[.slice A n c, .slice A2 n c2] w fun e w' => e = .returned (.tuple #[.int .i64 (Cv.score zs bs), .int .i64 0]) ∧ w = w' := by
  have HN := Lib.hid hz.len64
  have HB := Lib.hid (Cv.sc_bounds hin bs)
  have C1 := Lib.hid (right A2 n c2 bs w hb (bit256 hbit) hn)
  rw [Bm.isB_of hbit] at C1
  have C2 := Lib.hid (softWithin A n c zs w hz hn)
  rw [Cv.inB_of hin] at C2
  go_enter Tryd.func85, Tryd.ntmps85
  go_wp2_with (first | (go_at_call 40; refine C1.out.mono ?_; rintro e w' ⟨rfl, rfl⟩) | (go_at_call 88; refine C2.out.mono ?_; rintro e w' ⟨rfl, rfl⟩))
  clear C1 C2
  go_loop [6, 24] (fun s i => ∃ k : Nat, ∃ r : Int, k ≤ n ∧ i = .int .i64 k ∧ s = .int .i64 r ∧ -(31 * (k : Int)) ≤ r ∧ r ≤ 31 * (k : Int) ∧ Hid (r = Cv.scTo zs bs k)) (fun _ i => n - (intOf i).toNat)
  case atStart => exact ⟨0, 0, Nat.zero_le _, rfl, rfl, by omega, by omega, rfl⟩
  case round =>
    obtain ⟨k, r, hk, rfl, rfl, hr1, hr2, HR⟩ := hrel
    by_cases hlt : k < n
    · obtain ⟨b, off, rfl, hlt2, hcell⟩ := hz.cell64 k hlt
      obtain ⟨b', off', rfl, hlt3, hcell2⟩ := hb.cell8 k hlt
      have hx := Cv.inB_getD hin k
      have HS : Hid (Cv.scTo zs bs (k + 1) = r + Cv.sg (bs.getD k 0) (zs.getD k 0)) := by unfold Hid; rw [HR.out]; rfl
      have hbd := HB.out (k + 1)
      rw [HS.out] at hbd
      obtain ⟨x, hxe⟩ : ∃ x, x = zs.getD k 0 := ⟨_, rfl⟩
      obtain ⟨y, hye⟩ : ∃ y, y = bs.getD k 0 := ⟨_, rfl⟩
      rw [← hxe] at hx hcell HS hbd
      rw [← hye] at hcell2 HS hbd
      clear hxe hye
      obtain ⟨e1, e2⟩ := sg_of y x r (31 * (k : Int)) ⟨hr1, hr2⟩ hx (by omega)
      obtain ⟨o, ho⟩ : ∃ o : Int, o = (if y = 0 then 1 else -1) := ⟨_, rfl⟩
      have C3 := Lib.hid (softOf y w)
      rw [← ho] at C3 e1
      clear ho
      obtain ⟨g, hg⟩ : ∃ g : Int, g = Cv.sg y x := ⟨_, rfl⟩
      rw [← hg] at e1 e2 hbd HS
      clear hg
      obtain ⟨hbd1, hbd2⟩ := hbd
      go_wp2_with (go_at_call 42; refine C3.out.mono ?_; rintro e w' ⟨rfl, rfl⟩)
      go_round
      case rel => exact ⟨k + 1, r + g, by omega, by go_num, rfl, by omega, by omega, HS.out.symm⟩
      case measure => simp [intOf] <;> omega
    · go_wp2
      go_ret2
      refine ⟨ret_ie ?_, rfl⟩
      unfold Cv.score
      rw [HR.out, ← HN.out, show k = n by omega]
end Go.Proofs.YtibddlldgmidlabDoor
