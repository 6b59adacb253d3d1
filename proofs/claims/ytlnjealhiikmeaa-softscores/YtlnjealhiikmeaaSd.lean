/-
  The first test of layer 8's statements; the walks of SoftAdds and SoftSums.
-/
import Derived.Test.YtlnjealhiikmeaaSc
namespace Go.Proofs.Ytlnjealhiikmeaa
open Go.RowKit
set_option linter.unusedVariables false

theorem clip_sure : Cv.clip (Cv.clip 20 + Cv.clip 20) = 31 := by decide
theorem score_sure : Cv.score [1, -1] [0, 1] = 2 := by decide
set_option maxHeartbeats 400000 in
theorem sure8 (w : World) : Calls Try.prog 7 #[] w fun e w' => e = .returned (.bool true) ∧ Below w.heap.size w w' := by
  have bel1 : Below w.heap.size w (w.alloc (.cells #[.int .i64 1, .int .i64 (-1)] 3)) := (Below.refl _ _).alloc (Nat.le_refl _) _
  have bel2 : Below w.heap.size w ((w.alloc (.cells #[.int .i64 1, .int .i64 (-1)] 3)).alloc (.cells #[.int .u8 0, .int .u8 1] 5)) := bel1.alloc (by simp) _
  have r1 := rd_block w 3 #[.int .i64 1, .int .i64 (-1)] (0, 0) (I64 [1, -1]) 2 rfl rfl
  have r1' := (r1.below ((Below.refl _ _).alloc (Nat.le_refl _) (.cells #[.int .u8 0, .int .u8 1] 5))).up (B' := ((w.alloc (.cells #[.int .i64 1, .int .i64 (-1)] 3)).alloc (.cells #[.int .u8 0, .int .u8 1] 5)).heap.size) (by simp)
  have r2 := rd_block (w.alloc (.cells #[.int .i64 1, .int .i64 (-1)] 3)) 5 #[.int .u8 0, .int .u8 1] (0, 0) (U8 [0, 1]) 2 rfl rfl
  have C := Lib.hid (softScore _ _ 2 2 2 [1, -1] [0, 1] _ r1' r2 (by decide) (by decide) (by omega))
  rw [score_sure] at C
  have HC := Lib.hid clip_sure
  simp only [World.size_alloc] at C
  clear r1 r1' r2 bel1
  go_enter Try.func7, Try.ntmps7
  go_wp2_with (first | (go_at_call 14; refine C.out.mono ?_; rintro e w' ⟨rfl, rfl⟩) | (go_at_call 10; refine (softAdd 20 20 _).mono ?_; rintro e w' ⟨rfl, rfl⟩; rw [HC.out]) | (go_at_call 12; refine (softOf 1 _).mono ?_; rintro e w' ⟨rfl, rfl⟩; rw [if_neg (by omega)]))
  go_ret
  exact ⟨rfl, bel2⟩

set_option maxHeartbeats 400000 in
/-- SoftAdds. -/
theorem walkSoftAdds (a b : Int) (c : Nat) (w : World) :
    Calls Try.prog 3 #[.int .i64 a, .int .i64 b, .int .u8 (c : Int)] w fun e w' => e = .returned (.bool true) ∧ Below w.heap.size w w' := by
  have HA : Hid (Cv.clip (Cv.clip b + Cv.clip a) = Cv.clip (Cv.clip a + Cv.clip b)) := by unfold Hid; rw [Int.add_comm]
  go_enter Try.func3, Try.ntmps3
  go_wp2_with (first | (go_at_call 7; refine (sure8 w).mono ?_; rintro e w' ⟨rfl, hbel⟩) | (go_at_call 8; refine (softClip _ _).mono ?_; rintro e w' ⟨rfl, rfl⟩) | (go_at_call 9; refine (refClip _ _).mono ?_; rintro e w' ⟨rfl, rfl⟩) | (go_at_call 10; refine (softAdd _ _ _).mono ?_; rintro e w' ⟨rfl, rfl⟩; try rw [HA.out]) | (go_at_call 11; refine (refAdd _ _ _).mono ?_; rintro e w' ⟨rfl, rfl⟩) | (go_at_call 12; refine (softOf c _).mono ?_; rintro e w' ⟨rfl, rfl⟩) | (go_at_call 13; refine (refOf c _).mono ?_; rintro e w' ⟨rfl, rfl⟩))
  all_goals (go_ret; exact ⟨rfl, hbel⟩)

theorem rem9 (x : Int) : -8 ≤ x.tmod 9 ∧ x.tmod 9 ≤ 8 := by
  by_cases h : 0 ≤ x
  · rw [Int.tmod_eq_emod_of_nonneg h]; omega
  · have h1 := Int.neg_tmod x 9
    rw [Int.tmod_eq_emod_of_nonneg (by omega)] at h1
    omega
theorem clip_id {z : Int} (h : -31 ≤ z) (h2 : z ≤ 31) : Cv.clip z = z := Cv.clip_in (by omega) (by omega)

set_option maxHeartbeats 1000000 in
/-- SoftSums. -/
theorem walkSoftSums (A : Option Addr) (n c : Nat) (zs : List Int) (w : World) (hr : Rd w w.heap.size A n (I64 zs)) (hn : n ≤ 9223372036854775807) :
    Calls Try.prog 6 #[.slice A n c] w fun e w' => e = .returned (.bool true) ∧ Below w.heap.size w w' := by
  go_enter Try.func6, Try.ntmps6
  go_wp2
  go_loop [3, 4, 5, 6] (fun s p f i => ∃ k : Nat, ∃ at_ pl : Int, ∃ fl : Bool, k ≤ n ∧ k ≤ 60 ∧ i = .int .i64 k ∧ s = .int .i64 at_ ∧ p = .int .i64 pl ∧ f = .bool fl ∧ -31 ≤ at_ ∧ at_ ≤ 31 ∧ -(8 * (k : Int)) ≤ pl ∧ pl ≤ 8 * (k : Int) ∧ Hid (fl = true → at_ = pl)) (fun _ _ _ i => n - (intOf i).toNat)
  case atStart => exact ⟨0, 0, 0, true, Nat.zero_le _, Nat.zero_le _, rfl, rfl, rfl, rfl, by omega, by omega, by omega, by omega, fun _ => rfl⟩
  case round =>
    obtain ⟨k, a, p, f, hk, hk2, rfl, rfl, rfl, rfl, ha1, ha2, hp1, hp2, HF⟩ := hrel
    by_cases hlt : k < n
    · by_cases hlt4 : k < 60
      · obtain ⟨b, off, rfl, hlt2, hcell⟩ := hr.cell64 k hlt
        obtain ⟨x, hxe⟩ : ∃ x, x = zs.getD k 0 := ⟨_, rfl⟩
        rw [← hxe] at hcell
        clear hxe
        have hq := rem9 x
        obtain ⟨y, hy⟩ : ∃ y, x.tmod 9 = y := ⟨_, rfl⟩
        rw [hy] at hq
        obtain ⟨hq1, hq2⟩ := hq
        have C := Lib.hid (softAdd a y w)
        rw [clip_id ha1 ha2, clip_id (z := y) (by omega) (by omega)] at C
        have HQ : Hid (a = p → -31 ≤ p + y → p + y ≤ 31 → Cv.clip (a + y) = p + y) := by
          intro h1 h2 h3
          rw [h1]; exact clip_id h2 h3
        have hb := Cv.clip_bounds (a + y)
        generalize Cv.clip (a + y) = t at *
        obtain ⟨hb1, hb2⟩ := hb
        have d1 : decide (t < -31) = false := by simp; omega
        have d2 : decide (31 < t) = false := by simp; omega
        cases f with
        | false =>
          go_wp2_with (go_at_call 10; refine C.out.mono ?_; rintro e w' ⟨rfl, rfl⟩)
          go_round
          case rel => exact ⟨k + 1, t, p + y, false, by omega, by omega, by go_num, rfl, rfl, rfl, hb1, hb2, by omega, by omega, fun h => by cases h⟩
          case measure => simp [intOf] <;> omega
        | true =>
          by_cases g1 : -31 ≤ p + y
          · by_cases g2 : p + y ≤ 31
            · have e := HQ.out (HF.out rfl) g1 g2
              have e2 : (t != p + y) = false := by rw [e]; simp
              have HE := Lib.hid e
              clear e
              go_wp2_with (go_at_call 10; refine C.out.mono ?_; rintro e w' ⟨rfl, rfl⟩)
              go_round
              case rel => exact ⟨k + 1, t, p + y, true, by omega, by omega, by go_num, rfl, rfl, rfl, hb1, hb2, by omega, by omega, fun h => HE.out⟩
              case measure => simp [intOf] <;> omega
            · go_wp2_with (go_at_call 10; refine C.out.mono ?_; rintro e w' ⟨rfl, rfl⟩)
              go_round
              case rel => exact ⟨k + 1, t, p + y, false, by omega, by omega, by go_num, rfl, rfl, rfl, hb1, hb2, by omega, by omega, fun h => by cases h⟩
              case measure => simp [intOf] <;> omega
          · go_wp2_with (go_at_call 10; refine C.out.mono ?_; rintro e w' ⟨rfl, rfl⟩)
            go_round
            case rel => exact ⟨k + 1, t, p + y, false, by omega, by omega, by go_num, rfl, rfl, rfl, hb1, hb2, by omega, by omega, fun h => by cases h⟩
            case measure => simp [intOf] <;> omega
      · have hd : decide ((k : Int) < (n : Int)) = true := by simp; omega
        go_wp2_with (go_at_call 7; refine (sure8 w).mono ?_; rintro e w' ⟨rfl, hbel⟩)
        go_ret
        exact ⟨rfl, hbel⟩
    · go_wp2_with (go_at_call 7; refine (sure8 w).mono ?_; rintro e w' ⟨rfl, hbel⟩)
      go_ret
      exact ⟨rfl, hbel⟩
end Go.Proofs.Ytlnjealhiikmeaa
