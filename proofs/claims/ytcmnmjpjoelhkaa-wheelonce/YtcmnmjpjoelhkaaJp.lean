/-
  Layer 19 (what is due at which tick): the walk of WheelOnce.
-/
import Derived.Test.YtcmnmjpjoelhkaaJo
namespace Go.Proofs.Ytcmnmjpjoelhkaa
open Go.RowKit
set_option linter.unusedVariables false
set_option linter.unusedSimpArgs false
set_option maxRecDepth 100000

/-- One number that is set, as long as it isn't due. -/
def lo (a last t : Nat) : List (Nat × Nat) := if t ≤ last then [(a, last)] else []
theorem lo_mem (a last t b : Nat) : (b, t) ∈ lo a last t ↔ t = last ∧ b = a := by
  unfold lo
  split
  · simp; omega
  · simp; omega
theorem lo_rest (a last t : Nat) : restL (lo a last t) t = lo a last (t + 1) := by
  unfold lo restL
  by_cases h : t ≤ last
  · rw [if_pos h]
    by_cases h2 : t = last
    · rw [if_neg (by omega)]; simp [h2]
    · rw [if_pos (by omega)]
      have : (last != t) = true := by simp; omega
      simp [List.filter_cons, this]
  · rw [if_neg h, if_neg (by omega)]; rfl
theorem lo_len (a last t : Nat) : (lo a last t).length ≤ 1 := by unfold lo; split <;> simp
theorem set_one (a x y : Nat) : setL [(a, x)] a y = [(a, y)] := by simp [setL, dropL]

set_option maxHeartbeats 400000 in
/-- WheelOnce: the walk. -/
theorem wheelOnce (HSort : SortOk) (a : Int) (A : Option Addr) (n c : Nat) (zs : List Int) (w : World) (ha : 0 ≤ a ∧ a < 65536) (hz : Rd w w.heap.size A n (I64 zs)) (hn : n ≤ 9223372036854775807) :
    Calls Try.prog 5 #[.int .u16 a, .slice A n c] w fun e w' => e = .returned (.bool true) ∧ Below w.heap.size w w' := by
  obtain ⟨av, rfl⟩ : ∃ av : Nat, a = (av : Int) := ⟨a.toNat, by omega⟩
  have hav : av < 65536 := by omega
  have HS := Lib.hid HSort
  have CN := Lib.hid (lwNew w w (Below.refl _ _))
  have CT := Lib.hid (wTurns HSort)
  clear HSort ha
  have CS : Hid (∀ (W : World) (gW : Nat), LW w W gW 0 [] → Calls Try.prog 23 #[.pointer (some ⟨gW, 0, none⟩), .int .u16 (av : Int), .int .i64 5] W fun e w' => e = .returned (.int .i64 0) ∧ LW w w' gW 0 [(av, 5)]) :=
    fun W gW h => lwSet w W gW 0 av 5 [] h (by omega) hav (by simp) (by omega)
  have CS2 : Hid (∀ (W : World) (gW x y : Nat), LW w W gW 0 [(av, x)] → 1 ≤ y ∧ y ≤ 1000 → Calls Try.prog 23 #[.pointer (some ⟨gW, 0, none⟩), .int .u16 (av : Int), .int .i64 (y : Int)] W fun e w' => e = .returned (.int .i64 0) ∧ LW w w' gW 0 [(av, y)]) :=
    fun W gW x y h hy => (lwSet w W gW 0 av y [(av, x)] h hy hav (by simp) (by omega)).mono fun e w' ⟨h1, h2⟩ => ⟨h1, by rw [Nat.zero_add, set_one] at h2; exact h2⟩
  go_enter Try.func5, Try.ntmps5
  go_wp2_with (first
    | (go_at_call 28; refine CN.out.mono ?_; rintro e w1 ⟨gW, rfl, hl1⟩)
    | (go_at_call 21; refine (CT.out _).mono ?_; rintro e w2 ⟨rfl, hb2⟩; have hl2 := hl1.after hb2)
    | (go_at_call 23; refine (CS.out _ _ hl2).mono ?_; rintro e w3 ⟨rfl, hl3⟩))
  have H3 := Lib.hid hl3
  clear hl1 hb2 hl2 hl3
  go_loopw [6, 7] (fun sl si wr => ∃ i last : Nat, si = .int .i64 (i : Int) ∧ sl = .int .i64 (last : Int) ∧ i ≤ n ∧ i ≤ 10 ∧ 1 ≤ last ∧ last ≤ 100 ∧ Hid (LW w wr gW 0 [(av, last)])) (fun _ si _ => n - (intOf si).toNat)
  case atStart => exact ⟨0, 5, rfl, rfl, by omega, by omega, by omega, by omega, H3⟩
  case round =>
    clear H3
    obtain ⟨i, last, rfl, rfl, hi, hi10, hl1, hl2, H1⟩ := hrel
    by_cases hlt : i < n ∧ i < 10
    · obtain ⟨hlt1, hlt2⟩ := hlt
      have d1 : decide ((i : Int) < (n : Int)) = true := by simp; omega
      have d2 : decide ((i : Int) < 10) = true := by simp; omega
      obtain ⟨b, off, rfl, hb, hcell⟩ := (hz.below H1.out.bel).cell64 i hlt1
      obtain ⟨z, hzz⟩ : ∃ z, z = zs.getD i 0 := ⟨_, rfl⟩
      rw [← hzz] at hcell
      clear hzz
      obtain ⟨uu, hu, hu2⟩ := wrap_u64 z
      obtain ⟨y, hy1, hy2, hy3⟩ : ∃ y : Nat, 1 ≤ y ∧ y ≤ 100 ∧ 1 + (uu : Int) % 100 = (y : Int) := ⟨1 + uu % 100, by omega, by omega, by omega⟩
      go_wp2_with (first | (go_at_call 23; refine (CS2.out _ _ _ y H1.out (by omega)).mono ?_; rintro e w4 ⟨rfl, hl4⟩))
      go_roundw
      case rel => exact ⟨i + 1, y, by go_num, rfl, by omega, by omega, hy1, hy2, hl4⟩
      case measure => simp [intOf]; omega
    · have hg : ¬ i < n ∨ i < n ∧ ¬ ((i : Int) < 10) := by omega
      clear hlt
      have CK : Hid (∀ (W : World) (t : Nat), 1 ≤ t → t ≤ 200 → LW w W gW (t - 1) (lo av last t) → Calls Try.prog 25 #[.pointer (some ⟨gW, 0, none⟩)] W fun e w' => ∃ A c l, e = .returned (.slice A l.length c) ∧ Due (lo av last t) t l ∧ Rd w' w'.heap.size A l.length (N16 l) ∧ LW w w' gW (t + 1 - 1) (lo av last (t + 1))) := by
        intro W t h1 h2 hW
        refine (lwTick HS.out w W gW (t - 1) t _ hW (by omega) (by have := lo_len av last t; omega) (by omega)).mono ?_
        rintro e w' ⟨A, c, l, he, hd, hr, hl⟩
        rw [lo_rest] at hl
        exact ⟨A, c, l, he, hd, hr, hl⟩
      have H1' : Hid (LW w wr gW (1 - 1) (lo av last 1)) := by
        have := H1.out
        show LW w wr gW 0 _
        unfold lo; rw [if_pos hl1]; exact this
      clear H1
      rcases hg with d1 | ⟨d1, d2⟩
      all_goals
        go_wp2_with fail
        go_loopw [8] (fun st wr => ∃ t : Nat, st = .int .i64 (t : Int) ∧ 1 ≤ t ∧ t ≤ 121 ∧ Hid (LW w wr gW (t - 1) (lo av last t))) (fun st _ => 121 - (intOf st).toNat)
        case atStart => exact ⟨1, rfl, by omega, by omega, H1'⟩
        case round =>
          clear H1'
          obtain ⟨t, rfl, ht1, ht2, H1⟩ := hrel
          by_cases hlt : t ≤ 120
          · go_upto_region 17 with (go_at_call 25; refine (CK.out _ t ht1 (by omega) H1.out).mono ?_; rintro e w5 ⟨A5, c5, l5, rfl, hd5, hr5, hl5⟩)
            have H5 := Lib.hid hl5
            clear hl5
            by_cases htl : t = last
            · have e5 : l5 = [av] := due_one hd5 (fun b => by rw [lo_mem]; simp [htl])
              subst e5
              obtain ⟨b, off, hA, hb5, hcell⟩ := hr5.cell16 0 (by simp)
              subst hA
              have hc0 : w5.cell? ⟨b, off, none⟩ = some (.int .u16 (av : Int)) := by simpa using hcell
              have d3 : ((t : Int) == (last : Int)) = true := by simp [htl]
              clear hd5 hr5 hcell
              go_wp2_with fail
              go_roundw
              case rel => exact ⟨t + 1, by go_num, by omega, by omega, H5⟩
              case measure => simp [intOf]; omega
            · have e5 : l5 = [] := due_none hd5 (fun b => by rw [lo_mem]; simp [htl])
              subst e5
              have d3 : ((t : Int) == (last : Int)) = false := by simp; omega
              clear hd5 hr5
              go_wp2_with fail
              go_roundw
              case rel => exact ⟨t + 1, by go_num, by omega, by omega, H5⟩
              case measure => simp [intOf]; omega
          · have CL : Hid (Calls Try.prog 27 #[.pointer (some ⟨gW, 0, none⟩)] wr fun e w' => e = .returned (.int .i64 0) ∧ wr = w') := by
              have := lwLen w wr gW _ _ H1.out
              rw [show lo av last t = [] by unfold lo; rw [if_neg (by omega)]] at this
              exact this
            go_wp2_with (go_at_call 27; refine CL.out.mono ?_; rintro e w5 ⟨rfl, rfl⟩)
            go_ret
            exact ⟨rfl, H1.out.bel⟩
end Go.Proofs.Ytcmnmjpjoelhkaa
