/-
  Layer 10: stream, Stream, Version, Rate, Places.
-/
import Derived.Test.YtknfpdlomgllhaaDoorPa
import Derived.Test.YtknfpdlomgllhaaDoorKz
namespace Go.Proofs.YtknfpdlomgllhaaDoor
open Go.RowKit
set_option maxRecDepth 100000
set_option linter.unusedVariables false
set_option linter.unusedSimpArgs false

theorem ret_it {r s : Int} {e : Int} (h : r = s) : Ending.returned (.tuple #[.int .i64 r, .int .i64 e]) = .returned (.tuple #[.int .i64 s, .int .i64 e]) := by rw [h]
set_option maxHeartbeats 400000 in
/-- pattern.stream. -/
theorem patstream (v t : Nat) (w : World) (hv : v < 4) (ht : t ≤ 9223372036854775807) : Calls Tryd.prog 96 #[.int .i64 (v : Int), .int .i64 (t : Int)] w fun e w' => e = .returned (.int .i64 (Cv.st v t : Nat)) ∧ w = w' := by
  obtain ⟨r, hr⟩ : ∃ r : Nat, r = t % 4 := ⟨_, rfl⟩
  have e1 : (t : Int) % 4 = (r : Int) := by omega
  have hr4 : r < 4 := by omega
  have e2 : ((v : Int) + (r : Int)) % 4 = ((Cv.st v t : Nat) : Int) := by unfold Cv.st; omega
  clear hr
  generalize Cv.st v t = s at *
  go_enter Tryd.func96, Tryd.ntmps96
  go_wp2
  go_ret
  exact ⟨ret_int' e2, rfl⟩
set_option maxHeartbeats 400000 in
/-- pattern.Stream. -/
theorem patStream (v t : Nat) (w : World) (hv : v < 4) (ht : t ≤ 9223372036854775807) : Calls Tryd.prog 160 #[.int .i64 (v : Int), .int .i64 (t : Int)] w fun e w' => e = .returned (.tuple #[.int .i64 (Cv.st v t : Nat), .int .i64 0]) ∧ w = w' := by
  have C := Lib.hid (patstream v t w hv ht)
  have d : decide ((4 : Int) ≤ (v : Int)) = false := by simp <;> omega
  generalize Cv.st v t = s at *
  go_enter Tryd.func160, Tryd.ntmps160
  go_wp2_with (go_at_call 96; refine C.out.mono ?_; rintro e w' ⟨rfl, rfl⟩)
  go_ret2
  exact ⟨rfl, rfl⟩
set_option maxHeartbeats 400000 in
theorem patStreamNo (v t : Int) (w : World) (h : v < 0 ∨ 3 < v ∨ t < 0) : Calls Tryd.prog 160 #[.int .i64 v, .int .i64 t] w fun e w' => e = .returned (.tuple #[.int .i64 0, .int .i64 1]) ∧ w = w' := by
  by_cases h1 : v < 0
  · go_enter Tryd.func160, Tryd.ntmps160
    go_wp2
    go_ret2
    exact ⟨rfl, rfl⟩
  · by_cases h2 : 4 ≤ v
    · go_enter Tryd.func160, Tryd.ntmps160
      go_wp2
      go_ret2
      exact ⟨rfl, rfl⟩
    · have h3 : t < 0 := by omega
      go_enter Tryd.func160, Tryd.ntmps160
      go_wp2
      go_ret2
      exact ⟨rfl, rfl⟩
set_option maxHeartbeats 400000 in
/-- pattern.Version. -/
theorem patVersion (i t : Nat) (w : World) (hi : i < 4) (ht : t ≤ 9223372036854775807) : Calls Tryd.prog 125 #[.int .i64 (i : Int), .int .i64 (t : Int)] w fun e w' => e = .returned (.tuple #[.int .i64 (Cv.vr i t : Nat), .int .i64 0]) ∧ w = w' := by
  have d : decide ((4 : Int) ≤ (i : Int)) = false := by simp <;> omega
  obtain ⟨r, hr⟩ : ∃ r : Nat, r = t % 4 := ⟨_, rfl⟩
  have e1 : (t : Int) % 4 = (r : Int) := by omega
  have hr4 : r < 4 := by omega
  obtain ⟨q, hq⟩ : ∃ q : Nat, q = i + 4 - r := ⟨_, rfl⟩
  have e2 : (i : Int) + 4 - (r : Int) = (q : Int) := by omega
  have e3 : (q : Int) % 4 = ((Cv.vr i t : Nat) : Int) := by unfold Cv.vr; omega
  have hq8 : q < 8 := by omega
  clear hr hq
  generalize Cv.vr i t = s at *
  go_enter Tryd.func125, Tryd.ntmps125
  go_wp2
  go_ret2
  exact ⟨ret_it e3, rfl⟩
set_option maxHeartbeats 400000 in
theorem patVersionNo (v t : Int) (w : World) (h : v < 0 ∨ 3 < v ∨ t < 0) : Calls Tryd.prog 125 #[.int .i64 v, .int .i64 t] w fun e w' => e = .returned (.tuple #[.int .i64 0, .int .i64 1]) ∧ w = w' := by
  by_cases h1 : v < 0
  · go_enter Tryd.func125, Tryd.ntmps125
    go_wp2
    go_ret2
    exact ⟨rfl, rfl⟩
  · by_cases h2 : 4 ≤ v
    · go_enter Tryd.func125, Tryd.ntmps125
      go_wp2
      go_ret2
      exact ⟨rfl, rfl⟩
    · have h3 : t < 0 := by omega
      go_enter Tryd.func125, Tryd.ntmps125
      go_wp2
      go_ret2
      exact ⟨rfl, rfl⟩
/-- The places of a version. -/
def plc (v T : Nat) : List Int := (List.range T).map fun t => ((4 * t + Cv.st v t : Nat) : Int)
theorem plc_length (v T : Nat) : (plc v T).length = T := by simp [plc]
theorem plc_get (v T t : Nat) (h : t < T) : (plc v T).getD t 0 = ((4 * t + Cv.st v t : Nat) : Int) := by simp [plc, List.getD, h]
theorem plc_take (v T k : Nat) (h : k < T) : (plc v T).take (k + 1) = (plc v T).take k ++ [((4 * k + Cv.st v k : Nat) : Int)] := by
  rw [List.take_succ_eq_append_getElem (by rw [plc_length]; exact h), ← Bm.getD_lt _ 0 k (by rw [plc_length]; exact h), plc_get v T k h]
theorem made64' (n : Nat) : List.replicate n (Value.int .i64 0) = I64 (List.replicate n 0) := by simp [I64]
/-- What Places gives. -/
def PlacesOk (w : World) (v T : Nat) (e : Ending) (w' : World) : Prop := ∃ A c, e = .returned (.tuple #[.slice A T c, .int .i64 0]) ∧ Own w' w.heap.size 3 A T c (I64 (plc v T)) ∧ Below w.heap.size w w'
set_option maxHeartbeats 400000 in
/-- pattern.Places. -/
theorem patPlaces (v T : Nat) (w : World) (hv : v < 4) (hT : T ≤ 16384) : Calls Tryd.prog 55 #[.int .i64 (v : Int), .int .i64 (T : Int)] w (PlacesOk w v T) := by
  obtain ⟨i0, hi0, hz0, hz1, hz2⟩ := info_parts info3
  have d : decide ((4 : Int) ≤ (v : Int)) = false := by simp <;> omega
  have d2 : decide ((16384 : Int) < (T : Int)) = false := by simp <;> omega
  have HTK := Lib.hid (plc_take v T)
  have HPL := Lib.hid (plc_length v T)
  go_enter Tryd.func55, Tryd.ntmps55
  go_wp2_with (at_make; refine wpList_make_own _ rfl _ _ 39 rfl w.heap.size 3 i0 (.int .i64 0) 1 Tryd.underlying39 hi0 hz0 hz1 .i64 .i64 _ T rfl rfl (by first | rfl | omega) (by rw [hz2]; omega) (by unfold maxLen; omega) (Nat.le_refl _) ?_; intro w0 hown0 hgrow0)
  have hbel0 : Below w.heap.size w w0 := (Below.refl _ _).grown hgrow0 (Nat.le_refl _) (fun k h => by cases h)
  clear hgrow0 hi0 hz0 hz1 hz2
  go_loopw [6, 25] (fun s i wr => ∃ k : Nat, k ≤ T ∧ i = .int .i64 k ∧ ∃ A1 c1, s = .slice A1 k c1 ∧ Own wr w.heap.size 3 A1 k c1 (I64 ((plc v T).take k)) ∧ Below w.heap.size w wr) (fun _ i _ => T - (intOf i).toNat)
  case atStart => exact ⟨0, Nat.zero_le _, rfl, _, _, rfl, ⟨hown0⟩, hbel0⟩
  case round =>
    clear hown0 hbel0
    obtain ⟨k, hk, rfl, A1, c1, rfl, hown, hbel⟩ := hrel
    have hsz := hbel.size
    by_cases hlt : k < T
    · have hs := Cv.st_lt v k
      have C := Lib.hid (patstream v k wr hv (by omega))
      have HK := Lib.hid (HTK.out k hlt)
      obtain ⟨p, hp⟩ : ∃ p, p = 4 * k + Cv.st v k := ⟨_, rfl⟩
      have ep : 4 * (k : Int) + ((Cv.st v k : Nat) : Int) = (p : Int) := by omega
      rw [← hp] at HK
      clear hp
      generalize Cv.st v k = s at *
      go_wp2_with (first | (go_at_call 96; refine C.out.mono ?_; rintro e w' ⟨rfl, rfl⟩) | (at_builtin; refine app64 _ rfl _ _ rfl w.heap.size _ _ _ _ (p : Int) rfl hown rfl (by omega) hsz ?_; intro A3 c3 w3 hown3 hgrow3))
      go_roundw
      case rel =>
        refine ⟨k + 1, by omega, by go_num, A3, c3, rfl, ?_, hbel.grown hgrow3 hsz (fun j hj => (hown.block j hj).1)⟩
        rw [HK.out]
        exact hown3
      case measure => simp [intOf] <;> omega
    · obtain rfl : k = T := by omega
      rw [List.take_of_length_le (by rw [HPL.out]; exact Nat.le_refl _)] at hown
      go_wp2
      go_ret2
      exact ⟨A1, c1, rfl, hown, hbel⟩
set_option maxHeartbeats 400000 in
theorem patPlacesNo (v t : Int) (w : World) (h : v < 0 ∨ 3 < v ∨ t < 0 ∨ 16384 < t) : Calls Tryd.prog 55 #[.int .i64 v, .int .i64 t] w fun e w' => e = .returned (.tuple #[.slice none 0 0, .int .i64 1]) ∧ w = w' := by
  by_cases h1 : v < 0
  · go_enter Tryd.func55, Tryd.ntmps55
    go_wp2
    go_ret2
    exact ⟨rfl, rfl⟩
  · by_cases h2 : 4 ≤ v
    · go_enter Tryd.func55, Tryd.ntmps55
      go_wp2
      go_ret2
      exact ⟨rfl, rfl⟩
    · by_cases h3 : t < 0
      · go_enter Tryd.func55, Tryd.ntmps55
        go_wp2
        go_ret2
        exact ⟨rfl, rfl⟩
      · have h4 : 16384 < t := by omega
        go_enter Tryd.func55, Tryd.ntmps55
        go_wp2
        go_ret2
        exact ⟨rfl, rfl⟩
end Go.Proofs.YtknfpdlomgllhaaDoor
