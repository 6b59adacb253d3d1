/-
  Contracts of layer 10's reference: Stream, Version, Pick.
-/
import Derived.Test.YtknfpdlomgllhaaDoorMem
import Derived.Test.YtknfpdlomgllhaaDoorMz
namespace Go.Proofs.YtknfpdlomgllhaaDoor
open Go.RowKit
set_option maxRecDepth 100000
set_option linter.unusedVariables false

set_option maxHeartbeats 400000 in
/-- The reference's Stream. -/
theorem refStream (v t : Nat) (w : World) (hv : v < 4) (ht : t ≤ 9223372036854775807) : Calls Tryd.prog 61 #[.int .i64 (v : Int), .int .i64 (t : Int)] w fun e w' => e = .returned (.int .i64 (Cv.st v t : Nat)) ∧ w = w' := by
  obtain ⟨r, hr⟩ : ∃ r : Nat, r = t % 4 := ⟨_, rfl⟩
  have e1 : (t : Int) % 4 = (r : Int) := by omega
  have hr4 : r < 4 := by omega
  have e2 : ((v : Int) + (r : Int)) % 4 = ((Cv.st v t : Nat) : Int) := by unfold Cv.st; omega
  clear hr
  generalize Cv.st v t = s at *
  go_enter Tryd.func61, Tryd.ntmps61
  go_wp2
  go_ret
  exact ⟨ret_int' e2, rfl⟩
set_option maxHeartbeats 400000 in
/-- The reference's Version. -/
theorem refVersion (i t : Nat) (w : World) (hi : i < 4) (ht : t ≤ 9223372036854775807) : Calls Tryd.prog 52 #[.int .i64 (i : Int), .int .i64 (t : Int)] w fun e w' => e = .returned (.int .i64 (Cv.vr i t : Nat)) ∧ w = w' := by
  have hr := Cv.vr_lt i t
  have HS : Hid (∀ v, v < 4 → (Cv.st v t = i ↔ v = Cv.vr i t)) := fun v hv => ⟨fun h => by rw [← h, Cv.vr_st v t hv], fun h => by rw [h, Cv.st_vr i t hi]⟩
  generalize Cv.vr i t = r at *
  go_enter Tryd.func52, Tryd.ntmps52
  go_wp2
  go_loop [5] (fun x => ∃ v : Nat, v ≤ r ∧ x = .int .i64 v) (fun x => 4 - (intOf x).toNat)
  case atStart => exact ⟨0, Nat.zero_le _, rfl⟩
  case round =>
    obtain ⟨v, hv, rfl⟩ := hrel
    have hv4 : v < 4 := by omega
    have C := Lib.hid (refStream v t w hv4 ht)
    have hiff := HS.out v hv4
    by_cases hvr : v = r
    · have e : ((Cv.st v t : Nat) : Int) = (i : Int) := by rw [hiff.2 hvr]
      have t1 : (((Cv.st v t : Nat) : Int) == (i : Int)) = true := by simp [e]
      have HV := Lib.hid hvr
      clear e hiff hvr
      generalize Cv.st v t = s at *
      go_wp2_with (go_at_call 61; refine C.out.mono ?_; rintro e w' ⟨rfl, rfl⟩)
      go_ret
      exact ⟨ret_int' (by rw [HV.out]), rfl⟩
    · have t1 : (((Cv.st v t : Nat) : Int) == (i : Int)) = false := by
        have : Cv.st v t ≠ i := fun h => hvr (hiff.1 h)
        simp; omega
      clear hiff
      generalize Cv.st v t = s at *
      go_wp2_with (go_at_call 61; refine C.out.mono ?_; rintro e w' ⟨rfl, rfl⟩)
      go_round
      case rel => exact ⟨v + 1, by omega, by go_num⟩
      case measure => simp [intOf] <;> omega

theorem pick_take (l : List Nat) (v k : Nat) (hk : k < l.length / 4) : (Cv.pick l v).take (k + 1) = (Cv.pick l v).take k ++ [l.getD (4 * k + Cv.st v k) 0] := by
  rw [List.take_succ_eq_append_getElem (by rw [Cv.pick_length]; exact hk), ← Bm.getD_lt _ 0 k (by rw [Cv.pick_length]; exact hk), Cv.pick_get l v k hk]
set_option maxHeartbeats 400000 in
/-- The reference's Pick. -/
theorem refPick (A : Option Addr) (n c T v : Nat) (l : List Nat) (w : World) (hr : Rd w w.heap.size A n (U8 l)) (hn : n = 4 * T) (hT : T ≤ 100000) (hv : v < 4) :
    Calls Tryd.prog 54 #[.slice A n c, .int .i64 (v : Int)] w (Made w (Cv.pick l v)) := by
  have HN := Lib.hid hr.len8
  have HT := Lib.hid hn
  have hl : l.length / 4 = T := by rw [← HN.out, HT.out]; omega
  have HTK : Hid (∀ k, k < T → (Cv.pick l v).take (k + 1) = (Cv.pick l v).take k ++ [l.getD (4 * k + Cv.st v k) 0]) := fun k hk => pick_take l v k (by rw [hl]; exact hk)
  have HPL : Hid ((Cv.pick l v).length = T) := by unfold Hid; rw [Cv.pick_length, hl]
  clear hl hn
  go_enter Tryd.func54, Tryd.ntmps54
  go_wp2
  go_loopw [5, 6] (fun s i wr => ∃ k : Nat, k ≤ T ∧ i = .int .i64 k ∧ ∃ A1 c1, s = .slice A1 k c1 ∧ Own wr w.heap.size 5 A1 k c1 (U8 ((Cv.pick l v).take k)) ∧ Below w.heap.size w wr) (fun _ i _ => T - (intOf i).toNat)
  case atStart => exact ⟨0, Nat.zero_le _, rfl, none, 0, rfl, Own.nil _ _ _, Below.refl _ _⟩
  case round =>
    obtain ⟨k, hk, rfl, A1, c1, rfl, hown, hbel⟩ := hrel
    have hsz := hbel.size
    by_cases hlt : k < T
    · have hs := Cv.st_lt v k
      have C := Lib.hid (refStream v k wr hv (by omega))
      have HK := Lib.hid (HTK.out k hlt)
      obtain ⟨p, hp⟩ : ∃ p, p = 4 * k + Cv.st v k := ⟨_, rfl⟩
      have hpn : p < n := by have := HT.out; omega
      have hkn : 4 * k < n := by omega
      have hkn' : 4 * (k : Int) < (n : Int) := by omega
      have ep : 4 * (k : Int) + ((Cv.st v k : Nat) : Int) = (p : Int) := by omega
      obtain ⟨b, off, rfl, hlt2, hcell⟩ := (hr.below hbel).cell8 p hpn
      rw [← hp] at HK
      clear hp
      generalize l.getD p 0 = x at *
      generalize Cv.st v k = s at *
      go_wp2_with (first | (go_at_call 61; refine C.out.mono ?_; rintro e w' ⟨rfl, rfl⟩) | (at_builtin; refine app8 _ rfl _ _ rfl w.heap.size _ _ _ _ x _ rfl rfl hown rfl (by omega) hsz ?_; intro A3 c3 w3 hown3 hgrow3))
      go_roundw
      case rel =>
        refine ⟨k + 1, by omega, by go_num, A3, c3, rfl, ?_, hbel.grown hgrow3 hsz (fun j hj => (hown.block j hj).1)⟩
        rw [HK.out]
        exact hown3
      case measure => simp [intOf] <;> omega
    · obtain rfl : k = T := by omega
      have hkn' : ¬ 4 * (k : Int) < (n : Int) := by have := HT.out; omega
      have hkn : n ≤ 4 * k := by have := HT.out; omega
      rw [List.take_of_length_le (by rw [HPL.out]; exact Nat.le_refl _)] at hown
      go_wp2
      go_ret
      exact ⟨A1, k, c1, rfl, hown, hbel⟩
end Go.Proofs.YtknfpdlomgllhaaDoor
