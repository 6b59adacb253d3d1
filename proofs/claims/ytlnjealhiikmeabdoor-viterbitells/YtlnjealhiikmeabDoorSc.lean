/-
  Contracts of layer 8 and of its reference: All, Hard, Few, Add.
-/
import Derived.Test.YtlnjealhiikmeabDoorSb
namespace Go.Proofs.YtlnjealhiikmeabDoor
open Go.RowKit
set_option linter.unusedVariables false

/-- What a call gives that makes a []int. -/
def MadeI (w : World) (zs : List Int) (e : Ending) (w' : World) : Prop := ∃ A n c, e = .returned (.slice A n c) ∧ Own w' w.heap.size 3 A n c (I64 zs) ∧ Below w.heap.size w w'

set_option maxHeartbeats 400000 in
/-- soft.All. -/
theorem softAll (A : Option Addr) (n c : Nat) (bs : List Nat) (w : World) (hr : Rd w w.heap.size A n (U8 bs)) (hn : n ≤ 65536) :
    Calls Tryd.prog 27 #[.slice A n c] w (MadeI w (Cv.soft bs)) := by
  obtain ⟨i0, hi0, hz0, hz1, hz2⟩ := info_parts info3
  have HN := Lib.hid hr.len8
  go_enter Tryd.func27, Tryd.ntmps27
  go_wp2_with (at_make; refine wpList_make_own _ rfl _ _ 22 rfl w.heap.size 3 i0 (.int .i64 0) 1 Tryd.underlying22 hi0 hz0 hz1 .i64 .i64 _ n rfl rfl (by first | rfl | omega) (by rw [hz2]; omega) (by unfold maxLen; omega) (Nat.le_refl _) ?_; intro w0 hown0 hgrow0)
  clear hz0 hz1 hz2 hi0
  go_loopw [3, 11] (fun l i wr => ∃ k : Nat, k ≤ n ∧ i = .int .i64 k ∧ ∃ A1 c1, l = .slice A1 k c1 ∧ Own wr w.heap.size 3 A1 k c1 (I64 (Cv.soft (bs.take k))) ∧ Below w.heap.size w wr) (fun _ i _ => n - (intOf i).toNat)
  case atStart => exact ⟨0, Nat.zero_le _, rfl, _, _, rfl, ⟨hown0⟩, (Below.refl _ _).grown hgrow0 (Nat.le_refl _) (fun k h => by cases h)⟩
  case round =>
    clear hown0 hgrow0
    obtain ⟨k, hk, rfl, A1, c1, rfl, hown, hbel⟩ := hrel
    have hsz := hbel.size
    by_cases hlt : k < n
    · obtain ⟨b, off, rfl, hlt2, hcell⟩ := (hr.below hbel).cell8 k hlt
      have HT := Lib.hid (Cv.soft_take bs k (by rw [← HN.out]; exact hlt))
      obtain ⟨x, hxe⟩ : ∃ x, x = bs.getD k 0 := ⟨_, rfl⟩
      rw [← hxe] at hcell HT
      clear hxe
      have C3 := Lib.hid (softOf x wr)
      obtain ⟨o, ho⟩ : ∃ o : Int, o = (if x = 0 then 1 else -1) := ⟨_, rfl⟩
      rw [← ho] at C3 HT
      clear ho
      go_wp2_with (first | (go_at_call 46; refine C3.out.mono ?_; rintro e w' ⟨rfl, rfl⟩) | (at_builtin; refine app64 _ rfl _ _ rfl w.heap.size _ _ _ _ o rfl hown rfl (by omega) hsz ?_; intro A3 c3 w3 hown3 hgrow3))
      go_roundw
      case rel =>
        refine ⟨k + 1, by omega, by go_num, A3, c3, rfl, ?_, hbel.grown hgrow3 hsz (fun j hj => (hown.block j hj).1)⟩
        rw [HT.out]
        exact hown3
      case measure => simp [intOf] <;> omega
    · go_wp2
      go_ret
      refine ⟨A1, k, c1, rfl, hown.to rfl ?_, hbel⟩
      rw [List.take_of_length_le (by rw [← HN.out]; omega)]
theorem rem32 (x : Int) : -31 ≤ x.tmod 32 ∧ x.tmod 32 ≤ 31 := by
  by_cases h : 0 ≤ x
  · rw [Int.tmod_eq_emod_of_nonneg h]; omega
  · have h1 := Int.neg_tmod x 32
    rw [Int.tmod_eq_emod_of_nonneg (by omega)] at h1
    omega
/-- Few of numbers. -/
def fewI (zs : List Int) (k : Nat) : List Int := (zs.take k).map fun z => z.tmod 32
theorem fewI_length (zs : List Int) (k : Nat) : (fewI zs k).length = min k zs.length := by simp [fewI]
theorem fewI_in (zs : List Int) (k : Nat) : ∀ z ∈ fewI zs k, -31 ≤ z ∧ z ≤ 31 := by
  intro z hz
  obtain ⟨x, _, rfl⟩ := List.mem_map.1 hz
  exact rem32 x
theorem fewI_succ (zs : List Int) (k : Nat) (h : k < zs.length) : fewI zs (k + 1) = fewI zs k ++ [(zs.getD k 0).tmod 32] := by
  unfold fewI
  rw [List.take_succ_eq_append_getElem h, List.map_append, Bm.getD_lt _ _ _ h]
  rfl
set_option maxHeartbeats 400000 in
/-- The reference's Few of numbers. -/
theorem refFewI (A : Option Addr) (n c most : Nat) (zs : List Int) (w : World) (hr : Rd w w.heap.size A n (I64 zs)) (hn : n ≤ 9223372036854775807) (hm : most ≤ 65536) :
    Calls Tryd.prog 10 #[.slice A n c, .int .i64 (most : Int)] w (MadeI w (fewI zs most)) := by
  have HN := Lib.hid hr.len64
  go_enter Tryd.func10, Tryd.ntmps10
  go_wp2
  go_loopw [5, 6] (fun l i wr => ∃ k : Nat, k ≤ n ∧ k ≤ most ∧ i = .int .i64 k ∧ ∃ A1 c1, l = .slice A1 k c1 ∧ Own wr w.heap.size 3 A1 k c1 (I64 (fewI zs k)) ∧ Below w.heap.size w wr) (fun _ i _ => n - (intOf i).toNat)
  case atStart => exact ⟨0, Nat.zero_le _, Nat.zero_le _, rfl, none, 0, rfl, Own.nil _ _ _, Below.refl _ _⟩
  case round =>
    obtain ⟨k, hk, hk2, rfl, A1, c1, rfl, hown, hbel⟩ := hrel
    have hsz := hbel.size
    by_cases hlt : k < n
    · by_cases hlt4 : k < most
      · obtain ⟨b, off, rfl, hlt2, hcell⟩ := (hr.below hbel).cell64 k hlt
        have HT := Lib.hid (fewI_succ zs k (by rw [← HN.out]; exact hlt))
        obtain ⟨x, hxe⟩ : ∃ x, x = zs.getD k 0 := ⟨_, rfl⟩
        rw [← hxe] at hcell HT
        clear hxe
        have hq := rem32 x
        obtain ⟨y, hy⟩ : ∃ y, x.tmod 32 = y := ⟨_, rfl⟩
        rw [hy] at hq HT
        obtain ⟨hq1, hq2⟩ := hq
        go_wp2_with (at_builtin; refine app64 _ rfl _ _ rfl w.heap.size _ _ _ _ y rfl hown rfl (by omega) hsz ?_; intro A3 c3 w3 hown3 hgrow3)
        go_roundw
        case rel =>
          refine ⟨k + 1, by omega, by omega, by go_num, A3, c3, rfl, ?_, hbel.grown hgrow3 hsz (fun j hj => (hown.block j hj).1)⟩
          rw [HT.out]
          exact hown3
        case measure => simp [intOf] <;> omega
      · have hd : decide ((k : Int) < (n : Int)) = true := by simp; omega
        go_wp2
        go_ret
        refine ⟨A1, k, c1, rfl, hown.to rfl ?_, hbel⟩
        rw [show k = most by omega]
    · go_wp2
      go_ret
      refine ⟨A1, k, c1, rfl, hown.to rfl ?_, hbel⟩
      unfold fewI
      rw [List.take_of_length_le (by rw [← HN.out]; omega), List.take_of_length_le (by rw [← HN.out]; omega)]
end Go.Proofs.YtlnjealhiikmeabDoor
