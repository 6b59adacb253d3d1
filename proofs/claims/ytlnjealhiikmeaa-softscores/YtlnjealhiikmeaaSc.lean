/-
  Contracts of layer 8 and of its reference: All, Hard, Few, Add.
-/
import Derived.Test.YtlnjealhiikmeaaSb
namespace Go.Proofs.Ytlnjealhiikmeaa
open Go.RowKit
set_option linter.unusedVariables false

/-- What a call gives that makes a []int. -/
def MadeI (w : World) (zs : List Int) (e : Ending) (w' : World) : Prop := ∃ A n c, e = .returned (.slice A n c) ∧ Own w' w.heap.size 3 A n c (I64 zs) ∧ Below w.heap.size w w'

set_option maxHeartbeats 400000 in
/-- soft.All. -/
theorem softAll (A : Option Addr) (n c : Nat) (bs : List Nat) (w : World) (hr : Rd w w.heap.size A n (U8 bs)) (hn : n ≤ 65536) :
    Calls Try.prog 21 #[.slice A n c] w (MadeI w (Cv.soft bs)) := by
  obtain ⟨i0, hi0, hz0, hz1, hz2⟩ := info_parts info3
  have HN := Lib.hid hr.len8
  go_enter Try.func21, Try.ntmps21
  go_wp2_with (at_make; refine wpList_make_own _ rfl _ _ 27 rfl w.heap.size 3 i0 (.int .i64 0) 1 Try.underlying27 hi0 hz0 hz1 .i64 .i64 _ n rfl rfl (by first | rfl | omega) (by rw [hz2]; omega) (by unfold maxLen; omega) (Nat.le_refl _) ?_; intro w0 hown0 hgrow0)
  clear hz0 hz1 hz2 hi0
  go_loopw [3, 11] (fun l i wr => ∃ k : Nat, k ≤ n ∧ i = .int .i64 k ∧ ∃ A1 c1, l = .slice A1 k c1 ∧ Own wr w.heap.size 3 A1 k c1 (I64 (Cv.soft (bs.take k))) ∧ Below w.heap.size w wr) (fun _ i _ => n - (intOf i).toNat)
  case atStart => exact ⟨0, Nat.zero_le _, rfl, _, _, rfl, ⟨hown0⟩, (Below.refl _ _).grown hgrow0 (Nat.le_refl _) (fun k h => by cases h)⟩
  case round =>
    clear hown0 hgrow0
    obtain ⟨k, hk, rfl, A1, c1, rfl, hown, hbel⟩ := hrel
    have hsz := hbel.size
    by_cases hlt : k < n
    · obtain ⟨b, off, rfl, hlt2, hcell⟩ := (hr.below hbel).cell8 k hlt
      have HT := Lib.hid (Cv.soft_take bs k (by rw [← HN.out]; exact hlt))
      obtain ⟨x, hxe⟩ : ∃ x, x = bs.getD k 0 := ⟨_, rfl⟩
      rw [← hxe] at hcell HT
      clear hxe
      have C3 := Lib.hid (softOf x wr)
      obtain ⟨o, ho⟩ : ∃ o : Int, o = (if x = 0 then 1 else -1) := ⟨_, rfl⟩
      rw [← ho] at C3 HT
      clear ho
      go_wp2_with (first | (go_at_call 12; refine C3.out.mono ?_; rintro e w' ⟨rfl, rfl⟩) | (at_builtin; refine app64 _ rfl _ _ rfl w.heap.size _ _ _ _ o rfl hown rfl (by omega) hsz ?_; intro A3 c3 w3 hown3 hgrow3))
      go_roundw
      case rel =>
        refine ⟨k + 1, by omega, by go_num, A3, c3, rfl, ?_, hbel.grown hgrow3 hsz (fun j hj => (hown.block j hj).1)⟩
        rw [HT.out]
        exact hown3
      case measure => simp [intOf] <;> omega
    · go_wp2
      go_ret
      refine ⟨A1, k, c1, rfl, hown.to rfl ?_, hbel⟩
      rw [List.take_of_length_le (by rw [← HN.out]; omega)]
theorem hard_set (zs : List Int) (k : Nat) (n : Nat) (hn : n = zs.length) (h : k < n) : (Cv.hard (zs.take k) ++ List.replicate (n - k) 0).set k (if zs.getD k 0 < 0 then 1 else 0) = Cv.hard (zs.take (k + 1)) ++ List.replicate (n - (k + 1)) 0 := by
  have hl : (Cv.hard (zs.take k)).length = k := by rw [Cv.hard_length, List.length_take]; omega
  have e : Cv.hard (zs.take (k + 1)) = Cv.hard (zs.take k) ++ [if zs.getD k 0 < 0 then 1 else 0] := by
    rw [List.take_succ_eq_append_getElem (by omega), Bm.getD_lt _ _ _ (by omega)]
    unfold Cv.hard
    rw [List.map_append]
    rfl
  rw [e, List.set_append, hl, if_neg (by omega), Nat.sub_self, show n - k = (n - (k + 1)) + 1 by omega, List.replicate_succ, List.set_cons_zero, List.append_assoc]
  rfl
theorem hard_same (zs : List Int) (k : Nat) (n : Nat) (hn : n = zs.length) (h : k < n) (h0 : ¬ zs.getD k 0 < 0) : Cv.hard (zs.take k) ++ List.replicate (n - k) 0 = Cv.hard (zs.take (k + 1)) ++ List.replicate (n - (k + 1)) 0 := by
  rw [← hard_set zs k n hn h, if_neg h0]
  have hl : (Cv.hard (zs.take k)).length = k := by rw [Cv.hard_length, List.length_take]; omega
  rw [List.set_append, hl, if_neg (by omega), Nat.sub_self, show n - k = (n - (k + 1)) + 1 by omega, List.replicate_succ, List.set_cons_zero]

set_option maxHeartbeats 400000 in
/-- soft.Hard. -/
theorem softHard (A : Option Addr) (n c : Nat) (zs : List Int) (w : World) (hr : Rd w w.heap.size A n (I64 zs)) (hn : n ≤ 65536) :
    Calls Try.prog 15 #[.slice A n c] w (Made w (Cv.hard zs)) := by
  obtain ⟨i0, hi0, hz0, hz1, hz2⟩ := info_parts info5
  have HN := Lib.hid hr.len64
  go_enter Try.func15, Try.ntmps15
  go_wp2_with (at_make; refine wpList_make_full _ rfl _ _ 28 rfl w.heap.size 5 i0 (.int .u8 0) 1 Try.underlying28 hi0 hz0 hz1 .i64 .i64 _ _ n rfl rfl (by first | rfl | omega) (by first | rfl | omega) (by rw [hz2]; omega) (by unfold maxLen; omega) (Nat.le_refl _) ?_; intro w0 hown0 hgrow0)
  have hbel0 : Below w.heap.size w w0 := (Below.refl _ _).grown hgrow0 (Nat.le_refl _) (fun k h => by cases h)
  have hown1 : Own w0 w.heap.size 5 (some ⟨w.heap.size, 0, none⟩) n n (U8 (Cv.hard (zs.take 0) ++ List.replicate (n - 0) 0)) := by
    rw [made8] at hown0
    exact ⟨hown0⟩
  clear hown0 hgrow0 hi0 hz0 hz1 hz2
  go_loopw [11] (fun i wr => ∃ k : Nat, k ≤ n ∧ i = .int .i64 k ∧ Own wr w.heap.size 5 (some ⟨w.heap.size, 0, none⟩) n n (U8 (Cv.hard (zs.take k) ++ List.replicate (n - k) 0)) ∧ Below w.heap.size w wr) (fun i _ => n - (intOf i).toNat)
  case atStart => exact ⟨0, Nat.zero_le _, rfl, hown1, hbel0⟩
  case round =>
    clear hown1 hbel0
    obtain ⟨k, hk, rfl, hown, hbel⟩ := hrel
    by_cases hlt : k < n
    · obtain ⟨b, off, rfl, hlt2, hcell⟩ := (hr.below hbel).cell64 k hlt
      have H1 := Lib.hid (hard_set zs k n HN.out hlt)
      have H2 := Lib.hid (hard_same zs k n HN.out hlt)
      obtain ⟨g, hg, hg1, hg2, hgc, hgf, hgs⟩ := hown.slot k hlt
      have hg3 : w.heap.size = g := by injection hg with hg; injection hg
      subst hg3
      have hgl : k < (Cv.hard (zs.take k) ++ List.replicate (n - k) 0).length := by rw [List.length_append, Cv.hard_length, List.length_take, List.length_replicate, ← HN.out]; omega
      rw [U8_get _ k hgl] at hgc
      generalize (Cv.hard (zs.take k) ++ List.replicate (n - k) 0).getD k 0 = y0 at hgc
      obtain ⟨x, hxe⟩ : ∃ x, x = zs.getD k 0 := ⟨_, rfl⟩
      rw [← hxe] at hcell H1 H2
      clear hxe hg hgl
      by_cases h0 : x < 0
      · have HS := Lib.hid (hgs (.int .u8 1))
        clear hgs
        go_wp2
        go_roundw
        case rel =>
          refine ⟨k + 1, by omega, by go_num, ?_, hbel.setCell hg1 _⟩
          have := H1.out
          rw [if_pos h0] at this
          rw [← this, ← U8_set]
          exact HS.out
        case measure => simp [intOf] <;> omega
      · clear hgs
        go_wp2
        go_roundw
        case rel => exact ⟨k + 1, by omega, by go_num, hown.to rfl (by rw [H2.out h0]), hbel⟩
        case measure => simp [intOf] <;> omega
    · go_wp2
      go_ret
      refine ⟨_, n, _, rfl, hown.to rfl ?_, hbel⟩
      rw [show k = n by omega, Nat.sub_self, List.replicate_zero, List.append_nil, List.take_of_length_le (by rw [← HN.out]; omega)]
set_option maxHeartbeats 400000 in
/-- soft.Add. -/
theorem softAdd (a b : Int) (w : World) : Calls Try.prog 10 #[.int .i64 a, .int .i64 b] w fun e w' => e = .returned (.int .i64 (Cv.clip (Cv.clip a + Cv.clip b))) ∧ w = w' := by
  obtain ⟨h1, h1'⟩ := Cv.clip_bounds a
  obtain ⟨h2, h2'⟩ := Cv.clip_bounds b
  go_enter Try.func10, Try.ntmps10
  go_wp2_with (go_at_call 8; refine (softClip _ _).mono ?_; rintro e w' ⟨rfl, rfl⟩)
  go_ret
  exact ⟨rfl, rfl⟩
set_option maxHeartbeats 400000 in
/-- The reference's Add. -/
theorem refAdd (a b : Int) (w : World) : Calls Try.prog 11 #[.int .i64 a, .int .i64 b] w fun e w' => e = .returned (.int .i64 (Cv.clip (Cv.clip a + Cv.clip b))) ∧ w = w' := by
  obtain ⟨h1, h1'⟩ := Cv.clip_bounds a
  obtain ⟨h2, h2'⟩ := Cv.clip_bounds b
  go_enter Try.func11, Try.ntmps11
  go_wp2_with (go_at_call 9; refine (refClip _ _).mono ?_; rintro e w' ⟨rfl, rfl⟩)
  go_ret
  exact ⟨rfl, rfl⟩
end Go.Proofs.Ytlnjealhiikmeaa
