/-
  Layer 9: Decode of whatever list; the statements' first test.
-/
import Derived.Test.YtlnjealhiikmeabDoorVh
import Derived.Test.YtlnjealhiikmeabDoorSc
namespace Go.Proofs.YtlnjealhiikmeabDoor
open Go.RowKit
set_option linter.unusedVariables false
set_option linter.unusedSimpArgs false

/-- Decode of a list that a code may have. -/
theorem decodeR (A : Option Addr) (N n c : Nat) (l : List Int) (w : World) (hr : Rd w w.heap.size A N (I64 l)) (hin : ∀ z ∈ l, -31 ≤ z ∧ z ≤ 31) (hN : N = 4 * (n + 6)) (hn : n ≤ 4096) (hc : N ≤ c) (hc2 : c ≤ 9223372036854775807) (hT : Taps w) :
    Calls Tryd.prog 11 #[.slice A N c] w (Decoded w (Cv.rb l n 0 0) (Cv.mb l n 0 0)) := by
  obtain ⟨b, off, rfl, _, _⟩ := hr.at_ (by omega)
  exact decodeC b off N n c l w hr hin hN hn hc hc2 hT
theorem decodeO (A : Option Addr) (N n c base : Nat) (l : List Int) (w W : World) (ho : Own w base 3 A N c (I64 l)) (hB : Below w.heap.size w W) (hin : ∀ z ∈ l, -31 ≤ z ∧ z ≤ 31) (hN : N = 4 * (n + 6)) (hn : n ≤ 4096) (hT : Taps W) :
    Calls Tryd.prog 11 #[.slice A N c] W (Decoded W (Cv.rb l n 0 0) (Cv.mb l n 0 0)) := by
  have hb := ho.bounds
  unfold maxLen at hb
  exact decodeR A N n c l W (ho.rdOf hB) hin hN hn hb.1 (by omega) hT
set_option maxHeartbeats 400000 in
/-- Decode of a count that no code has. -/
theorem decodeArg (A : Option Addr) (N c : Nat) (w : World) (hN : N % 4 ≠ 0 ∨ N < 24 ∨ 16408 < N) (hN2 : N ≤ 1000000) :
    Calls Tryd.prog 11 #[.slice A N c] w fun e w' => e = .returned (.tuple #[.slice none 0 0, .int .i64 0, .int .i64 1]) ∧ w = w' := by
  have C1 := Lib.hid (countNo N w hN hN2)
  clear hN
  go_enter Tryd.func11, Tryd.ntmps11
  go_wp2_with (go_at_call 28; refine C1.out.mono ?_; rintro e w' ⟨⟨v, rfl⟩, rfl⟩)
  go_ret3
  exact ⟨rfl, rfl⟩
set_option maxHeartbeats 400000 in
/-- Decode of numbers beyond the bounds. -/
theorem decodeField (A : Option Addr) (N n c : Nat) (l : List Int) (w : World) (hr : Rd w w.heap.size A N (I64 l)) (hin : Cv.inB l = false) (hN : N = 4 * (n + 6)) (hn : n ≤ 4096) :
    Calls Tryd.prog 11 #[.slice A N c] w fun e w' => e = .returned (.tuple #[.slice none 0 0, .int .i64 0, .int .i64 5]) ∧ w = w' := by
  have C1 := Lib.hid (countYes N n w hN hn)
  have C2 := Lib.hid (vWithin A N c l w hr (by omega))
  rw [hin] at C2
  clear hN
  go_enter Tryd.func11, Tryd.ntmps11
  go_wp2_with (first | (go_at_call 28; refine C1.out.mono ?_; rintro e w' ⟨rfl, rfl⟩) | (go_at_call 29; refine C2.out.mono ?_; rintro e w' ⟨rfl, rfl⟩))
  go_ret3
  exact ⟨rfl, rfl⟩

theorem mend4 : Cv.rb (Cv.soft (Cv.code [1, 0, 1, 1])) 4 0 0 = [1, 0, 1, 1] ∧ Cv.mb (Cv.soft (Cv.code [1, 0, 1, 1])) 4 0 0 = 40 := by
  have hb : ∀ x ∈ [1, 0, 1, 1], x ≤ 1 := by decide
  have hap : Bm.ap (Cv.code [1, 0, 1, 1]) (Cv.code [1, 0, 1, 1]) = 0 := by
    have key : ∀ (l : List Nat) k, Bm.cnt (fun i => l.getD i 0 != l.getD i 0) k = 0 := by
      intro l k
      induction k with
      | zero => rfl
      | succ k ih => unfold Bm.cnt; rw [ih]; simp
    exact key _ _
  obtain ⟨h1, h2⟩ := Cv.mends [1, 0, 1, 1] (Cv.code [1, 0, 1, 1]) hb (Cv.code_bit _ hb) (Cv.code_length _) (by rw [hap]; omega)
  have e : Cv.rb (Cv.soft (Cv.code [1, 0, 1, 1])) 4 0 0 = [1, 0, 1, 1] := (Cv.rb_best _ 4).uniq h1
  refine ⟨e, ?_⟩
  rw [← Cv.rb_eq, e]
  rw [hap, Cv.code_length] at h2
  exact h2
theorem str4 : ((str [1, 0, 1, 1]).toList == [1, 0, 1, 1]) = true := by decide +kernel

set_option maxHeartbeats 1000000 in
theorem decodesC (w : World) (hT : Taps w) : Calls Tryd.prog 13 #[] w fun e w' => e = .returned (.bool true) ∧ Below w.heap.size w w' := by
  have hb : ∀ x ∈ [1, 0, 1, 1], x ≤ 1 := by decide
  have bel1 : Below w.heap.size w (w.alloc (.cells #[.int .u8 1, .int .u8 0, .int .u8 1, .int .u8 1] 5)) := (Below.refl _ _).alloc (Nat.le_refl _) _
  have r1 := rd_block w 5 #[.int .u8 1, .int .u8 0, .int .u8 1, .int .u8 1] (0, 0) (U8 [1, 0, 1, 1]) 4 rfl rfl
  have C := Lib.hid (refCode _ 4 4 [1, 0, 1, 1] _ r1 hb (by omega))
  have HL := Lib.hid (Cv.code_length [1, 0, 1, 1])
  have HM := Lib.hid mend4
  have HST := Lib.hid (fun k hk => Cv.soft_take (Cv.code [1, 0, 1, 1]) k hk)
  have HSB := Lib.hid (Cv.soft_bounds (Cv.code [1, 0, 1, 1]))
  have h4 := str4
  generalize Cv.code [1, 0, 1, 1] = cd at *
  clear r1
  go_enter Tryd.func13, Tryd.ntmps13
  go_wp2_with (go_at_call 17; refine C.out.mono ?_; rintro e w2 ⟨A2, n2, c2, rfl, ow2, be2⟩)
  have hn2 : n2 = 40 := by rw [ow2.rd.len8, HL.out]; rfl
  subst hn2
  have bel2 := bel1.trans (be2.mono (by simp))
  have hT2 := hT.after bel2
  have r2 := ow2.rdOf (Below.refl _ _)
  have HN := Lib.hid r2.len8
  clear C bel1 be2 hT
  go_loopw [1, 3] (fun s i wr => ∃ k : Nat, k ≤ 40 ∧ i = .int .i64 k ∧ ∃ A1 c1, s = .slice A1 k c1 ∧ Own wr w2.heap.size 3 A1 k c1 (I64 (Cv.soft (cd.take k))) ∧ Below w2.heap.size w2 wr) (fun _ i _ => 40 - (intOf i).toNat)
  case atStart => exact ⟨0, Nat.zero_le _, rfl, none, 0, rfl, Own.nil _ _ _, Below.refl _ _⟩
  case round =>
    obtain ⟨k, hk, rfl, A1, c1, rfl, hown, hbel⟩ := hrel
    have hsz := hbel.size
    by_cases hlt : k < 40
    · obtain ⟨b, off, rfl, hlt2, hcell⟩ := (r2.below hbel).cell8 k hlt
      have HT := Lib.hid (HST.out k (by rw [← HN.out]; exact hlt))
      obtain ⟨x, hxe⟩ : ∃ x, x = cd.getD k 0 := ⟨_, rfl⟩
      rw [← hxe] at hcell HT
      clear hxe
      have C3 := Lib.hid (refOf x wr)
      obtain ⟨o, ho⟩ : ∃ o : Int, o = (if x = 0 then 1 else -1) := ⟨_, rfl⟩
      rw [← ho] at C3 HT
      clear ho
      go_wp2_with (first | (go_at_call 20; refine C3.out.mono ?_; rintro e w' ⟨rfl, rfl⟩) | (at_builtin; refine app64 _ rfl _ _ rfl w2.heap.size _ _ _ _ o rfl hown rfl (by omega) hsz ?_; intro A3 c3 w3 hown3 hgrow3))
      go_roundw
      case rel =>
        refine ⟨k + 1, by omega, by go_num, A3, c3, rfl, ?_, hbel.grown hgrow3 hsz (fun j hj => (hown.block j hj).1)⟩
        rw [HT.out]
        exact hown3
      case measure => simp [intOf] <;> omega
    · obtain rfl : k = 40 := by omega
      rw [List.take_of_length_le (by rw [← HN.out]; omega)] at hown
      have D := Lib.hid (decodeO A1 40 4 c1 w2.heap.size (Cv.soft cd) wr wr hown (Below.refl _ _) HSB.out (by omega) (by omega) (hT2.after hbel))
      rw [HM.out.1, HM.out.2] at D
      go_wp2_with (go_at_call 11; refine D.out.mono ?_; rintro e w5 ⟨A5, n5, c5, rfl, ow5, be5⟩; have hcv := ow5.conv w5 (Below.refl _ _))
      go_ret
      exact ⟨rfl, (bel2.trans (hbel.mono bel2.size)).trans (be5.mono (Nat.le_trans bel2.size hsz))⟩
end Go.Proofs.YtlnjealhiikmeabDoor
