/-
  Contract of bits.Of.
-/
import Derived.Test.YtmafkcjlehlebaaMem
import Derived.Test.YtmafkcjlehlebaaBm
namespace Go.Proofs.Ytmafkcjlehlebaa
open Go.RowKit
set_option linter.unusedVariables false
set_option maxHeartbeats 1000000 in
/-- bits.Of. -/
theorem bitsOf (A : Option Addr) (n c : Nat) (bs : List Nat) (w : World) (hr : Rd w w.heap.size A n (U8 bs)) (hb : ∀ b ∈ bs, b < 256) (hn : n ≤ 65536) :
    Calls Try.prog 25 #[.slice A n c] w (Made w (Bm.ofBytes bs)) := by
  obtain ⟨i0, hi0, hz0, hz1, hz2⟩ := info_parts info5
  have HN := Lib.hid hr.len8
  go_enter Try.func25, Try.ntmps25
  go_wp2_with (at_make; refine wpList_make_own _ rfl _ _ 22 rfl w.heap.size 5 i0 (.int .u8 0) 1 Try.underlying22 hi0 hz0 hz1 .i64 .i64 _ (8 * n) rfl rfl (by first | rfl | omega) (by rw [hz2]; omega) (by unfold maxLen; omega) (Nat.le_refl _) ?_; intro w0 hown0 hgrow0)
  clear hz0 hz1 hz2 hi0
  go_loopw [3, 13] (fun l i wr => ∃ k : Nat, k ≤ n ∧ i = .int .i64 k ∧ ∃ A1 c1, l = .slice A1 (8 * k) c1 ∧ Own wr w.heap.size 5 A1 (8 * k) c1 (U8 (Bm.ofBytes (bs.take k))) ∧ Below w.heap.size w wr) (fun _ i _ => n - (intOf i).toNat)
  case atStart => exact ⟨0, Nat.zero_le _, rfl, _, _, rfl, ⟨hown0⟩, (Below.refl _ _).grown hgrow0 (Nat.le_refl _) (fun k h => by cases h)⟩
  case round =>
    clear hown0 hgrow0
    obtain ⟨k, hk, rfl, A1, c1, rfl, hown, hbel⟩ := hrel
    by_cases hlt : k < n
    · obtain ⟨b, off, rfl, hlt2, hcell⟩ := (hr.below hbel).cell8 k hlt
      have hx := Bm.byte_lt bs hb k
      have HT := Lib.hid (Bm.ofBytes_take bs k (by rw [← HN.out]; exact hlt))
      obtain ⟨x, hxe⟩ : ∃ x, x = bs.getD k 0 := ⟨_, rfl⟩
      rw [← hxe] at hx hcell HT
      clear hxe
      go_wp2
      go_loopw [3, 6] (fun l i wr2 => ∃ m : Nat, m ≤ 8 ∧ i = .int .i64 ((m : Int) - 1) ∧ ∃ A2 c2, l = .slice A2 (8 * k + (8 - m)) c2 ∧ Own wr2 w.heap.size 5 A2 (8 * k + (8 - m)) c2 (U8 (Bm.ofBytes (bs.take k) ++ (Bm.bits8 x).take (8 - m))) ∧ Below w.heap.size w wr2) (fun _ i _ => (intOf i + 1).toNat)
      case atStart => exact ⟨8, by omega, rfl, A1, c1, rfl, by simpa using hown, hbel⟩
      case round =>
        clear hown hbel hcell
        rename_i wr2 _
        obtain ⟨m, hm, rfl, A2, c2, rfl, hown, hbel⟩ := hrel
        have hsz := hbel.size
        cases m with
        | zero =>
          go_wp2
          go_roundw
          case rel =>
            refine ⟨k + 1, by omega, by go_num, A2, c2, slice_len (by omega), ?_, hbel⟩
            refine hown.to (by omega) ?_
            rw [HT.out, Nat.sub_zero, Bm.bits8_all]
          case measure => simp [intOf] <;> omega
        | succ p =>
          have hp : ((p + 1 : Nat) : Int) - 1 = (p : Int) := by omega
          rw [hp]
          clear hp
          go_wp2_with (at_builtin; refine app8 _ rfl _ _ rfl w.heap.size _ _ _ _ (x / 2 ^ p % 2) _ (bit_u8 x p hx) rfl hown rfl (by omega) hsz ?_; intro A3 c3 w3 hown3 hgrow3)
          go_roundw
          case rel =>
            refine ⟨p, by omega, by go_num, A3, c3, slice_len (by omega), ?_, hbel.grown hgrow3 hsz (fun j hj => (hown.block j hj).1)⟩
            refine hown3.to (by omega) ?_
            rw [show 8 - p = 8 - (p + 1) + 1 by omega, Bm.bits8_take x _ (by omega), show 7 - (8 - (p + 1)) = p by omega, ← List.append_assoc]
          case measure => simp [intOf] <;> omega
    · go_wp2
      go_ret
      have hkn : k = n := by omega
      refine ⟨A1, 8 * k, c1, rfl, ?_, hbel⟩
      rw [hkn, HN.out, List.take_length] at hown
      rw [hkn, HN.out]
      exact hown
end Go.Proofs.Ytmafkcjlehlebaa
