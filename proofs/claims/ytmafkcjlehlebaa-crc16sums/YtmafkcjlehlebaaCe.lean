/-
  Contracts of layer 5's Seal and Right.
-/
import Derived.Test.YtmafkcjlehlebaaCb
import Derived.Test.YtmafkcjlehlebaaCn
namespace Go.Proofs.Ytmafkcjlehlebaa
open Go.RowKit
set_option linter.unusedVariables false

set_option maxHeartbeats 400000 in
/-- crc16.Seal. -/
theorem sealC16 (A : Option Addr) (n c : Nat) (bs : List Nat) (w : World) (hr : Rd w w.heap.size A n (U8 bs)) (hb : ∀ b ∈ bs, b < 256) (hnone : A = none → n = 0 ∧ c = 0) (hn : n ≤ 65536) :
    Calls Try.prog 20 #[.slice A n c] w (Made w (Crc.seal16 bs)) := by
  obtain ⟨i0, hi0, hz0, hz1, hz2⟩ := info_parts info5
  have HN := Lib.hid hr.len8
  have C := Lib.hid (sum16 A n c bs w hr hb hn)
  have hl := Crc.r16_lt bs hb
  have HS : Hid (Crc.seal16 bs = bs ++ [Crc.r16 bs / 256, Crc.r16 bs % 256]) := rfl
  generalize Crc.r16 bs = s at *
  obtain ⟨h, hh⟩ : ∃ h, h = s / 256 := ⟨_, rfl⟩
  obtain ⟨l, hll⟩ : ∃ l, l = s % 256 := ⟨_, rfl⟩
  have e1 : (s : Int) / 256 = (h : Int) := by omega
  have e2 : (s : Int) % 256 = (l : Int) := by omega
  have h1 : h < 256 := by omega
  have h2 : l < 256 := by omega
  rw [← hh, ← hll] at HS
  clear hh hll
  go_enter Try.func20, Try.ntmps20
  go_wp2_with (first
    | (go_at_call 18; refine C.out.mono ?_; rintro e w' ⟨rfl, rfl⟩)
    | (at_make; refine wpList_make_own _ rfl _ _ 22 rfl w.heap.size 5 i0 (.int .u8 0) 1 Try.underlying22 hi0 hz0 hz1 .i64 .i64 _ (n + 2) rfl rfl (by first | rfl | omega) (by rw [hz2]; omega) (by unfold maxLen; omega) (Nat.le_refl _) ?_; intro w0 hown0 hgrow0; have hbel0 : Below w.heap.size w w0 := (Below.refl _ _).grown hgrow0 (Nat.le_refl _) (fun k h => by cases h))
    | (at_builtin; refine wpList_app _ rfl _ _ 22 rfl w.heap.size 5 i0 _ 1 Try.underlying22 hi0 hz0 hz1 hz2 rfl _ 0 (n + 2) [] rfl ⟨hown0⟩ w.heap.size A n c (U8 bs) rfl (hr.below hbel0) hnone (U8_one bs) (by omega) (by unfold maxLen; omega) hbel0.size ?_; intro A5 c5 w5 hown5 hgrow5; have own5 := hown5.to (Nat.zero_add n) (List.nil_append (U8 bs)); have hbel5 : Below w.heap.size w w5 := hbel0.grown hgrow5 hbel0.size (fun j hj => by simp [Value.ownBlock] at hj; omega))
    | (at_builtin; refine wpList_app _ rfl _ _ 22 rfl w.heap.size 5 i0 _ 1 Try.underlying22 hi0 hz0 hz1 hz2 rfl A5 n c5 (U8 bs) rfl (own5.below ((Below.refl _ _).alloc (Nat.le_refl _) _) (Nat.le_refl _)) _ _ 2 2 (U8 [h, l]) rfl (rd_block w5 5 _ (0, 0) _ 2 rfl rfl) (by simp) (U8_one _) (by omega) (by unfold maxLen; omega) (by simp; exact Nat.le_trans hbel5.size (Nat.le_succ _)) ?_; intro A6 c6 w6 hown6 hgrow6))
  go_ret
  refine ⟨A6, n + 2, c6, rfl, ?_, ?_⟩
  · rw [HS.out, U8_append]; exact hown6
  · exact (hbel5.alloc hbel5.size _).grown hgrow6 (by simp; exact Nat.le_trans hbel5.size (Nat.le_succ _)) (fun j hj => (own5.block j hj).1)

theorem or_16 (x y : Nat) (hx : x < 256) (hy : y < 256) : bits BinOp.or IntKind.u16 ((x : Int) * 256) (y : Int) = ((x * 256 + y : Nat) : Int) := by
  rw [show ((x : Int) * 256) = ((x * 256 : Nat) : Int) by omega, u16_or_nat _ _ (by omega) (by omega), nat_join 8 (x * 256) y (by omega) (by omega)]

set_option maxHeartbeats 400000 in
/-- crc16.Right. -/
theorem rightC16 (A : Option Addr) (n c : Nat) (bs : List Nat) (w : World) (hr : Rd w w.heap.size A n (U8 bs)) (hb : ∀ b ∈ bs, b < 256) (hnc : n ≤ c) (hn : n ≤ 65536) (hc : c ≤ 9223372036854775807) :
    Calls Try.prog 22 #[.slice A n c] w fun e w' => e = .returned (.bool (Crc.ok16 bs)) ∧ ∃ m, w' = w.drewN m := by
  have HN := Lib.hid hr.len8
  by_cases h2 : 2 ≤ n
  · obtain ⟨m, hm⟩ : ∃ m, m = n - 2 := ⟨_, rfl⟩
    have r1 := hr.cut8 m (by omega)
    obtain ⟨b, off, rfl, hlt, g1⟩ := hr.cell8 m (by omega)
    obtain ⟨b', off', he, _, g2⟩ := hr.cell8 (m + 1) (by omega)
    have C := Lib.hid (fun j => Calls.quiet_of_same ((sum16 (some ⟨b, off, none⟩) m c (bs.take m) (w.drewN j) (r1.below (below_drawn j)) (take256 hb m) (by omega)).mono fun e w' h => ⟨h.1, h.2.symm⟩))
    injection he with he
    injection he with he1 he2
    subst he1 he2
    have HO : Hid (Crc.ok16 bs = ((Crc.r16 (bs.take m) : Int) == ((bs.getD m 0 * 256 + bs.getD (m + 1) 0 : Nat) : Int))) := by
      unfold Hid Crc.ok16
      rw [← HN.out, ← hm, show n - 1 = m + 1 by omega, Bool.eq_iff_iff]
      simp only [decide_eq_true_eq, beq_iff_eq]
      omega
    have x1 := Bm.byte_lt bs hb m
    have x2 := Bm.byte_lt bs hb (m + 1)
    generalize bs.getD m 0 = x at *
    generalize bs.getD (m + 1) 0 = y at *
    generalize Crc.r16 (bs.take m) = s at *
    have e5 := or_16 x y x1 x2
    generalize x * 256 + y = u at *
    have t0 : decide ((0 : Int) ≤ (m : Int)) = true := by simp
    have e0 : (n : Int) - 2 = (m : Int) := by omega
    have f0 : (0 : Int) ≤ (m : Int) := by omega
    have f2 : (0 : Int) ≤ (m : Int) + 1 := by omega
    have f6 : (m : Int) < (n : Int) := by omega
    have f7 : (m : Int) + 1 < (n : Int) := by omega
    have f8 : (m : Int) ≤ (c : Int) := by omega
    have f1 : IntKind.i64.wrap ((m : Int) + 1) = (m : Int) + 1 := IntWalk.i64_in _ (by omega)
    have f4 : IntKind.u16.wrap ((x : Int) * 256) = (x : Int) * 256 := IntWalk.u16_in _ (by omega)
    have f3 : ((m : Int) + 1).toNat = m + 1 := by omega
    have g2' : w.cell? ⟨b, off + m + 1, none⟩ = some (.int .u8 (y : Int)) := by rw [Nat.add_assoc]; exact g2
    clear hm h2
    go_enter Try.func22, Try.ntmps22
    go_wp2_with fail
    go_quiet ((go_at_call 18; exact C.out _))
    go_wp2
    go_ret
    exact ⟨by rw [HO.out]; rfl, _, rfl⟩
  · have t0 : decide ((0 : Int) ≤ (n : Int) - 2) = false := by simp; omega
    have t1 : decide ((2 : Int) ≤ (n : Int)) = false := by simp; omega
    have t2 : decide (2 ≤ n) = false := by simp; omega
    have HO : Hid (Crc.ok16 bs = false) := by
      unfold Hid Crc.ok16
      rw [← HN.out]; simp; omega
    go_enter Try.func22, Try.ntmps22
    go_wp2_with fail
    go_quiet (fail)
    go_wp2
    go_ret
    exact ⟨by rw [HO.out]; rfl, _, rfl⟩
end Go.Proofs.Ytmafkcjlehlebaa
