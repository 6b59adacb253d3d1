/-
  Contract of layer 4's Open.
-/
import Derived.Test.YtmafkcjlehlebaaCg
namespace Go.Proofs.Ytmafkcjlehlebaa
open Go.RowKit
set_option linter.unusedVariables false

theorem Rd.from8 {w : World} {B : Nat} {b off n : Nat} {bs : List Nat} (h : Rd w B (some ⟨b, off, none⟩) n (U8 bs)) (k : Nat) (hk : k ≤ n) : Rd w B (some ⟨b, off + k, none⟩) (n - k) (U8 (bs.drop k)) := by
  have hl := h.len8
  refine ⟨?_, fun h0 => ?_⟩
  · rw [U8_length, List.length_drop]; omega
  · obtain ⟨b', off', e, hlt, hc⟩ := h.at_ (by omega)
    injection e with e
    injection e with e1 e2
    subst e1 e2
    refine ⟨b, off + k, rfl, hlt, fun i u hu => ?_⟩
    have := hc (k + i) u (by unfold U8 at *; rw [List.map_drop, List.getElem?_drop] at hu; exact hu)
    rw [← Nat.add_assoc] at this
    exact this

set_option maxHeartbeats 400000 in
/-- crc32.Open, where the sum is none or isn't right. -/
theorem openNo (A : Option Addr) (n c : Nat) (bs : List Nat) (w : World) (hr : Rd w w.heap.size A n (U8 bs)) (hb : ∀ b ∈ bs, b < 256) (hnc : n ≤ c) (hn : n ≤ 65536) (hc : c ≤ 9223372036854775807) (hok : Crc.ok32 bs = false) :
    Calls Try.prog 11 #[.slice A n c] w fun e w' => e = .returned (.tuple #[.slice none 0 0, .bool false]) ∧ ∃ m, w' = w.drewN m := by
  have HN := Lib.hid hr.len8
  have HO := Lib.hid hok
  clear hok
  by_cases h2 : 4 ≤ n
  · obtain ⟨m, hm⟩ : ∃ m, m = n - 4 := ⟨_, rfl⟩
    have r1 := hr.cut8 m (by omega)
    obtain ⟨b, off, rfl, hlt, g1⟩ := hr.cell8 m (by omega)
    have r2 := hr.from8 m (by omega)
    have HE := Lib.hid (show n - m = 4 by omega)
    rw [HE.out] at r2
    have C := Lib.hid (fun j => Calls.quiet_of_same ((sum32 (some ⟨b, off, none⟩) m c (bs.take m) (w.drewN j) (r1.below (below_drawn j)) (take256 hb m) (by omega)).mono fun e w' h => ⟨h.1, h.2.symm⟩))
    have D : Hid (∀ j, Calls Try.prog 31 #[.slice (some ⟨b, off + m, none⟩) (n - m) (c - m)] (w.drewN j) fun e w'' => e = .returned (.int .u32 (Crc.leTo (bs.drop m) 4 : Nat)) ∧ ∃ k, w'' = w.drewN k) := by
      unfold Hid
      rw [HE.out]
      exact fun j => Calls.quiet_of_same ((toldC (some ⟨b, off + m, none⟩) (c - m) (bs.drop m) (w.drewN j) (r2.below (below_drawn j)) (fun b h => hb b (List.mem_of_mem_drop h))).mono fun e w' h => ⟨h.1, h.2.symm⟩)
    have HU : Hid (Crc.c32 (bs.take m) ≠ Crc.leTo (bs.drop m) 4) := by
      have := HO.out
      unfold Crc.ok32 at this
      rw [← HN.out, ← hm] at this
      simp only [decide_eq_false_iff_not, not_and] at this
      exact this h2
    generalize Crc.c32 (bs.take m) = s at *
    generalize Crc.leTo (bs.drop m) 4 = t at *
    have t1 : ((s : Int) != (t : Int)) = true := by have := HU.out; simp; omega
    have t0 : decide ((m : Int) < 0) = false := by simp
    have e0 : (n : Int) - 4 = (m : Int) := by omega
    have f0 : (0 : Int) ≤ (m : Int) := by omega
    have f6 : (m : Int) < (n : Int) := by omega
    have f7 : (m : Int) ≤ (n : Int) := by omega
    have f8 : (m : Int) ≤ (c : Int) := by omega
    have f9 : (n : Int) ≤ (c : Int) := by omega
    clear hm h2
    go_enter Try.func11, Try.ntmps11
    go_wp2_with fail
    go_quiet (first | (go_at_call 14; exact C.out _) | (go_at_call 31; exact D.out _))
    go_wp2
    go_ret2
    exact ⟨rfl, _, rfl⟩
  · have t0 : decide ((n : Int) - 4 < 0) = true := by simp; omega
    have t1 : decide ((n : Int) < 4) = true := by simp; omega
    have t2 : decide (n < 4) = true := by simp; omega
    go_enter Try.func11, Try.ntmps11
    go_wp2_with fail
    go_quiet (fail)
    go_wp2
    go_ret2
    exact ⟨rfl, _, rfl⟩

set_option maxHeartbeats 400000 in
/-- crc32.Open, where the sum is right. -/
theorem openYes (A : Option Addr) (n c : Nat) (bs : List Nat) (w : World) (hr : Rd w w.heap.size A n (U8 bs)) (hb : ∀ b ∈ bs, b < 256) (hnc : n ≤ c) (hn : n ≤ 65536) (hc : c ≤ 9223372036854775807) (hok : Crc.ok32 bs = true) :
    Calls Try.prog 11 #[.slice A n c] w fun e w' => ∃ A' n' c', e = .returned (.tuple #[.slice A' n' c', .bool true]) ∧ Own w' w.heap.size 5 A' n' c' (U8 (bs.take (n - 4))) ∧ Below w.heap.size w w' := by
  obtain ⟨i0, hi0, hz0, hz1, hz2⟩ := info_parts info5
  have HN := Lib.hid hr.len8
  have h0 : 4 ≤ n ∧ Crc.c32 (bs.take (n - 4)) = Crc.leTo (bs.drop (n - 4)) 4 := by
    unfold Crc.ok32 at hok
    rw [← HN.out] at hok
    simpa using hok
  obtain ⟨h2, h3⟩ := h0
  obtain ⟨m, hm⟩ : ∃ m, m = n - 4 := ⟨_, rfl⟩
  rw [← hm] at h3 ⊢
  have r1 := hr.cut8 m (by omega)
  obtain ⟨b, off, rfl, hlt, g1⟩ := hr.cell8 m (by omega)
  have r2 := hr.from8 m (by omega)
  have HE := Lib.hid (show n - m = 4 by omega)
  rw [HE.out] at r2
  have C := Lib.hid (fun j => Calls.quiet_of_same ((sum32 (some ⟨b, off, none⟩) m c (bs.take m) (w.drewN j) (r1.below (below_drawn j)) (take256 hb m) (by omega)).mono fun e w' h => ⟨h.1, h.2.symm⟩))
  have D : Hid (∀ j, Calls Try.prog 31 #[.slice (some ⟨b, off + m, none⟩) (n - m) (c - m)] (w.drewN j) fun e w'' => e = .returned (.int .u32 (Crc.leTo (bs.drop m) 4 : Nat)) ∧ ∃ k, w'' = w.drewN k) := by
    unfold Hid
    rw [HE.out]
    exact fun j => Calls.quiet_of_same ((toldC (some ⟨b, off + m, none⟩) (c - m) (bs.drop m) (w.drewN j) (r2.below (below_drawn j)) (fun b h => hb b (List.mem_of_mem_drop h))).mono fun e w' h => ⟨h.1, h.2.symm⟩)
  rw [h3] at C
  generalize Crc.leTo (bs.drop m) 4 = t at *
  have t1 : ((t : Int) != (t : Int)) = false := by simp
  have t0 : decide ((m : Int) < 0) = false := by simp
  have e0 : (n : Int) - 4 = (m : Int) := by omega
  have f0 : (0 : Int) ≤ (m : Int) := by omega
  have f6 : (m : Int) < (n : Int) := by omega
  have f7 : (m : Int) ≤ (n : Int) := by omega
  have f8 : (m : Int) ≤ (c : Int) := by omega
  have f9 : (n : Int) ≤ (c : Int) := by omega
  clear hm h2 h3 hok
  go_enter Try.func11, Try.ntmps11
  go_wp2_with fail
  go_quiet (first | (go_at_call 14; exact C.out _) | (go_at_call 31; exact D.out _))
  rename_i nq _
  have be1 : Below w.heap.size w (w.drewN nq) := below_drawn nq
  have r3 := r1.below be1
  have hs1 := be1.size
  go_wp2_with (at_builtin; refine wpList_app _ rfl _ _ 22 rfl w.heap.size 5 i0 _ 1 Try.underlying22 hi0 hz0 hz1 hz2 rfl none 0 0 [] rfl (Own.nil _ _ _) _ _ _ _ (U8 (bs.take m)) rfl r3 (by simp) (U8_one _) (by omega) (by unfold maxLen; omega) hs1 ?_; intro A5 c5 w5 hown5 hgrow5)
  go_ret2
  refine ⟨A5, m, c5, rfl, hown5.to (Nat.zero_add m) (List.nil_append _), be1.grown hgrow5 hs1 (fun k h => by cases h)⟩
end Go.Proofs.Ytmafkcjlehlebaa
