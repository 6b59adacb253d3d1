/-
  Layer 4: told, Close, Open.
-/
import Derived.Test.YtcmoedhpedlalaaDoorRs
import Derived.Test.YtcmoedhpedlalaaDoorMz
import Derived.BigQuiet
import Derived.Deep.QuietTactic
namespace Go.Proofs.YtcmoedhpedlalaaDoor
open Go.RowKit
set_option maxRecDepth 100000
set_option linter.unusedVariables false
set_option linter.unusedSimpArgs false

theorem or_32 (a b i : Nat) (ha : a < 4294967296) (hb : b < 4294967296) (h1 : b % 2 ^ i = 0) (h2 : a < 2 ^ i) : bits BinOp.or IntKind.u32 (a : Int) (b : Int) = ((a + b : Nat) : Int) := by
  rw [u32_or_nat a b ha hb, Nat.or_comm, nat_join i b a h1 h2, Nat.add_comm]
set_option maxHeartbeats 400000 in
/-- crc32.told, of four bytes. -/
theorem toldC32 (A : Option Addr) (c : Nat) (bs : List Nat) (w : World) (hr : Rd w w.heap.size A 4 (U8 bs)) (hb : ∀ b ∈ bs, b < 256) :
    Calls Tryd.prog 131 #[.slice A 4 c] w fun e w' => e = .returned (.int .u32 (Crc.leTo bs 4 : Nat)) ∧ w = w' := by
  have HN := Lib.hid hr.len8
  have HL := Lib.hid (Crc.leTo_lt bs hb)
  go_enter Tryd.func131, Tryd.ntmps131
  go_wp2
  go_loop [3, 8] (fun s i => ∃ k r : Nat, k ≤ 4 ∧ i = .int .i64 k ∧ s = .int .u32 (r : Int) ∧ Hid (r = Crc.leTo bs k)) (fun _ i => 4 - (intOf i).toNat)
  case atStart => exact ⟨0, 0, Nat.zero_le _, rfl, rfl, rfl⟩
  case round =>
    obtain ⟨k, r, hk, rfl, rfl, HR⟩ := hrel
    by_cases hlt : k < 4
    · obtain ⟨b', off, rfl, hlt2, hcell⟩ := hr.cell8 k hlt
      have hx := Bm.byte_lt bs hb k
      have h1 := HL.out k
      have h2 := HL.out (k + 1)
      have HS : Hid (Crc.leTo bs (k + 1) = r + bs.getD k 0 * 2 ^ (8 * k)) := by unfold Hid; rw [HR.out]; rfl
      rw [HS.out] at h2
      rw [← HR.out] at h1
      have h3 : 2 ^ (8 * (k + 1)) ≤ 2 ^ 32 := Nat.pow_le_pow_right (by decide) (by omega)
      generalize bs.getD k 0 = x at *
      obtain ⟨m, hm⟩ : ∃ m, m = 8 * k := ⟨_, rfl⟩
      rw [← hm] at h1 h2 HS
      have e1 : (8 : Int) * (k : Int) = (m : Int) := by omega
      have hm2 : m ≤ 24 := by omega
      obtain ⟨y, hy⟩ : ∃ y, y = x * 2 ^ m := ⟨_, rfl⟩
      rw [← hy] at h2 HS
      have hy2 : y % 2 ^ m = 0 := by rw [hy]; exact Nat.mul_mod_left _ _
      have hy3 : y < 4294967296 := by omega
      have hr4 : r < 4294967296 := by omega
      have e2 : (x : Int) * 2 ^ m = (y : Int) := by rw [hy]; simp
      have e3 := or_32 r y m hr4 hy3 hy2 h1
      have e4 : IntKind.u32.wrap (y : Int) = (y : Int) := IntWalk.u32_in _ (by omega)
      have H1 := Lib.hid h1
      have H2 := Lib.hid h2
      clear hm hy hy2 h3 h1 h2
      go_wp2
      go_round
      case rel => exact ⟨k + 1, r + y, by omega, by go_num, by go_num, HS.out.symm⟩
      case measure => simp [intOf] <;> omega
    · go_wp2
      go_ret
      exact ⟨ret_int' (by rw [HR.out, show k = 4 by omega]), rfl⟩
set_option maxHeartbeats 400000 in
/-- crc32.Close. -/
theorem closeC (A : Option Addr) (n c : Nat) (bs : List Nat) (w : World) (hr : Rd w w.heap.size A n (U8 bs)) (hb : ∀ b ∈ bs, b < 256) (hnone : A = none → n = 0 ∧ c = 0) (hn : n ≤ 65536) :
    Calls Tryd.prog 66 #[.slice A n c] w (Made w (Crc.close32 bs)) := by
  obtain ⟨i0, hi0, hz0, hz1, hz2⟩ := info_parts info5
  have HN := Lib.hid hr.len8
  have C := Lib.hid (fun W (hB : Below w.heap.size w W) => sum32 A n c bs W ((hr.below hB).up hB.size) hb hn)
  have hl := Crc.c32_lt bs hb
  have HS : Hid (Crc.close32 bs = bs ++ Crc.le4 (Crc.c32 bs)) := rfl
  generalize Crc.c32 bs = s at *
  go_enter Tryd.func66, Tryd.ntmps66
  go_wp2_with (first
    | (at_make; refine wpList_make_own _ rfl _ _ 22 rfl w.heap.size 5 i0 (.int .u8 0) 1 Tryd.underlying22 hi0 hz0 hz1 .i64 .i64 _ (n + 4) rfl rfl (by first | rfl | omega) (by rw [hz2]; omega) (by unfold maxLen; omega) (Nat.le_refl _) ?_; intro w0 hown0 hgrow0; have hbel0 : Below w.heap.size w w0 := (Below.refl _ _).grown hgrow0 (Nat.le_refl _) (fun k h => by cases h))
    | (at_builtin; refine wpList_app _ rfl _ _ 22 rfl w.heap.size 5 i0 _ 1 Tryd.underlying22 hi0 hz0 hz1 hz2 rfl _ 0 (n + 4) [] rfl ⟨hown0⟩ w.heap.size A n c (U8 bs) rfl (hr.below hbel0) hnone (U8_one bs) (by omega) (by unfold maxLen; omega) hbel0.size ?_; intro A5 c5 w5 hown5 hgrow5; have own5 := hown5.to (Nat.zero_add n) (List.nil_append (U8 bs)); have hbel5 : Below w.heap.size w w5 := hbel0.grown hgrow5 hbel0.size (fun j hj => by simp [Value.ownBlock] at hj; omega))
    | (go_at_call 91; refine (C.out _ hbel5).mono ?_; rintro e w' ⟨rfl, rfl⟩))
  clear hown5 hgrow5 hown0 hgrow0 hbel0 hi0 hz0 hz1 hz2 C
  go_loopw [3, 15] (fun l i wr => ∃ k : Nat, k ≤ 4 ∧ i = .int .i64 k ∧ ∃ A6 c6, l = .slice A6 (n + k) c6 ∧ Own wr w.heap.size 5 A6 (n + k) c6 (U8 (bs ++ (Crc.le4 s).take k)) ∧ Below w.heap.size w wr) (fun _ i _ => 4 - (intOf i).toNat)
  case atStart => exact ⟨0, Nat.zero_le _, rfl, A5, c5, rfl, by simpa using own5, hbel5⟩
  case round =>
    clear own5 hbel5
    obtain ⟨k, hk, rfl, A6, c6, rfl, own, bel⟩ := hrel
    have hsz := bel.size
    by_cases hlt : k < 4
    · have HT := Lib.hid (Crc.le4_take s k hlt)
      obtain ⟨m, hm⟩ : ∃ m, m = 8 * k := ⟨_, rfl⟩
      rw [← hm] at HT
      have e1 : (8 : Int) * (k : Int) = (m : Int) := by omega
      have hm2 : m ≤ 24 := by omega
      obtain ⟨y, hy⟩ : ∃ y, y = s / 2 ^ m := ⟨_, rfl⟩
      rw [← hy] at HT
      have hy2 : y ≤ s := by rw [hy]; exact Nat.div_le_self _ _
      have e2 : (s : Int) / 2 ^ m = (y : Int) := by rw [hy]; simp
      obtain ⟨x, hx⟩ : ∃ x, x = y % 256 := ⟨_, rfl⟩
      rw [← hx] at HT
      have e3 : (y : Int) % 256 = (x : Int) := by omega
      have hx2 : x < 256 := by omega
      have e4 : IntKind.u8.wrap (y : Int) = (x : Int) := by rw [IntKind.wrap_u8]; exact e3
      clear hm hy hx
      go_wp2_with (at_builtin; refine app8 _ rfl _ _ rfl w.heap.size _ _ _ _ x _ (by first | rfl | omega) rfl own rfl (by omega) hsz ?_; intro A3 c3 w3 hown3 hgrow3)
      go_roundw
      case rel =>
        refine ⟨k + 1, by omega, by go_num, A3, c3, rfl, ?_, bel.grown hgrow3 hsz (fun j hj => (own.block j hj).1)⟩
        rw [HT.out, ← List.append_assoc]; exact hown3
      case measure => simp [intOf] <;> omega
    · go_wp2
      go_ret
      refine ⟨A6, n + k, c6, rfl, ?_, bel⟩
      rw [HS.out]
      refine own.to rfl ?_
      rw [show k = 4 by omega]; rfl
theorem Rd.from8 {w : World} {B : Nat} {b off n : Nat} {bs : List Nat} (h : Rd w B (some ⟨b, off, none⟩) n (U8 bs)) (k : Nat) (hk : k ≤ n) : Rd w B (some ⟨b, off + k, none⟩) (n - k) (U8 (bs.drop k)) := by
  have hl := h.len8
  refine ⟨?_, fun h0 => ?_⟩
  · rw [U8_length, List.length_drop]; omega
  · obtain ⟨b', off', e, hlt, hc⟩ := h.at_ (by omega)
    injection e with e
    injection e with e1 e2
    subst e1 e2
    refine ⟨b, off + k, rfl, hlt, fun i u hu => ?_⟩
    have := hc (k + i) u (by unfold U8 at *; rw [List.map_drop, List.getElem?_drop] at hu; exact hu)
    rw [← Nat.add_assoc] at this
    exact this
set_option maxHeartbeats 400000 in
/-- crc32.Open, where the sum is none or isn't right. -/
theorem openNo (A : Option Addr) (n c : Nat) (bs : List Nat) (w : World) (hr : Rd w w.heap.size A n (U8 bs)) (hb : ∀ b ∈ bs, b < 256) (hnc : n ≤ c) (hn : n ≤ 65536) (hc : c ≤ 9223372036854775807) (hok : Crc.ok32 bs = false) :
    Calls Tryd.prog 116 #[.slice A n c] w fun e w' => e = .returned (.tuple #[.slice none 0 0, .bool false]) ∧ ∃ m, w' = w.drewN m := by
  have HN := Lib.hid hr.len8
  have HO := Lib.hid hok
  clear hok
  by_cases h2 : 4 ≤ n
  · obtain ⟨m, hm⟩ : ∃ m, m = n - 4 := ⟨_, rfl⟩
    have r1 := hr.cut8 m (by omega)
    obtain ⟨b, off, rfl, hlt, g1⟩ := hr.cell8 m (by omega)
    have r2 := hr.from8 m (by omega)
    have HE := Lib.hid (show n - m = 4 by omega)
    rw [HE.out] at r2
    have C := Lib.hid (fun j => Calls.quiet_of_same ((sum32 (some ⟨b, off, none⟩) m c (bs.take m) (w.drewN j) (r1.below (below_drawn j)) (take256 hb m) (by omega)).mono fun e w' h => ⟨h.1, h.2.symm⟩))
    have D : Hid (∀ j, Calls Tryd.prog 131 #[.slice (some ⟨b, off + m, none⟩) (n - m) (c - m)] (w.drewN j) fun e w'' => e = .returned (.int .u32 (Crc.leTo (bs.drop m) 4 : Nat)) ∧ ∃ k, w'' = w.drewN k) := by
      unfold Hid
      rw [HE.out]
      exact fun j => Calls.quiet_of_same ((toldC32 (some ⟨b, off + m, none⟩) (c - m) (bs.drop m) (w.drewN j) (r2.below (below_drawn j)) (fun b h => hb b (List.mem_of_mem_drop h))).mono fun e w' h => ⟨h.1, h.2.symm⟩)
    have HU : Hid (Crc.c32 (bs.take m) ≠ Crc.leTo (bs.drop m) 4) := by
      have := HO.out
      unfold Crc.ok32 at this
      rw [← HN.out, ← hm] at this
      simp only [decide_eq_false_iff_not, not_and] at this
      exact this h2
    generalize Crc.c32 (bs.take m) = s at *
    generalize Crc.leTo (bs.drop m) 4 = t at *
    have t1 : ((s : Int) != (t : Int)) = true := by have := HU.out; simp; omega
    have t0 : decide ((m : Int) < 0) = false := by simp
    have e0 : (n : Int) - 4 = (m : Int) := by omega
    have f0 : (0 : Int) ≤ (m : Int) := by omega
    have f6 : (m : Int) < (n : Int) := by omega
    have f7 : (m : Int) ≤ (n : Int) := by omega
    have f8 : (m : Int) ≤ (c : Int) := by omega
    have f9 : (n : Int) ≤ (c : Int) := by omega
    clear hm h2
    go_enter Tryd.func116, Tryd.ntmps116
    go_wp2_with fail
    go_quiet (first | (go_at_call 91; exact C.out _) | (go_at_call 131; exact D.out _))
    go_wp2
    go_ret2
    exact ⟨rfl, _, rfl⟩
  · have t0 : decide ((n : Int) - 4 < 0) = true := by simp; omega
    have t1 : decide ((n : Int) < 4) = true := by simp; omega
    have t2 : decide (n < 4) = true := by simp; omega
    go_enter Tryd.func116, Tryd.ntmps116
    go_wp2_with fail
    go_quiet (fail)
    go_wp2
    go_ret2
    exact ⟨rfl, _, rfl⟩
set_option maxHeartbeats 400000 in
/-- crc32.Open, where the sum is right. -/
theorem openYes (A : Option Addr) (n c : Nat) (bs : List Nat) (w : World) (hr : Rd w w.heap.size A n (U8 bs)) (hb : ∀ b ∈ bs, b < 256) (hnc : n ≤ c) (hn : n ≤ 65536) (hc : c ≤ 9223372036854775807) (hok : Crc.ok32 bs = true) :
    Calls Tryd.prog 116 #[.slice A n c] w fun e w' => ∃ A' n' c', e = .returned (.tuple #[.slice A' n' c', .bool true]) ∧ Own w' w.heap.size 5 A' n' c' (U8 (bs.take (n - 4))) ∧ Below w.heap.size w w' := by
  obtain ⟨i0, hi0, hz0, hz1, hz2⟩ := info_parts info5
  have HN := Lib.hid hr.len8
  have h0 : 4 ≤ n ∧ Crc.c32 (bs.take (n - 4)) = Crc.leTo (bs.drop (n - 4)) 4 := by
    unfold Crc.ok32 at hok
    rw [← HN.out] at hok
    simpa using hok
  obtain ⟨h2, h3⟩ := h0
  obtain ⟨m, hm⟩ : ∃ m, m = n - 4 := ⟨_, rfl⟩
  rw [← hm] at h3 ⊢
  have r1 := hr.cut8 m (by omega)
  obtain ⟨b, off, rfl, hlt, g1⟩ := hr.cell8 m (by omega)
  have r2 := hr.from8 m (by omega)
  have HE := Lib.hid (show n - m = 4 by omega)
  rw [HE.out] at r2
  have C := Lib.hid (fun j => Calls.quiet_of_same ((sum32 (some ⟨b, off, none⟩) m c (bs.take m) (w.drewN j) (r1.below (below_drawn j)) (take256 hb m) (by omega)).mono fun e w' h => ⟨h.1, h.2.symm⟩))
  have D : Hid (∀ j, Calls Tryd.prog 131 #[.slice (some ⟨b, off + m, none⟩) (n - m) (c - m)] (w.drewN j) fun e w'' => e = .returned (.int .u32 (Crc.leTo (bs.drop m) 4 : Nat)) ∧ ∃ k, w'' = w.drewN k) := by
    unfold Hid
    rw [HE.out]
    exact fun j => Calls.quiet_of_same ((toldC32 (some ⟨b, off + m, none⟩) (c - m) (bs.drop m) (w.drewN j) (r2.below (below_drawn j)) (fun b h => hb b (List.mem_of_mem_drop h))).mono fun e w' h => ⟨h.1, h.2.symm⟩)
  rw [h3] at C
  generalize Crc.leTo (bs.drop m) 4 = t at *
  have t1 : ((t : Int) != (t : Int)) = false := by simp
  have t0 : decide ((m : Int) < 0) = false := by simp
  have e0 : (n : Int) - 4 = (m : Int) := by omega
  have f0 : (0 : Int) ≤ (m : Int) := by omega
  have f6 : (m : Int) < (n : Int) := by omega
  have f7 : (m : Int) ≤ (n : Int) := by omega
  have f8 : (m : Int) ≤ (c : Int) := by omega
  have f9 : (n : Int) ≤ (c : Int) := by omega
  clear hm h2 h3 hok
  go_enter Tryd.func116, Tryd.ntmps116
  go_wp2_with fail
  go_quiet (first | (go_at_call 91; exact C.out _) | (go_at_call 131; exact D.out _))
  rename_i nq _
  have be1 : Below w.heap.size w (w.drewN nq) := below_drawn nq
  have r3 := r1.below be1
  have hs1 := be1.size
  go_wp2_with (at_builtin; refine wpList_app _ rfl _ _ 22 rfl w.heap.size 5 i0 _ 1 Tryd.underlying22 hi0 hz0 hz1 hz2 rfl none 0 0 [] rfl (Own.nil _ _ _) _ _ _ _ (U8 (bs.take m)) rfl r3 (by simp) (U8_one _) (by omega) (by unfold maxLen; omega) hs1 ?_; intro A5 c5 w5 hown5 hgrow5)
  go_ret2
  refine ⟨A5, m, c5, rfl, hown5.to (Nat.zero_add m) (List.nil_append _), be1.grown hgrow5 hs1 (fun k h => by cases h)⟩
end Go.Proofs.YtcmoedhpedlalaaDoor
