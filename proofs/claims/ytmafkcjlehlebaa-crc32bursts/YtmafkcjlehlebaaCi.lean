/-
  The walk of Crc32Bursts.
-/
import Derived.Test.YtmafkcjlehlebaaCh
namespace Go.Proofs.Ytmafkcjlehlebaa
open Go.RowKit
set_option linter.unusedVariables false

theorem wrap_u64 (a : Int) : ∃ u : Nat, u < 18446744073709551616 ∧ IntKind.u64.wrap a = (u : Int) := by
  have h : IntKind.u64.wrap a = a % 18446744073709551616 := IntKind.wrap_u64 a
  refine ⟨(a % 18446744073709551616).toNat, by omega, ?_⟩
  rw [h]; omega

theorem Rd.conv {w : World} {A : Option Addr} {n c : Nat} {bs : List Nat} (h : Rd w w.heap.size A n (U8 bs)) (hnone : A = none → n = 0) (W : World) (hb : Below w.heap.size w W) :
    (convert 22 9 (.slice A n c)).run Try.prog W = .ok (.string (str bs)) W := by
  have hl := h.len8
  cases A with
  | none =>
    have h0 := hnone rfl
    subst h0
    have hbs : bs = [] := List.eq_nil_of_length_eq_zero hl.symm
    subst hbs
    exact run_convert_bytes_nil W 22 5 Try.underlying22 Try.underlying5 0 c 9 Try.underlying9
  | some x =>
    by_cases hn : 0 < n
    · obtain ⟨b, off, e, hlt, hc⟩ := h.at_ hn
      injection e with e
      subst e
      refine run_convert_bytes_arg W 22 5 Try.underlying22 Try.underlying5 b off n c _ (by simp [hl]) (fun i hi => ?_) 9 Try.underlying9
      rw [hb.cell (p := ⟨b, off + i, none⟩) hlt, hc i _ (U8_get bs i (by omega))]
      simp [List.getD, show i < bs.length by omega]
    · obtain rfl : n = 0 := by omega
      have hbs : bs = [] := List.eq_nil_of_length_eq_zero hl.symm
      subst hbs
      exact run_convert_bytes_back (P := Try.prog) W 22 9 5 x c [] Try.underlying22 Try.underlying5 Try.underlying9 (fun j hj => absurd hj (by simp))

set_option maxHeartbeats 1000000 in
/-- Crc32Bursts. -/
theorem walk4 (A : Option Addr) (n c : Nat) (xs : List Nat) (a : Int) (t : Nat) (w : World) (h1 : Rd w w.heap.size A n (U8 xs)) (b1 : ∀ b ∈ xs, b < 256) (hnc : n ≤ c) (hc : c ≤ 9223372036854775807) (hnone : A = none → n = 0 ∧ c = 0)
    (ht : t < 4294967296) :
    Calls Try.prog 4 #[.slice A n c, .int .i64 a, .int .u32 (t : Int)] w fun e w' => e = .returned (.bool true) ∧ Below w.heap.size w w' := by
  obtain ⟨k, hk, hk2, hk3⟩ := min_if n 100
  obtain ⟨hm1, hm2⟩ := hk3 100 rfl
  clear hk3
  have r1 := h1.cut8 k hk2
  have bk := take256 b1 k
  generalize xs.take k = ls at *
  have hn2 : A = none → k = 0 ∧ c = 0 := fun h => ⟨by have := (hnone h).1; omega, (hnone h).2⟩
  have BK := Lib.hid bk
  have CS := Lib.hid (closeC A k c ls w r1 bk hn2 (by omega))
  have CV := Lib.hid (r1.conv (c := c) (fun h => (hn2 h).1))
  have LK := Lib.hid r1.len8
  clear h1 b1 hnone bk hn2 r1
  have hkc : k ≤ c := by omega
  go_enter Try.func4, Try.ntmps4
  go_wp2_with fail
  refine CS.out.mono ?_
  rintro e w6 ⟨A6, n6, c6, rfl, ow6, be6⟩
  have l6 : n6 = k + 4 := by rw [ow6.rd.len8, Crc.close32_length, ← LK.out]
  have B6 := Lib.hid (Crc.close32_lt ls BK.out)
  have Z6 := Lib.hid (Crc.close32_key ls BK.out)
  have T6 : Hid ((Crc.close32 ls).take (n6 - 4) = ls) := by
    have := Crc.close32_take ls
    rw [← ow6.rd.len8] at this; exact this
  have bd := ow6.bounds
  generalize Crc.close32 ls = cs at *
  have L6 := Lib.hid l6
  have t6 : ((n6 : Int) != (k : Int) + 4) = false := by simp; omega
  have hn6 : 4 ≤ n6 := by omega
  have hn6' : n6 ≤ 104 := by omega
  have hc6 : c6 ≤ 9223372036854775807 := by have := bd.2; unfold maxLen at this; omega
  have HO : Hid (Crc.ok32 cs = true) := by
    unfold Hid
    rw [Crc.ok32_eq cs B6.out (by rw [← ow6.rd.len8]; exact hn6), Z6.out]; simp
  have O6 := Lib.hid (openYes A6 n6 c6 cs w6 (ow6.rdOf (Below.refl _ _)) B6.out ow6.bounds.1 (by omega) hc6 HO.out)
  rw [T6.out] at O6
  clear l6 bd CS
  go_wp2_with fail
  refine O6.out.mono ?_
  rintro e w7 ⟨A7, n7, c7, rfl, ow7, be7⟩
  have ow67 := ow6.below be7 (Nat.le_refl _)
  go_wp2_with fail
  refine (sums32 _).mono ?_
  rintro e w8 ⟨rfl, be8⟩
  have bel8 := Below.then_ (Below.then_ be6 be7) be8
  have ow8 := ow67.below be8 (Nat.le_refl _)
  have cv1 := CV.out w8 bel8
  have cv2 := ow7.conv w8 be8
  generalize str ls = sl at *
  have t9 : (sl.toList != sl.toList) = false := by simp
  clear O6 HO ow6 ow67 ow7 be6 be7 be8 CV T6
  by_cases h0 : t = 0
  · subst h0
    go_wp2
    go_ret
    exact ⟨rfl, bel8⟩
  · have t0 : ((t : Int) == 0) = false := by simp; omega
    obtain ⟨u, hu, hu2⟩ := wrap_u64 a
    obtain ⟨M, hM⟩ : ∃ M, M = 8 * n6 - 31 := ⟨_, rfl⟩
    have hM2 : (8 : Int) * (n6 : Int) - 31 = (M : Int) := by omega
    have hM0 : 0 < M := by omega
    obtain ⟨p, hp, hp2⟩ : ∃ p : Nat, p < M ∧ (u : Int) % (M : Int) = (p : Int) := ⟨u % M, Nat.mod_lt _ hM0, by omega⟩
    have hM3 : M ≤ 8 * n6 - 31 := by omega
    clear hM
    go_wp2
    clear hu2 hM2 hp2 t0 t6 hm1 hm2 cv1 cv2 t9
    go_loopw [11] (fun i wr => ∃ j : Nat, j ≤ 32 ∧ i = .int .i64 j ∧ ∃ ys, Own wr w.heap.size 5 A6 n6 c6 (U8 ys) ∧ Hid (∀ b ∈ ys, b < 256) ∧ Hid (Crc.r32 ys = Crc.key ^^^ Crc.it Crc.s32 (8 * n6 - p) (Crc.low32 t j)) ∧ Below w.heap.size w wr) (fun i _ => 32 - (intOf i).toNat)
    case atStart => exact ⟨0, by omega, rfl, cs, ow8, B6, by unfold Hid; rw [Z6.out]; show _ = _ ^^^ Crc.it Crc.s32 (8 * n6 - p) 0; rw [(Crc.s32_lin.it _).zero, Nat.xor_zero], bel8⟩
    case round =>
      rename_i wr _
      clear ow8 bel8 B6 Z6
      obtain ⟨j, hj, rfl, ys, own, BY, RY, bel⟩ := hrel
      have LY := Lib.hid own.rd.len8
      by_cases hlt : j < 32
      · by_cases hb : t / 2 ^ j % 2 = 1
        · have T : (bits BinOp.and IntKind.u32 ((t : Int) / 2 ^ j) 1 == 1) = true := by rw [bit_u32 t j ht, hb]; rfl
          obtain ⟨s, hs⟩ : ∃ s, s = p + j := ⟨_, rfl⟩
          obtain ⟨q, r, hr8, hqr⟩ : ∃ q r, r ≤ 7 ∧ 8 * q + r = s := ⟨s / 8, s % 8, by omega, by omega⟩
          have hq : q < n6 := by omega
          have HF := Lib.hid (Crc.flip32 ys q r p j hr8 (by omega) (by omega) (by rw [← LY.out]; omega))
          have HT : Hid (Crc.low32 t (j + 1) = Crc.low32 t j ^^^ 2 ^ j) := by
            unfold Hid; show Crc.low32 t j ^^^ (t / 2 ^ j % 2) * 2 ^ j = _; rw [hb, Nat.one_mul]
          obtain ⟨g, rfl, hg1, hg2, hgc, hgf, hgs⟩ := own.slot q hq
          rw [U8_get _ q (by rw [← LY.out]; exact hq)] at hgc
          have hy := Bm.byte_lt ys BY.out q
          obtain ⟨d, hd⟩ : ∃ d, d = 2 ^ r := ⟨_, rfl⟩
          have hd2 : d < 256 := by
            have : 2 ^ r ≤ 2 ^ 7 := Nat.pow_le_pow_right (by decide) (by omega)
            omega
          have e3 : (2 : Int) ^ r = (d : Int) := by rw [hd]; simp
          have e5 : IntKind.u8.wrap (d : Int) = (d : Int) := IntWalk.u8_in _ (by omega)
          rw [← hd] at HF
          generalize ys.getD q 0 = y at *
          have e4 := u8_xor_nat y d hy hd2
          have hyd : y ^^^ d < 256 := Nat.xor_lt_two_pow (n := 8) hy hd2
          have HG := Lib.hid (hgs (.int .u8 ((y ^^^ d : Nat) : Int)))
          have e1 : (s : Int) / 8 = (q : Int) := by omega
          have e2 : (s : Int) % 8 = (r : Int) := by omega
          have e0 : (p : Int) + (j : Int) = (s : Int) := by omega
          have hs2 : s ≤ 1000 := by omega
          have hq0 : (0 : Int) ≤ (q : Int) := by omega
          have hq1 : (q : Int) < (n6 : Int) := by omega
          have e6 : IntKind.i64.wrap (s : Int) = (s : Int) := IntWalk.i64_in _ (by omega)
          clear hgs hb hs hqr hd
          go_wp2_with fail
          go_region
          go_wp2
          go_roundw
          case rel =>
            refine ⟨j + 1, by omega, by go_num, ys.set q (y ^^^ d), ?_, ?_, ?_, (bel.setCell hg1 _).drew⟩
            · rw [← U8_set]
              exact ⟨HG.out.row.drew⟩
            · intro b hbm
              rcases List.mem_or_eq_of_mem_set hbm with h | rfl
              · exact BY.out b h
              · exact hyd
            · unfold Hid
              rw [HF.out, RY.out, ← LY.out, HT.out, (Crc.s32_lin.it _), Nat.xor_assoc]
          case measure => simp [intOf] <;> omega
        · have T : (bits BinOp.and IntKind.u32 ((t : Int) / 2 ^ j) 1 == 1) = false := by rw [bit_u32 t j ht, show t / 2 ^ j % 2 = 0 by omega]; rfl
          have HT : Hid (Crc.low32 t (j + 1) = Crc.low32 t j) := by
            unfold Hid; show Crc.low32 t j ^^^ (t / 2 ^ j % 2) * 2 ^ j = _; rw [show t / 2 ^ j % 2 = 0 by omega]; simp
          clear hb
          go_wp2
          go_roundw
          case rel => exact ⟨j + 1, by omega, by go_num, ys, own, BY, by unfold Hid; rw [HT.out]; exact RY.out, bel⟩
          case measure => simp [intOf] <;> omega
      · have HO : Hid (Crc.ok32 ys = false) := by
          unfold Hid
          rw [Crc.ok32_eq ys BY.out (by rw [← LY.out]; exact hn6), RY.out, show j = 32 by omega, Crc.low32_eq, Nat.mod_eq_of_lt ht]
          simp only [decide_eq_false_iff_not]
          intro h
          apply h0
          refine Crc.it32_zero (8 * n6 - p) t ht ?_
          have h2 : Crc.key ^^^ (Crc.key ^^^ Crc.it Crc.s32 (8 * n6 - p) t) = 0 := by rw [h, Nat.xor_self]
          rwa [← Nat.xor_assoc, Nat.xor_self, Nat.zero_xor] at h2
        have R := Lib.hid (openNo A6 n6 c6 ys wr (own.rdOf (Below.refl _ _)) BY.out own.bounds.1 (by omega) hc6 HO.out)
        go_wp2_with (go_at_call 11; refine R.out.mono ?_; rintro e w9 ⟨rfl, q9, rfl⟩)
        go_ret
        exact ⟨rfl, Below.then_ bel (below_drawn q9)⟩
end Go.Proofs.Ytmafkcjlehlebaa
