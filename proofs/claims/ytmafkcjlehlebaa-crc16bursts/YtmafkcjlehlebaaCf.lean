/-
  The walk of Crc16Bursts.
-/
import Derived.Test.YtmafkcjlehlebaaCe
namespace Go.Proofs.Ytmafkcjlehlebaa
open Go.RowKit
set_option linter.unusedVariables false

theorem wrap_u64 (a : Int) : ∃ u : Nat, u < 18446744073709551616 ∧ IntKind.u64.wrap a = (u : Int) := by
  have h : IntKind.u64.wrap a = a % 18446744073709551616 := IntKind.wrap_u64 a
  refine ⟨(a % 18446744073709551616).toNat, by omega, ?_⟩
  rw [h]; omega
theorem bit_u16 (s k : Nat) (hs : s < 65536) : bits BinOp.and IntKind.u16 ((s : Int) / 2 ^ k) 1 = ((s / 2 ^ k % 2 : Nat) : Int) := by
  have e : ((s : Int) / 2 ^ k) = ((s / 2 ^ k : Nat) : Int) := by simp
  have hle : s / 2 ^ k ≤ s := Nat.div_le_self _ _
  rw [e, show (1 : Int) = ((1 : Nat) : Int) from rfl, u16_and_nat _ _ (by omega) (by omega), nat_mask1]

set_option maxHeartbeats 1000000 in
/-- Crc16Bursts. -/
theorem walk7 (A : Option Addr) (n c : Nat) (xs : List Nat) (a : Int) (t : Nat) (w : World) (h1 : Rd w w.heap.size A n (U8 xs)) (b1 : ∀ b ∈ xs, b < 256) (hnc : n ≤ c) (hc : c ≤ 9223372036854775807) (hnone : A = none → n = 0 ∧ c = 0)
    (ht : t < 65536) :
    Calls Try.prog 7 #[.slice A n c, .int .i64 a, .int .u16 (t : Int)] w fun e w' => e = .returned (.bool true) ∧ Below w.heap.size w w' := by
  obtain ⟨k, hk, hk2, hk3⟩ := min_if n 100
  obtain ⟨hm1, hm2⟩ := hk3 100 rfl
  clear hk3
  have r1 := h1.cut8 k hk2
  have bk := take256 b1 k
  generalize xs.take k = ls at *
  have hn2 : A = none → k = 0 ∧ c = 0 := fun h => ⟨by have := (hnone h).1; omega, (hnone h).2⟩
  have BK := Lib.hid bk
  have CS := Lib.hid (sealC16 A k c ls w r1 bk hn2 (by omega))
  have LK := Lib.hid r1.len8
  clear h1 b1 hnone bk hn2 r1
  have hkc : k ≤ c := by omega
  go_enter Try.func7, Try.ntmps7
  go_wp2_with fail
  refine CS.out.mono ?_
  rintro e w6 ⟨A6, n6, c6, rfl, ow6, be6⟩
  have l6 : n6 = k + 2 := by rw [ow6.rd.len8, Crc.seal16_length, ← LK.out]
  have B6 := Lib.hid (Crc.seal16_lt ls BK.out)
  have Z6 := Lib.hid (Crc.seal16_zero ls BK.out)
  have bd := ow6.bounds
  generalize Crc.seal16 ls = cs at *
  have L6 := Lib.hid l6
  have t6 : ((n6 : Int) != (k : Int) + 2) = false := by simp; omega
  have hn6 : 2 ≤ n6 := by omega
  have hn6' : n6 ≤ 102 := by omega
  have hc6 : c6 ≤ 9223372036854775807 := by have := bd.2; unfold maxLen at this; omega
  clear l6 bd CS
  go_wp2_with fail
  refine (sums16 _).mono ?_
  rintro e w7 ⟨rfl, be7⟩
  have ow7 := ow6.below be7 (Nat.le_refl _)
  have R7 := Lib.hid (rightC16 A6 n6 c6 cs w7 (ow6.rdOf be7) B6.out ow6.bounds.1 (by omega) hc6)
  have HO : Hid (Crc.ok16 cs = true) := by
    unfold Hid
    rw [Crc.ok16_eq cs B6.out (by rw [← ow6.rd.len8]; exact hn6), Z6.out]; rfl
  rw [HO.out] at R7
  go_wp2_with fail
  refine R7.out.mono ?_
  rintro e w8 ⟨rfl, q8, rfl⟩
  have bel8 := Below.then_ (Below.then_ be6 be7) (below_drawn (w := w7) (B := w7.heap.size) q8)
  have ow8 : Own (w7.drewN q8) w.heap.size 5 A6 n6 c6 (U8 cs) := ow7.below (below_drawn q8) (Nat.le_refl _)
  clear R7 HO ow6 ow7 be6 be7
  generalize w7.drewN q8 = w8 at *
  by_cases h0 : t = 0
  · subst h0
    go_wp2
    go_ret
    exact ⟨rfl, bel8⟩
  · have t0 : ((t : Int) == 0) = false := by simp; omega
    obtain ⟨u, hu, hu2⟩ := wrap_u64 a
    obtain ⟨M, hM⟩ : ∃ M, M = 8 * n6 - 15 := ⟨_, rfl⟩
    have hM2 : (8 : Int) * (n6 : Int) - 15 = (M : Int) := by omega
    have hM0 : 0 < M := by omega
    obtain ⟨p, hp, hp2⟩ : ∃ p : Nat, p < M ∧ (u : Int) % (M : Int) = (p : Int) := ⟨u % M, Nat.mod_lt _ hM0, by omega⟩
    have hM3 : M ≤ 8 * n6 - 15 := by omega
    clear hM
    go_wp2
    clear hu2 hM2 hp2 t0 t6 hm1 hm2
    go_loopw [9] (fun i wr => ∃ j : Nat, j ≤ 16 ∧ i = .int .i64 j ∧ ∃ ys, Own wr w.heap.size 5 A6 n6 c6 (U8 ys) ∧ Hid (∀ b ∈ ys, b < 256) ∧ Hid (Crc.r16 ys = Crc.it Crc.s16 (8 * n6 - p) (Crc.top16 t j)) ∧ Below w.heap.size w wr) (fun i _ => 16 - (intOf i).toNat)
    case atStart => exact ⟨0, by omega, rfl, cs, ow8, B6, by unfold Hid; rw [Z6.out]; exact (Crc.s16_lin.it _).zero.symm, bel8⟩
    case round =>
      rename_i wr _
      clear ow8 bel8 B6 Z6
      obtain ⟨j, hj, rfl, ys, own, BY, RY, bel⟩ := hrel
      have LY := Lib.hid own.rd.len8
      by_cases hlt : j < 16
      · by_cases hb : t / 2 ^ j % 2 = 1
        · have T : (bits BinOp.and IntKind.u16 ((t : Int) / 2 ^ j) 1 == 1) = true := by rw [bit_u16 t j ht, hb]; rfl
          obtain ⟨s, hs⟩ : ∃ s, s = p + j := ⟨_, rfl⟩
          obtain ⟨q, r, hr8, hqr⟩ : ∃ q r, r ≤ 7 ∧ 8 * q + r = s := ⟨s / 8, s % 8, by omega, by omega⟩
          have hq : q < n6 := by omega
          have HF := Lib.hid (Crc.flip16 ys q r p j hr8 (by omega) (by omega) (by rw [← LY.out]; omega))
          have HT : Hid (Crc.top16 t (j + 1) = Crc.top16 t j ^^^ 2 ^ (15 - j)) := by
            unfold Hid; show Crc.top16 t j ^^^ (t / 2 ^ j % 2) * 2 ^ (15 - j) = _; rw [hb, Nat.one_mul]
          obtain ⟨g, rfl, hg1, hg2, hgc, hgf, hgs⟩ := own.slot q hq
          rw [U8_get _ q (by rw [← LY.out]; exact hq)] at hgc
          have hy := Bm.byte_lt ys BY.out q
          obtain ⟨d, hd⟩ : ∃ d, d = 2 ^ (7 - r) := ⟨_, rfl⟩
          have hd2 : d < 256 := by
            have : 2 ^ (7 - r) ≤ 2 ^ 7 := Nat.pow_le_pow_right (by decide) (by omega)
            omega
          have e3 : (128 : Int) / 2 ^ r = (d : Int) := by
            have h1 : ((128 : Nat) / 2 ^ r) = d := by
              rw [hd, show (128 : Nat) = 2 ^ 7 from rfl, Nat.pow_div hr8 (by decide)]
            rw [← h1]; simp
          rw [← hd] at HF
          generalize ys.getD q 0 = y at *
          have e4 := u8_xor_nat y d hy hd2
          have hyd : y ^^^ d < 256 := Nat.xor_lt_two_pow (n := 8) hy hd2
          have HG := Lib.hid (hgs (.int .u8 ((y ^^^ d : Nat) : Int)))
          have e1 : (s : Int) / 8 = (q : Int) := by omega
          have e2 : (s : Int) % 8 = (r : Int) := by omega
          have e0 : (p : Int) + (j : Int) = (s : Int) := by omega
          have hs2 : s ≤ 1000 := by omega
          have hq0 : (0 : Int) ≤ (q : Int) := by omega
          have hq1 : (q : Int) < (n6 : Int) := by omega
          have e6 : IntKind.i64.wrap (s : Int) = (s : Int) := IntWalk.i64_in _ (by omega)
          clear hgs hb hs hqr hd
          go_wp2_with fail
          go_region
          go_wp2
          go_roundw
          case rel =>
            refine ⟨j + 1, by omega, by go_num, ys.set q (y ^^^ d), ?_, ?_, ?_, (bel.setCell hg1 _).drew⟩
            · rw [← U8_set]
              exact ⟨HG.out.row.drew⟩
            · intro b hbm
              rcases List.mem_or_eq_of_mem_set hbm with h | rfl
              · exact BY.out b h
              · exact hyd
            · unfold Hid
              rw [HF.out, RY.out, ← LY.out, HT.out]
              exact ((Crc.s16_lin.it _) _ _).symm
          case measure => simp [intOf] <;> omega
        · have T : (bits BinOp.and IntKind.u16 ((t : Int) / 2 ^ j) 1 == 1) = false := by rw [bit_u16 t j ht, show t / 2 ^ j % 2 = 0 by omega]; rfl
          have HT : Hid (Crc.top16 t (j + 1) = Crc.top16 t j) := by
            unfold Hid; show Crc.top16 t j ^^^ (t / 2 ^ j % 2) * 2 ^ (15 - j) = _; rw [show t / 2 ^ j % 2 = 0 by omega]; simp
          clear hb
          go_wp2
          go_roundw
          case rel => exact ⟨j + 1, by omega, by go_num, ys, own, BY, by unfold Hid; rw [HT.out]; exact RY.out, bel⟩
          case measure => simp [intOf] <;> omega
      · have HO : Hid (Crc.ok16 ys = false) := by
          unfold Hid
          rw [Crc.ok16_eq ys BY.out (by rw [← LY.out]; exact hn6), RY.out, show j = 16 by omega]
          simp only [decide_eq_false_iff_not]
          intro h
          exact Crc.top16_ne t ht h0 (Crc.it16_zero _ _ (Crc.top16_lt t 16) h)
        have R := Lib.hid (rightC16 A6 n6 c6 ys wr (own.rdOf (Below.refl _ _)) BY.out own.bounds.1 (by omega) hc6)
        rw [HO.out] at R
        go_wp2_with (go_at_call 22; refine R.out.mono ?_; rintro e w9 ⟨rfl, q9, rfl⟩)
        go_ret
        exact ⟨rfl, Below.then_ bel (below_drawn q9)⟩
end Go.Proofs.Ytmafkcjlehlebaa
