/-
  The walk of ConvAdds.
-/
import Derived.Test.YtlnjealhiikmeaaDoorKg
import Derived.Test.YtlnjealhiikmeaaDoorMn
import Derived.Test.YtlnjealhiikmeaaDoorVn
namespace Go.Proofs.YtlnjealhiikmeaaDoor
open Go.RowKit
set_option linter.unusedVariables false
set_option linter.unusedSimpArgs false

theorem zx_take_succ (a b : List Nat) (h : a.length = b.length) (k : Nat) (hk : k < a.length) : (Crc.zx a b).take (k + 1) = (Crc.zx a b).take k ++ [a.getD k 0 ^^^ b.getD k 0] := by
  have hl := Cv.zx_length a b h
  rw [List.take_succ_eq_append_getElem (by omega), ← Cv.getD_zx a b h, Bm.getD_lt _ _ _ (by omega)]

set_option maxHeartbeats 2000000 in
/-- ConvAdds. -/
theorem walkConvAdds (A B : Option Addr) (na ca nb cb : Nat) (xs ys : List Nat) (w : World) (h1 : Rd w w.heap.size A na (U8 xs)) (h2 : Rd w w.heap.size B nb (U8 ys)) (b1 : ∀ b ∈ xs, b < 256) (b2 : ∀ b ∈ ys, b < 256) (hna : na ≤ 9223372036854775807) (hnb : nb ≤ 9223372036854775807) (hT : Taps w) :
    Calls Tryd.prog 5 #[.slice A na ca, .slice B nb cb] w fun e w' => e = .returned (.bool true) ∧ Below w.heap.size w w' := by
  have C1 := Lib.hid (fewC A na ca 150 xs w h1 b1 (by omega) hna)
  have C2 := Lib.hid (fun W (hB : Below w.heap.size w W) => fewC B nb cb 150 ys W ((h2.below hB).up hB.size) b2 (by omega) hnb)
  have l1 := Bm.few_length xs 150
  have l2 := Bm.few_length ys 150
  have l1' : (Bm.few xs 150).length ≤ 150 := by omega
  have l2' : (Bm.few ys 150).length ≤ 150 := by omega
  have f1 := Bm.few_bit xs 150
  have f2 := Bm.few_bit ys 150
  clear l1 l2
  have e150 : ((150 : Nat) : Int) = 150 := rfl
  simp only [e150] at C1 C2
  clear e150
  generalize Bm.few xs 150 = us0 at *
  generalize Bm.few ys 150 = vs0 at *
  go_enter Tryd.func5, Tryd.ntmps5
  go_wp2_with fail
  refine C1.out.mono ?_
  rintro e w1 ⟨A1, n1, c1, rfl, ow1, be1⟩
  go_wp2_with fail
  refine (C2.out w1 be1).mono ?_
  rintro e w2 ⟨A2, n2, c2, rfl, ow2, be2⟩
  have ow1' := ow1.below be2 (Nat.le_refl _)
  have ln1 := ow1.rd.len8
  have ln2 := ow2.rd.len8
  obtain ⟨n, hnn1, hnn2, _, hm1⟩ := minTwo n1 n2
  have r1 := (ow1'.rdOf (Below.refl _ _)).cut8 n hnn1
  have r2 := (ow2.rdOf (Below.refl _ _)).cut8 n hnn2
  have g1 : ∀ x ∈ us0.take n, x ≤ 1 := fun x hx => f1 x (List.mem_of_mem_take hx)
  have g2 : ∀ x ∈ vs0.take n, x ≤ 1 := fun x hx => f2 x (List.mem_of_mem_take hx)
  have hc1 : (n : Int) ≤ (c1 : Int) := by have := ow1.bounds.1; omega
  have hc2 : (n : Int) ≤ (c2 : Int) := by have := ow2.bounds.1; omega
  have hn1 : A1 = none → n = 0 ∧ c1 = 0 := fun h => ⟨by have := (ow1.none_ h).1; omega, (ow1.none_ h).2⟩
  have hn2 : A2 = none → n = 0 ∧ c2 = 0 := fun h => ⟨by have := (ow2.none_ h).1; omega, (ow2.none_ h).2⟩
  have be := Below.then_ be1 be2
  have hT2 := hT.after be
  have hn150 : n ≤ 150 := by omega
  have f3 : (n : Int) ≤ (n1 : Int) := by omega
  have f4 : (n : Int) ≤ (n2 : Int) := by omega
  generalize us0.take n = us at *
  generalize vs0.take n = vs at *
  have HL1 := Lib.hid r1.len8
  have HL2 := Lib.hid r2.len8
  have HLL : Hid (us.length = vs.length) := by unfold Hid; rw [← HL1.out, ← HL2.out]
  clear C1 C2 h1 h2 b1 b2 l1' l2' f1 f2 ln1 ln2 ow1 ow1' ow2 be1 be2 hT
  go_wp2
  clear hm1
  go_loopw [6, 7] (fun s i wr => ∃ k : Nat, k ≤ n ∧ i = .int .i64 k ∧ ∃ A4 c4, s = .slice A4 k c4 ∧ Own wr w2.heap.size 5 A4 k c4 (U8 ((Crc.zx us vs).take k)) ∧ Below w2.heap.size w2 wr) (fun _ i _ => n - (intOf i).toNat)
  case atStart => exact ⟨0, Nat.zero_le _, rfl, none, 0, rfl, Own.nil _ _ _, Below.refl _ _⟩
  case round =>
    obtain ⟨k, hk, rfl, A4, c4, rfl, hown, hbel⟩ := hrel
    have hsz := hbel.size
    by_cases hlt : k < n
    · obtain ⟨p1, o1, rfl, q1, k1⟩ := (r1.below hbel).cell8 k hlt
      obtain ⟨p2, o2, rfl, q2, k2⟩ := (r2.below hbel).cell8 k hlt
      have HS := Lib.hid (zx_take_succ us vs HLL.out k (by rw [← HL1.out]; exact hlt))
      have x1 := Bm.bit_le us g1 k
      have x2 := Bm.bit_le vs g2 k
      generalize us.getD k 0 = x at *
      generalize vs.getD k 0 = y at *
      have e1 := u8_xor_nat x y (by omega) (by omega)
      have s1 : ((k : Nat) : Int) < (n1 : Int) := by omega
      have s2 : ((k : Nat) : Int) < (n2 : Int) := by omega
      go_wp2_with fail
      have ownd : Own wr.drew w2.heap.size 5 A4 k c4 (U8 ((Crc.zx us vs).take k)) := ⟨hown.row.drew⟩
      go_region_law ((refine step_app8 wr.drew (by rfl) _ _ (by rfl) w2.heap.size A4 k c4 _ (x ^^^ y) _ (by first | rfl | omega) (by rfl) ownd (by rfl) (by omega) (by simp; omega) ?_; intro A5 c5 w5 hown5 hgrow5 hat5))
      all_goals
        go_wp2
        go_roundw
        case rel =>
          refine ⟨k + 1, by omega, by go_num, A5, c5, rfl, ?_, ?_⟩
          · rw [HS.out]; exact hown5
          · exact (hbel.drew).grown hgrow5 (by simp; omega) (fun j hj => (hown.block j hj).1)
        case measure => simp [intOf] <;> omega
    · have hkn : k = n := by omega
      obtain rfl := hkn
      have ha : (Crc.zx us vs).take k = Crc.zx us vs := List.take_of_length_le (by rw [Cv.zx_length us vs HLL.out, ← HL1.out]; omega)
      rw [ha] at hown
      clear ha
      have HZ := Lib.hid (Cv.zx_bit us vs g1 g2 HLL.out)
      have HCZ := Lib.hid (Cv.code_zx us vs HLL.out)
      have hTr := hT2.after hbel
      have D1 := Lib.hid (codeC A1 k c1 us wr ((r1.below hbel).up hsz) hn1 g1 (by omega) hTr)
      have D2 := Lib.hid (fun W (hB : Below wr.heap.size wr W) => codeC A2 k c2 vs W ((r2.below (hbel.trans (hB.mono hsz))).up (Nat.le_trans hsz hB.size)) hn2 g2 (by omega) (hTr.after hB))
      have D3 := Lib.hid (fun W (hB : Below wr.heap.size wr W) => codeC A4 k c4 (Crc.zx us vs) W (hown.rdOf hB) hown.none_ HZ.out (by omega) (hTr.after hB))
      rw [HCZ.out] at D3
      have lu := Cv.code_length us
      have lv := Cv.code_length vs
      rw [← HL1.out] at lu
      rw [← HL2.out] at lv
      have bu := Cv.code_bit us g1
      have bv := Cv.code_bit vs g2
      generalize Cv.code us = cu at *
      generalize Cv.code vs = cv at *
      have lz := Cv.zx_length cu cv (by rw [lu, lv])
      go_wp2_with fail
      refine D1.out.mono ?_
      rintro e w5 ⟨A5, n5, c5, rfl, ow5, be5⟩
      go_wp2_with fail
      refine (D2.out w5 be5).mono ?_
      rintro e w6 ⟨A6, n6, c6, rfl, ow6, be6⟩
      go_wp2_with fail
      refine (D3.out w6 (Below.then_ be5 be6)).mono ?_
      rintro e w7 ⟨A7, n7, c7, rfl, ow7, be7⟩
      have e5 : n5 = 4 * (k + 6) := by rw [ow5.rd.len8, lu]
      have e6 : n6 = 4 * (k + 6) := by rw [ow6.rd.len8, lv]
      have e7 : n7 = 4 * (k + 6) := by rw [ow7.rd.len8, lz, lu]
      subst e5 e6 e7
      have hN2 : 4 * (k + 6) ≤ 700 := by omega
      generalize hN : 4 * (k + 6) = N at *
      have b67 := Below.then_ be6 be7
      have ow5' := ow5.below b67 (Nat.le_refl _)
      have ow6' := ow6.below be7 (Nat.le_refl _)
      have hB7 := Below.then_ be5 b67
      have CD := Lib.hid (codesC w7 (hTr.after hB7))
      have HNH := Lib.hid hN
      have HLC : Hid (cu.length = cv.length) := by unfold Hid; rw [lu, lv]
      clear hN D1 D2 D3 HZ HCZ lu lv lz hTr be5 be6 be7 b67 ow5 ow6 hown
      have HB := Lib.hid (Below.then_ be (hbel.trans (hB7.mono hsz)))
      clear hB7 hbel be hsz r1 r2 hT2
      go_wp2_with (go_at_call 13; refine CD.out.mono ?_; rintro e w8 ⟨rfl, be8⟩)
      have R5 := (ow5'.rdOf be8)
      have R6 := (ow6'.rdOf be8)
      have R7 := (ow7.rdOf be8)
      have HB8 := Lib.hid (Below.then_ HB.out be8)
      clear CD ow5' ow6' ow7
      clear g1 g2 hn1 hn2
      go_loopw [14] (fun i wr => ∃ j q : Nat, j ≤ N ∧ i = .int .i64 j ∧ wr = w8.drewN q) (fun i _ => N - (intOf i).toNat)
      case atStart => exact ⟨0, 0, Nat.zero_le _, rfl, rfl⟩
      case round =>
        obtain ⟨j, q, hj, rfl, hw⟩ := hrel
        have bq : Below w8.heap.size w8 wr := hw ▸ below_drawn q
        have HW := Lib.hid hw
        clear hw
        by_cases hlt2 : j < N
        · obtain ⟨p1, o1, rfl, q1, k1⟩ := (R5.below bq).cell8 j hlt2
          obtain ⟨p2, o2, rfl, q2, k2⟩ := (R6.below bq).cell8 j hlt2
          obtain ⟨p3, o3, rfl, q3, k3⟩ := (R7.below bq).cell8 j hlt2
          rw [Cv.getD_zx cu cv HLC.out] at k3
          have x1 := Bm.bit_le cu bu j
          have x2 := Bm.bit_le cv bv j
          generalize cu.getD j 0 = x at *
          generalize cv.getD j 0 = y at *
          have e1 := u8_xor_nat x y (by omega) (by omega)
          generalize x ^^^ y = z at *
          have e2 : ((z : Int) != (z : Int)) = false := by simp
          go_wp2_with fail
          go_quiet (fail)
          go_wp2
          go_roundw
          case rel => exact ⟨j + 1, q + _, by omega, by go_num, by rw [HW.out, World.drewN_drewN]⟩
          case measure => simp [intOf] <;> omega
        · go_wp2
          go_ret
          exact ⟨rfl, by rw [HW.out]; exact HB8.out.trans (below_drawn q)⟩
end Go.Proofs.YtlnjealhiikmeaaDoor
