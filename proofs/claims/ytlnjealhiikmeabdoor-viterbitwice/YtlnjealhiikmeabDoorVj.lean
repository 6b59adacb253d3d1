/-
  The walk of ViterbiBest.
-/
import Derived.Test.YtlnjealhiikmeabDoorVi
namespace Go.Proofs.YtlnjealhiikmeabDoor
open Go.RowKit
set_option linter.unusedVariables false
set_option linter.unusedSimpArgs false

theorem made64 (N : Nat) : (madeCells (Value.int .i64 0).cells (N * 1)).toList = I64 (List.replicate N 0) := by
  show (madeCells #[Value.int .i64 0] (N * 1)).toList = _
  rw [toList_madeCells_one, Nat.mul_one]
  simp [I64]
theorem splice64 (l : List Int) (N : Nat) (h : l.length ≤ N) : splice (I64 (List.replicate N 0)) 0 (I64 l) = I64 (l ++ List.replicate (N - l.length) 0) := by
  unfold splice
  rw [List.take_zero, List.nil_append, Nat.zero_add, I64_length, I64_append]
  congr 1
  unfold I64
  rw [← List.map_drop, List.drop_replicate]
theorem info3s : (Tryd.prog.info? 3).map (·.size) = some 1 := by kernel_rfl
/-- Few numbers, and noughts behind them. -/
def pad (zs : List Int) (N : Nat) : List Int := fewI zs N ++ List.replicate (N - (fewI zs N).length) 0
theorem pad_length (zs : List Int) (N : Nat) : (pad zs N).length = N := by
  unfold pad
  rw [List.length_append, List.length_replicate, fewI_length]
  omega
theorem pad_in (zs : List Int) (N : Nat) : ∀ z ∈ pad zs N, -31 ≤ z ∧ z ≤ 31 := by
  intro z hz
  rcases List.mem_append.1 hz with h | h
  · exact fewI_in zs N z h
  · have := List.eq_of_mem_replicate h; omega
theorem best_ge (l : List Int) (n : Nat) (hl : l.length = 4 * (n + 6)) (os : List Nat) (ho : ∀ x ∈ os, x ≤ 1) (hn : os.length = n) : Cv.score l (Cv.code os) ≤ Cv.mb l n 0 0 := by
  rw [Cv.score_tot l os ho (by rw [hl, hn])]
  exact Cv.mb_ge l n 0 0 os hn ho

set_option maxHeartbeats 1000000 in
/-- ViterbiBest. -/
theorem walkViterbiBest (A B : Option Addr) (na ca nb cb : Nat) (zs : List Int) (ys : List Nat) (w : World) (h1 : Rd w w.heap.size A na (I64 zs)) (h2 : Rd w w.heap.size B nb (U8 ys)) (b2 : ∀ b ∈ ys, b < 256) (hna : na ≤ 9223372036854775807) (hnb : nb ≤ 9223372036854775807) (hT : Taps w) :
    Calls Tryd.prog 5 #[.slice A na ca, .slice B nb cb] w fun e w' => e = .returned (.bool true) ∧ Below w.heap.size w w' := by
  obtain ⟨i0, hi0, hz0, hz1, hz2⟩ := info_parts info3
  have C1 := Lib.hid (fewC B nb cb 40 ys w h2 b2 (by omega) hnb)
  have l1 := Bm.few_length ys 40
  have l1' : (Bm.few ys 40).length ≤ 40 := by omega
  have f1 := Bm.few_bit ys 40
  clear l1
  generalize Bm.few ys 40 = os at *
  go_enter Tryd.func5, Tryd.ntmps5
  go_wp2_with fail
  refine C1.out.mono ?_
  rintro e w1 ⟨A1, m, c1, rfl, ow1, be1⟩
  have hm : m ≤ 40 := by have := ow1.rd.len8; omega
  have HM := Lib.hid ow1.rd.len8
  obtain ⟨N, hN⟩ : ∃ N, 4 * (m + 6) = N := ⟨_, rfl⟩
  have eN : 4 * ((m : Int) + 6) = (N : Int) := by omega
  have hN2 : N ≤ 200 := by omega
  have HN := Lib.hid hN
  have hT1 := hT.after be1
  clear l1' C1 h2 b2 hN hT
  go_upto_region 3 with (at_make; refine wpList_make_full _ rfl _ _ 22 rfl w1.heap.size 3 i0 (.int .i64 0) 1 Tryd.underlying22 hi0 hz0 hz1 .i64 .i64 _ _ N rfl rfl (by first | rfl | omega) (by first | rfl | omega) (by rw [hz2]; omega) (by unfold maxLen; omega) (Nat.le_refl _) ?_; intro w2 hown2 hgrow2)
  have be2 : Below w1.heap.size w1 w2 := (Below.refl _ _).grown hgrow2 (Nat.le_refl _) (fun k h => by cases h)
  have own2 : Own w2 w1.heap.size 3 (some ⟨w1.heap.size, 0, none⟩) N N (I64 (List.replicate N 0)) := ⟨by rw [made64] at hown2; exact hown2⟩
  have row2 := own2.whole
  have hlt2 : w1.heap.size < w2.heap.size := (Array.getElem?_eq_some_iff.1 row2).1
  have b12 := Below.then_ be1 be2
  have C3 := Lib.hid (refFewI A na ca N zs w2 ((h1.below b12).up b12.size) hna (by omega))
  go_upto_region 4 with (go_at_call 10; refine C3.out.mono ?_; rintro e w3 ⟨A3, n3, c3, rfl, ow3, be3⟩)
  have ln3 := ow3.rd.len64
  have hfl := fewI_length zs N
  have hn3 : n3 ≤ N := by rw [ln3, hfl]; omega
  have row3 := Lib.hid ((be3.block w1.heap.size hlt2).trans row2)
  have b13 : Below w1.heap.size w1 w3 := be2.trans (be3.mono (Nat.le_of_lt hlt2))
  have HCS : Hid ((I64 (fewI zs N)).length = Nat.min n3 N) := by unfold Hid; rw [I64_length, ← ln3]; exact (Nat.min_eq_left hn3).symm
  have HFit : Hid (0 + (I64 (fewI zs N)).length ≤ (I64 (List.replicate N 0)).length) := by unfold Hid; rw [I64_length, I64_length, List.length_replicate, ← ln3]; omega
  have HF : Hid (0 < (I64 (fewI zs N)).length → ∃ ad, A3 = some ad ∧ ∀ j v, (I64 (fewI zs N))[j]? = some v → w3.cell? (ad.add j) = some v) := by
    intro h0
    obtain ⟨b, off, e, hlt, hcl⟩ := ow3.rd.at_ (by rw [I64_length, ← ln3] at h0; omega)
    exact ⟨⟨b, off, none⟩, e, fun j v hv => by rw [Addr.add_mid]; exact hcl j v hv⟩
  have HSP : Hid (splice (I64 (List.replicate N 0)) 0 (I64 (fewI zs N)) = I64 (pad zs N)) := splice64 (fewI zs N) N (by rw [← ln3]; exact hn3)
  clear hown2 hgrow2 own2 row2 C3 ln3 hfl
  go_upto_region 5 with (refine wpList_copy_splice rfl _ _ 22 22 rfl 3 Tryd.underlying22 info3s _ _ N N n3 c3 rfl rfl w1.heap.size 0 (I64 (List.replicate N 0)) 3 row3.out (I64 (fewI zs N)) HCS.out (fun h => ⟨rfl, HF.out h⟩) HFit.out (I64_one _) w1.heap.size w1 b13 (Nat.le_refl _) ?_; intro w4 hrow4 hbel4)
  rw [HSP.out] at hrow4
  have hb4 : Blk w4 w1.heap.size 3 (I64 (pad zs N)).toArray := hrow4.out
  have hrd : Rd w4 w4.heap.size (some ⟨w1.heap.size, 0, none⟩) N (I64 (pad zs N)) :=
    hb4.rd 0 N _ (fun i u hu => by rw [Nat.zero_add, List.getElem?_toArray]; exact hu) (by rw [I64_length]; exact pad_length zs N)
  have ow1' := ow1.below hbel4 (Nat.le_refl _)
  have hT4 := hT1.after hbel4
  have HIN := Lib.hid (pad_in zs N)
  have D := Lib.hid (decodeR (some ⟨w1.heap.size, 0, none⟩) N m N (pad zs N) w4 hrd HIN.out HN.out.symm (by omega) (Nat.le_refl _) (by omega) hT4)
  have HGE := Lib.hid (best_ge (pad zs N) m (by rw [pad_length]; exact HN.out.symm) os f1 HM.out.symm)
  have hlc := Cv.code_length os
  rw [← HM.out, HN.out] at hlc
  have HB4 := Lib.hid (Below.then_ be1 hbel4)
  have CC := Lib.hid (fun (W : World) (hB : Below w4.heap.size w4 W) => refCode A1 m c1 os W (ow1'.rdOf hB) f1 (by omega))
  have CS := Lib.hid (fun (W : World) (hB : Below w4.heap.size w4 W) (A2 : Option Addr) (c2 : Nat) (hR : Rd W W.heap.size A2 N (U8 (Cv.code os))) => refScore (some ⟨w1.heap.size, 0, none⟩) A2 N N c2 (pad zs N) (Cv.code os) W ((hrd.below hB).up hB.size) hR HIN.out (by omega))
  generalize w1.heap.size = g at *
  generalize Cv.mb (pad zs N) m 0 0 = v at *
  generalize Cv.rb (pad zs N) m 0 0 = rs at *
  generalize Cv.score (pad zs N) (Cv.code os) = sc at *
  have hd : decide (sc ≤ v) = true := by simpa using HGE.out
  generalize Cv.code os = co at *
  clear HSP HF HFit HCS row3 hrow4 hb4 be1 be2 b12 b13 hbel4 hT1 HIN h1 hrd ow1 ow1' ow3 be3
  go_wp2_with (first | (go_at_call 11; refine D.out.mono ?_; rintro e w5 ⟨A5, n5, c5, rfl, ow5, be5⟩) | (go_at_call 13; refine (decodesC w5 (hT4.after be5)).mono ?_; rintro e w6 ⟨rfl, be6⟩; have b46 := Below.then_ be5 be6) | (go_at_call 17; refine (CC.out w6 b46).mono ?_; rintro e w7 ⟨A7, n7, c7, rfl, ow7, be7⟩; have hn7 : n7 = N := (by rw [ow7.rd.len8, hlc]); subst hn7; have b47 := Below.then_ b46 be7) | (go_at_call 16; refine (CS.out w7 b47 A7 c7 (ow7.rdOf (Below.refl _ _))).mono ?_; rintro e w' ⟨rfl, rfl⟩))
  go_ret
  exact ⟨rfl, Below.then_ HB4.out b47⟩
end Go.Proofs.YtlnjealhiikmeabDoor
