/-
  The walk of ViterbiFew.
-/
import Derived.Test.YtlnjealhiikmeabDoorVo
namespace Go.Proofs.YtlnjealhiikmeabDoor
open Go.RowKit
set_option linter.unusedVariables false
set_option linter.unusedSimpArgs false

set_option maxHeartbeats 600000 in
set_option maxRecDepth 100000 in
/-- ViterbiFew. -/
theorem walkViterbiFew (z : Int) (A : Option Addr) (na ca : Nat) (zs : List Int) (w : World) (h1 : Rd w w.heap.size A na (I64 zs)) (hna : na ≤ 9223372036854775807) (hT : Taps w) :
    Calls Tryd.prog 3 #[.int .i64 z, .slice A na ca] w fun e w' => e = .returned (.bool true) ∧ Below w.heap.size w w' := by
  obtain ⟨i0, hi0, hz0, hz1, hz2⟩ := info_parts info3
  obtain ⟨u, hu, hu2⟩ := wrap_u64 z
  obtain ⟨m, hm, hm2⟩ : ∃ m : Nat, m < 8 ∧ (u : Int) % 8 = (m : Int) := ⟨u % 8, by omega, by omega⟩
  obtain ⟨N, hN⟩ : ∃ N, 4 * (m + 6) = N := ⟨_, rfl⟩
  have eN : 4 * ((m : Int) + 6) = (N : Int) := by omega
  have hN2 : N ≤ 52 := by omega
  have HN := Lib.hid hN
  clear hN
  go_enter Tryd.func3, Tryd.ntmps3
  go_upto_region 3 with (at_make; refine wpList_make_full _ rfl _ _ 22 rfl w.heap.size 3 i0 (.int .i64 0) 1 Tryd.underlying22 hi0 hz0 hz1 .i64 .i64 _ _ N rfl rfl (by first | rfl | omega) (by first | rfl | omega) (by rw [hz2]; omega) (by unfold maxLen; omega) (Nat.le_refl _) ?_; intro w2 hown2 hgrow2)
  have be2 : Below w.heap.size w w2 := (Below.refl _ _).grown hgrow2 (Nat.le_refl _) (fun k h => by cases h)
  have own2 : Own w2 w.heap.size 3 (some ⟨w.heap.size, 0, none⟩) N N (I64 (List.replicate N 0)) := ⟨by rw [made64] at hown2; exact hown2⟩
  have row2 := own2.whole
  have hlt2 : w.heap.size < w2.heap.size := (Array.getElem?_eq_some_iff.1 row2).1
  have C3 := Lib.hid (refFewI A na ca N zs w2 ((h1.below be2).up be2.size) hna (by omega))
  go_upto_region 4 with (go_at_call 10; refine C3.out.mono ?_; rintro e w3 ⟨A3, n3, c3, rfl, ow3, be3⟩)
  have ln3 := ow3.rd.len64
  have hfl := fewI_length zs N
  have hn3 : n3 ≤ N := by rw [ln3, hfl]; omega
  have row3 := Lib.hid ((be3.block w.heap.size hlt2).trans row2)
  have b13 : Below w.heap.size w w3 := be2.trans (be3.mono (Nat.le_of_lt hlt2))
  have HCS : Hid ((I64 (fewI zs N)).length = Nat.min n3 N) := by unfold Hid; rw [I64_length, ← ln3]; exact (Nat.min_eq_left hn3).symm
  have HFit : Hid (0 + (I64 (fewI zs N)).length ≤ (I64 (List.replicate N 0)).length) := by unfold Hid; rw [I64_length, I64_length, List.length_replicate, ← ln3]; omega
  have HF : Hid (0 < (I64 (fewI zs N)).length → ∃ ad, A3 = some ad ∧ ∀ j v, (I64 (fewI zs N))[j]? = some v → w3.cell? (ad.add j) = some v) := by
    intro h0
    obtain ⟨b, off, e, hlt, hcl⟩ := ow3.rd.at_ (by rw [I64_length, ← ln3] at h0; omega)
    exact ⟨⟨b, off, none⟩, e, fun j v hv => by rw [Addr.add_mid]; exact hcl j v hv⟩
  have HSP : Hid (splice (I64 (List.replicate N 0)) 0 (I64 (fewI zs N)) = I64 (pad zs N)) := splice64 (fewI zs N) N (by rw [← ln3]; exact hn3)
  clear hown2 hgrow2 own2 row2 C3 ln3 hfl
  go_upto_region 5 with (refine wpList_copy_splice rfl _ _ 22 22 rfl 3 Tryd.underlying22 info3s _ _ N N n3 c3 rfl rfl w.heap.size 0 (I64 (List.replicate N 0)) 3 row3.out (I64 (fewI zs N)) HCS.out (fun h => ⟨rfl, HF.out h⟩) HFit.out (I64_one _) w.heap.size w b13 (Nat.le_refl _) ?_; intro w4 hrow4 hbel4)
  rw [HSP.out] at hrow4
  have hb4 : Blk w4 w.heap.size 3 (I64 (pad zs N)).toArray := hrow4.out
  have hrd : Rd w4 w4.heap.size (some ⟨w.heap.size, 0, none⟩) N (I64 (pad zs N)) :=
    hb4.rd 0 N _ (fun i u hu => by rw [Nat.zero_add, List.getElem?_toArray]; exact hu) (by rw [I64_length]; exact pad_length zs N)
  have hT4 := hT.after hbel4
  have HIN := Lib.hid (pad_in zs N)
  have D := Lib.hid (decodeR (some ⟨w.heap.size, 0, none⟩) N m N (pad zs N) w4 hrd HIN.out HN.out.symm (by omega) (Nat.le_refl _) (by omega) hT4)
  have HB4 := Lib.hid hbel4
  have CB := Lib.hid (fun (W : World) (hB : Below w4.heap.size w4 W) => bruteC (some ⟨w.heap.size, 0, none⟩) N m N (pad zs N) W ((hrd.below hB).up hB.size) HIN.out HN.out.symm (by omega))
  generalize Cv.mb (pad zs N) m 0 0 = v at *
  generalize Cv.rb (pad zs N) m 0 0 = rs at *
  clear HSP HF HFit HCS row3 hrow4 hb4 be2 b13 hbel4 hT HIN h1 hrd ow3 be3
  go_wp2_with (first | (go_at_call 11; refine D.out.mono ?_; rintro e w5 ⟨A5, n5, c5, rfl, ow5, be5⟩) | (go_at_call 12; refine (CB.out w5 be5).mono ?_; rintro e w6 ⟨A6, n6, c6, rfl, ow6, be6⟩; have b6 := Below.then_ be5 be6) | (go_at_call 13; refine (decodesC w6 (hT4.after b6)).mono ?_; rintro e w7 ⟨rfl, be7⟩; have b7 := Below.then_ b6 be7; have hcv1 := ow5.conv w7 (Below.then_ be6 be7); have hcv2 := ow6.conv w7 be7))
  go_ret
  exact ⟨rfl, Below.then_ HB4.out b7⟩
end Go.Proofs.YtlnjealhiikmeabDoor
