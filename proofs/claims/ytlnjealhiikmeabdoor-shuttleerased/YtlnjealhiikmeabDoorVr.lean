/-
  The walk of ShuttleErased.
-/
import Derived.Test.YtlnjealhiikmeabDoorVi
import Derived.Test.YtlnjealhiikmeabDoorTp
import Derived.Test.YtlnjealhiikmeabDoorRs
namespace Go.Proofs.YtlnjealhiikmeabDoor
open Go.RowKit
set_option linter.unusedVariables false
set_option linter.unusedSimpArgs false

/-- Which stream is kept at a step. -/
def sd (ks : List Nat) (t : Nat) : Nat := if ks.length = 0 then 0 else ks.getD (t % ks.length) 0 % 4
theorem sd_lt (ks : List Nat) (t : Nat) : sd ks t < 4 := by unfold sd; split <;> omega
theorem ofBytes_bit (bs : List Nat) : ∀ x ∈ Bm.ofBytes bs, x ≤ 1 := by
  intro x hx
  obtain ⟨b, _, hb⟩ := List.mem_flatMap.1 hx
  simp [Bm.bits8] at hb
  omega
theorem I64_set (zs : List Int) (p : Nat) (x : Int) : (I64 zs).set p (.int .i64 x) = I64 (zs.set p x) := by simp [I64, List.map_set]
theorem set_getDI (l : List Int) (i : Nat) (x : Int) (j : Nat) (h : i < l.length) : (l.set i x).getD j 0 = if i = j then x else l.getD j 0 := by
  rw [List.getD_eq_getElem?_getD, List.getElem?_set, List.getD_eq_getElem?_getD]
  by_cases hij : i = j
  · subst hij; simp [h]
  · simp [hij]
/-- Numbers of which the first k are looked at. -/
structure Er (L xs : List Int) (ks : List Nat) (k : Nat) : Prop where
  len : xs.length = L.length
  did : ∀ i, i < k → xs.getD i 0 = if i % 4 = sd ks (i / 4) then L.getD i 0 else 0
  not : ∀ i, k ≤ i → xs.getD i 0 = L.getD i 0
theorem Er.start (L : List Int) (ks : List Nat) : Er L L ks 0 := ⟨rfl, fun i h => by omega, fun _ _ => rfl⟩
theorem Er.keep {L xs : List Int} {ks : List Nat} {k : Nat} (h : Er L xs ks k) (hk : k % 4 = sd ks (k / 4)) : Er L xs ks (k + 1) :=
  ⟨h.len, fun i hi => by
    by_cases hik : i = k
    · subst hik; rw [if_pos hk]; exact h.not i (Nat.le_refl _)
    · exact h.did i (by omega), fun i hi => h.not i (by omega)⟩
theorem Er.zero {L xs : List Int} {ks : List Nat} {k : Nat} (h : Er L xs ks k) (hl : k < xs.length) (hk : k % 4 ≠ sd ks (k / 4)) : Er L (xs.set k 0) ks (k + 1) := by
  refine ⟨by rw [List.length_set]; exact h.len, fun i hi => ?_, fun i hi => ?_⟩
  · rw [set_getDI _ _ _ _ hl]
    by_cases hik : k = i
    · subst hik; rw [if_pos rfl, if_neg hk]
    · rw [if_neg hik]; exact h.did i (by omega)
  · rw [set_getDI _ _ _ _ hl, if_neg (by omega)]; exact h.not i (by omega)
theorem Er.best {b : List Nat} {xs : List Int} {ks : List Nat} (hb : ∀ x ∈ b, x ≤ 1) (h : Er (Cv.soft (Cv.code b)) xs ks (4 * (b.length + 6))) : Cv.rb xs b.length 0 0 = b ∧ Cv.mb xs b.length 0 0 = ((b.length + 6 : Nat) : Int) ∧ ∀ z ∈ xs, -31 ≤ z ∧ z ≤ 31 := by
  have hl : xs.length = 4 * (b.length + 6) := by rw [h.len, Cv.soft_length, Cv.code_length]
  have hg : ∀ t i, t < b.length + 6 → i < 4 → xs.getD (4 * t + i) 0 = if i = sd ks t then (if Cv.bitAt b t i = 0 then 1 else -1) else 0 := by
    intro t i ht hi
    rw [h.did (4 * t + i) (by omega), show (4 * t + i) % 4 = i by omega, show (4 * t + i) / 4 = t by omega, Cv.soft_getD _ _ (by rw [Cv.code_length]; omega), Cv.code_getD b t i hi ht]
  obtain ⟨h1, h2⟩ := Cv.erased xs b hb hl (sd ks) (sd_lt ks) hg
  have e : Cv.rb xs b.length 0 0 = b := (Cv.rb_best xs b.length).uniq h1
  refine ⟨e, ?_, fun z hz => ?_⟩
  · rw [← Cv.rb_eq, e]; exact h2
  · obtain ⟨j, hj, rfl⟩ := List.getElem_of_mem hz
    have := h.did j (by omega)
    rw [Bm.getD_lt _ _ _ hj] at this
    rw [this]
    split
    · rw [Cv.soft_getD _ _ (by rw [Cv.code_length]; omega)]
      split <;> omega
    · omega

set_option maxHeartbeats 600000 in
set_option maxRecDepth 100000 in
/-- ShuttleErased. -/
theorem walkShuttleErased (A B : Option Addr) (na ca nb cb : Nat) (ys ks : List Nat) (w : World) (h1 : Rd w w.heap.size A na (U8 ys)) (h2 : Rd w w.heap.size B nb (U8 ks)) (b1 : ∀ b ∈ ys, b < 256) (b2 : ∀ b ∈ ks, b < 256) (hnc : na ≤ ca) (hc : ca ≤ 9223372036854775807) (hnone : A = none → na = 0 ∧ ca = 0) (hnb : nb ≤ 9223372036854775807) (hT : Taps w) :
    Calls Tryd.prog 9 #[.slice A na ca, .slice B nb cb] w fun e w' => e = .returned (.bool true) ∧ Below w.heap.size w w' := by
  have CU := Lib.hid (cutC A na ca ys w h1 hnc hc hnone)
  have hb8 := take256 b1 8
  have hl8 : (ys.take 8).length ≤ 8 := by rw [List.length_take]; omega
  generalize ys.take 8 = y8 at *
  have HB := Lib.hid (ofBytes_bit y8)
  have HLO := Lib.hid (Bm.ofBytes_length y8)
  clear h1 b1 hnone
  go_enter Tryd.func9, Tryd.ntmps9
  go_upto_region 2 with (first | (go_at_call 23; refine CU.out.mono ?_; rintro e w1 ⟨A1, n1, c1, rfl, ow1, be1⟩; have hn1 : n1 ≤ 8 := (by rw [ow1.rd.len8]; exact hl8)) | (go_at_call 22; refine (bitsOf A1 n1 c1 y8 w1 (ow1.rdOf (Below.refl _ _)) hb8 (by omega)).mono ?_; rintro e w2 ⟨A2, m, c2, rfl, ow2, be2⟩))
  have hm : m ≤ 64 := by rw [ow2.rd.len8, HLO.out]; omega
  have HM := Lib.hid ow2.rd.len8
  clear ow1 hb8 hl8 CU HLO
  generalize Bm.ofBytes y8 = ls at *
  have b2' := Below.then_ be1 be2
  have hT2 := hT.after b2'
  have C3 := Lib.hid (codeC A2 m c2 ls w2 (ow2.rdOf (Below.refl _ _)) ow2.none_ HB.out (by omega) hT2)
  have C4 := Lib.hid (fun (W : World) (hB : Below w2.heap.size w2 W) => pathC A2 m c2 ls W (ow2.rdOf hB) ow2.none_ HB.out (by omega) (hT2.after hB))
  have hlc := Cv.code_length ls
  rw [← HM.out] at hlc
  have HBE := Lib.hid (fun xs h => Er.best (b := ls) (xs := xs) (ks := ks) HB.out h)
  rw [← HM.out] at HBE
  have HSL := Lib.hid (Cv.soft_length (Cv.code ls))
  generalize Cv.code ls = co at *
  clear be1 be2
  go_upto_region 3 with (go_at_call 24; refine C3.out.mono ?_; rintro e w3 ⟨A3, n3, c3, rfl, ow3, be3⟩)
  obtain ⟨N, hN⟩ : ∃ N, 4 * (m + 6) = N := ⟨_, rfl⟩
  have hn3 : n3 = N := by rw [ow3.rd.len8, hlc, hN]
  subst hn3
  have hN2 : n3 ≤ 280 := by omega
  have HN := Lib.hid hN
  rw [HN.out] at HBE hlc
  clear hN
  go_upto_region 4 with (go_at_call 25; refine (C4.out w3 be3).mono ?_; rintro e w4 ⟨A4, c4, rfl, ow4, be4⟩)
  clear ow4 C3 C4
  go_upto_region 6 with (go_at_call 26; refine (stands w4).mono ?_; rintro e w5 ⟨rfl, be5⟩)
  have b35 := Below.then_ be4 be5
  have C6 := Lib.hid (softAll A3 n3 c3 co w5 (ow3.rdOf b35) (by omega))
  generalize Cv.soft co = so at *
  go_wp2_with (go_at_call 27; refine C6.out.mono ?_; rintro e w6 ⟨A6, n6, c6, rfl, ow6, be6⟩)
  have b25 := Below.then_ be3 b35
  have hl6 : so.length = n3 := by rw [HSL.out, hlc]
  have hn6 : n6 = n3 := by rw [ow6.rd.len64, hl6]
  subst hn6
  have b26 := Below.then_ b25 be6
  have b06 := Below.then_ b2' b26
  have hT6 := hT2.after b26
  have hs5 : w.heap.size ≤ w5.heap.size := (Below.then_ b2' b25).size
  have hs25 := b25.size
  have K1 := Lib.hid (fun W (hB : Below w2.heap.size w2 W) => ow2.conv W hB)
  have HL6 := Lib.hid hl6
  have HKL := Lib.hid h2.len8
  clear C6 be3 be4 be5 be6 b35 b25 ow3 ow2 hT2 hl6 hlc
  generalize w5.heap.size = g5 at *
  go_loopw [11] (fun i wr => ∃ k : Nat, k ≤ n6 ∧ i = .int .i64 k ∧ ∃ xs : List Int, Hid (Er so xs ks k) ∧ Own wr g5 3 A6 n6 c6 (I64 xs) ∧ Below g5 w6 wr) (fun i _ => n6 - (intOf i).toNat)
  case atStart => exact ⟨0, Nat.zero_le _, rfl, so, Er.start so ks, ow6, Below.refl _ _⟩
  case round =>
    clear ow6
    obtain ⟨k, hk, rfl, xs, HE, hown, hbel⟩ := hrel
    have hsz := hbel.size
    have b0r : Below w.heap.size w wr := b06.trans (hbel.mono hs5)
    by_cases hlt : k < n6
    · obtain ⟨t, ht, e1⟩ : ∃ t : Nat, k / 4 = t ∧ (k : Int) / 4 = (t : Int) := ⟨k / 4, rfl, by omega⟩
      obtain ⟨r, hr, e2⟩ : ∃ r : Nat, k % 4 = r ∧ (k : Int) % 4 = (r : Int) := ⟨k % 4, rfl, by omega⟩
      obtain ⟨g, hg, hg1, hg2, hgc, hgf, hgs⟩ := hown.slot k hlt
      have HXL : Hid (k < xs.length) := by unfold Hid; rw [HE.out.len, HL6.out]; exact hlt
      rw [I64_get _ k HXL.out] at hgc
      generalize xs.getD k 0 = y0 at hgc
      have HK := Lib.hid (fun h => HE.out.keep h)
      have HZ := Lib.hid (fun h => HE.out.zero HXL.out h)
      rw [ht, hr] at HK HZ
      have HS := Lib.hid (hgs (.int .i64 0))
      clear hgs ht hr
      subst hg
      have HSD : Hid (sd ks t = if nb = 0 then 0 else ks.getD (t % nb) 0 % 4) := by unfold Hid sd; rw [← HKL.out]
      by_cases h0 : nb = 0
      · rw [if_pos h0] at HSD
        rw [HSD.out] at HK HZ
        have d0 : ¬ 0 < nb := by omega
        clear HSD h0
        by_cases hr0 : r = 0
        · have t1 : ((r : Int) != 0) = false := by simp; omega
          go_wp2
          go_roundw
          case rel => exact ⟨k + 1, by omega, by go_num, xs, HK.out hr0, hown, hbel⟩
          case measure => simp [intOf] <;> omega
        · have t1 : ((r : Int) != 0) = true := by simp; omega
          go_wp2
          go_roundw
          case rel => exact ⟨k + 1, by omega, by go_num, xs.set k 0, HZ.out hr0, by rw [← I64_set]; exact HS.out, hbel.setCell hg1 _⟩
          case measure => simp [intOf] <;> omega
      · rw [if_neg h0] at HSD
        obtain ⟨p, hp, hp2, e3⟩ : ∃ p : Nat, t % nb = p ∧ p < nb ∧ (t : Int) % (nb : Int) = (p : Int) := ⟨t % nb, rfl, Nat.mod_lt _ (by omega), by simp⟩
        rw [hp] at HSD
        obtain ⟨b, off, rfl, hlt2, hcell⟩ := (h2.below b0r).cell8 p hp2
        have hy := Bm.byte_lt ks b2 p
        generalize ks.getD p 0 = y at *
        obtain ⟨d, hd, e4⟩ : ∃ d : Nat, y % 4 = d ∧ (y : Int) % 4 = (d : Int) := ⟨y % 4, rfl, by omega⟩
        rw [hd] at HSD
        rw [HSD.out] at HK HZ
        have hd4 : d < 4 := by omega
        have d0 : 0 < nb := by omega
        clear HSD hp hd
        by_cases hr0 : r = d
        · have t1 : ((r : Int) != (d : Int)) = false := by simp; omega
          have HR := Lib.hid hr0
          clear hr0
          go_wp2
          go_roundw
          case rel => exact ⟨k + 1, by omega, by go_num, xs, HK.out HR.out, hown, hbel⟩
          case measure => simp [intOf] <;> omega
        · have t1 : ((r : Int) != (d : Int)) = true := by simp; omega
          go_wp2
          go_roundw
          case rel => exact ⟨k + 1, by omega, by go_num, xs.set k 0, HZ.out hr0, by rw [← I64_set]; exact HS.out, hbel.setCell hg1 _⟩
          case measure => simp [intOf] <;> omega
    · obtain rfl : k = n6 := by omega
      obtain ⟨hrb, hmb, hin⟩ := HBE.out xs HE.out
      have HT6 := Lib.hid (hT.after b0r)
      have D := Lib.hid (decodeO A6 k m c6 g5 xs wr wr hown (Below.refl _ _) hin HN.out.symm (by omega) HT6.out)
      rw [hrb, hmb] at D
      have HB0 := Lib.hid b0r
      have br : Below w2.heap.size w2 wr := b26.trans (hbel.mono hs25)
      clear hrb hmb hin hown hbel b0r
      go_wp2_with (go_at_call 11; refine D.out.mono ?_; rintro e w8 ⟨A8, n8, c8, rfl, ow8, be8⟩; have hcv1 := ow8.conv w8 (Below.refl _ _); have hcv2 := K1.out w8 (Below.then_ br be8))
      go_ret
      exact ⟨rfl, Below.then_ HB0.out be8⟩
end Go.Proofs.YtlnjealhiikmeabDoor
