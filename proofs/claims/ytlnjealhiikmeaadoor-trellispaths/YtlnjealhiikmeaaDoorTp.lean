/-
  Contract of layer 7: Path.
-/
import Derived.Test.YtlnjealhiikmeaaDoorTa
import Derived.Test.YtlnjealhiikmeaaDoorMr
namespace Go.Proofs.YtlnjealhiikmeaaDoor
open Go.RowKit
set_option linter.unusedVariables false

/-- The first k edges of a list's path as cells. -/
def PC (l : List Nat) : Nat → List Value
  | 0 => []
  | k + 1 => PC l k ++ (E7 (Cv.sv l k) (l.getD k 0)).toList
theorem info7p : (Tryd.prog.info? 44).map (fun i => (i.zero, i.size, i.bytes)) = some (some (.agg (C7 0 0 0 0 0 0 0)), 7, 24) := by kernel_rfl
/-- What Path gives. -/
def Pathed (w : World) (l : List Nat) (n : Nat) (e : Ending) (w' : World) : Prop := ∃ A1 c1, e = .returned (.tuple #[.slice A1 (n + 6) c1, .int .i64 0]) ∧ OwnR w' w.heap.size 44 7 A1 (n + 6) c1 (PC l (n + 6)) ∧ Below w.heap.size w w'

set_option maxHeartbeats 400000 in
set_option maxRecDepth 100000 in
/-- trellis.Path of bits. -/
theorem pathC (A : Option Addr) (n c : Nat) (l : List Nat) (w : World) (hr : Rd w w.heap.size A n (U8 l)) (hnone : A = none → n = 0 ∧ c = 0) (hl : ∀ x ∈ l, x ≤ 1) (hn : n ≤ 16384) (hT : Taps w) :
    Calls Tryd.prog 26 #[.slice A n c] w (Pathed w l n) := by
  obtain ⟨i0, hi0, hz0, hz1, hz2⟩ := info_parts info5
  obtain ⟨i7, hi7, hz7, hs7, hb7⟩ := info_parts info7p
  have hlen := hr.len8
  have HN := Lib.hid hlen
  have C := Lib.hid (codeC A n c l w hr hnone hl hn hT)
  have C2 := Lib.hid (fun W => stepsC n W (by omega))
  have hcs : (U8 l).length = Nat.min n (n + 6) := by rw [U8_length, ← hlen]; exact (Nat.min_eq_left (by omega)).symm
  have HF : Hid (∀ W, Below w.heap.size w W → 0 < (U8 l).length → ∃ ad, A = some ad ∧ ∀ j v, (U8 l)[j]? = some v → W.cell? (ad.add j) = some v) := by
    intro W hb h0
    obtain ⟨b, off, e, hlt, hc⟩ := (hr.below hb).at_ (by rw [U8_length] at h0; omega)
    exact ⟨⟨b, off, none⟩, e, fun j v hv => by rw [Addr.add_mid]; exact hc j v hv⟩
  have HS := Lib.hid (splice_front l 6)
  rw [← hlen] at HS
  clear hlen
  go_enter Tryd.func26, Tryd.ntmps26
  go_upto_region 4 with (go_at_call 17; refine C.out.mono ?_; rintro e w1 ⟨A1, n1, c1, rfl, ow1, be1⟩)
  clear ow1
  go_upto_region 5 with (first | (go_at_call 14; refine (C2.out _).mono ?_; rintro e w' ⟨rfl, rfl⟩) | (at_make; refine wpList_make_full _ rfl _ _ 30 rfl w1.heap.size 5 i0 (.int .u8 0) 1 Tryd.underlying30 hi0 hz0 hz1 .i64 .i64 _ _ (n + 6) rfl rfl (by first | rfl | omega) (by first | rfl | omega) (by rw [hz2]; omega) (by unfold maxLen; omega) (Nat.le_refl _) ?_; intro w0 hown0 hgrow0))
  have hbel01 : Below w1.heap.size w1 w0 := (Below.refl _ _).grown hgrow0 (Nat.le_refl _) (fun k h => by cases h)
  have hbel0 := Below.then_ be1 hbel01
  have hown1 : Own w0 w1.heap.size 5 (some ⟨w1.heap.size, 0, none⟩) (n + 6) (n + 6) (U8 (List.replicate (n + 6) 0)) := by
    rw [made8] at hown0
    exact ⟨hown0⟩
  have hrow0 := Lib.hid hown1.whole
  have HFit : Hid (0 + (U8 l).length ≤ (U8 (List.replicate (n + 6) 0)).length) := by
    unfold Hid; rw [U8_length, U8_length, List.length_replicate, ← HN.out]; omega
  have HCS := Lib.hid hcs
  clear hown0 hgrow0 hown1 C C2 hcs
  go_upto_region 6 with (refine wpList_copy_splice rfl _ _ 30 30 rfl 5 Tryd.underlying30 info5s _ _ (n + 6) (n + 6) n c rfl rfl w1.heap.size 0 (U8 (List.replicate (n + 6) 0)) 5 hrow0.out (U8 l) HCS.out (fun h => ⟨rfl, HF.out w0 hbel0 h⟩) HFit.out (U8_one l) w1.heap.size w1 hbel01 (Nat.le_refl _) ?_; intro w3 hrow3 hbel31)
  rw [HS.out] at hrow3
  have hbel3 := Below.then_ be1 hbel31
  have hb3 : Blk w3 w1.heap.size 5 (U8 (l ++ List.replicate 6 0)).toArray := hrow3.out
  have hlen6 : (l ++ List.replicate 6 0).length = n + 6 := by rw [List.length_append, List.length_replicate, ← HN.out]
  have hrd : Rd w3 w3.heap.size (some ⟨w1.heap.size, 0, none⟩) (n + 6) (U8 (l ++ List.replicate 6 0)) :=
    hb3.rd 0 (n + 6) _ (fun i u hu => by rw [Nat.zero_add, List.getElem?_toArray]; exact hu) (by rw [U8_length]; exact hlen6)
  have hT3 := hT.after hbel3
  have hsz3 := hbel3.size
  have HB3 := Lib.hid hbel3
  clear HS HF hrow0 HFit HCS hrow3 hb3 hlen6 hT hr hbel0 hbel01 hbel31 be1 hbel3
  generalize w1.heap.size = g0 at *
  go_wp2_with (at_make; refine wpList_make_own _ rfl _ _ 52 rfl w3.heap.size 44 i7 (.agg (C7 0 0 0 0 0 0 0)) 7 Tryd.underlying52 hi7 hz7 hs7 .i64 .i64 _ (n + 6) rfl rfl (by first | rfl | omega) (by rw [hb7]; omega) (by unfold maxLen; omega) (Nat.le_refl _) ?_; intro w4 hown4 hgrow4)
  clear hz0 hz1 hz2 hi0
  have hbel4 : Below w3.heap.size w3 w4 := (Below.refl _ _).grown hgrow4 (Nat.le_refl _) (fun k h => by cases h)
  go_loopw [7, 8, 32] (fun s t i wr => ∃ k : Nat, k ≤ n + 6 ∧ i = .int .i64 k ∧ t = .int .i64 (Cv.sv l k : Nat) ∧ ∃ A1 c1, s = .slice A1 k c1 ∧ OwnR wr w3.heap.size 44 7 A1 k c1 (PC l k) ∧ Below w3.heap.size w3 wr) (fun _ _ i _ => n + 6 - (intOf i).toNat)
  case atStart => exact ⟨0, Nat.zero_le _, rfl, rfl, _, _, rfl, ⟨hown4⟩, hbel4⟩
  case round =>
    clear hown4 hgrow4 hbel4
    obtain ⟨k, hk, rfl, rfl, A1, c1, rfl, hown, hbel⟩ := hrel
    by_cases hlt : k < n + 6
    · obtain ⟨b, off, hbo, hlt2, hcell⟩ := (hrd.below hbel).cell8 k hlt
      injection hbo with hbo
      injection hbo with hbo1 hbo2
      subst hbo1 hbo2
      rw [ended_getD, Nat.zero_add] at hcell
      have hx := Bm.bit_le l hl k
      have hs := Cv.sv_lt l hl k
      have hTr := hT3.after hbel
      have D1 := Lib.hid (edgeC (Cv.sv l k) (l.getD k 0) wr hs hx hTr)
      have HS1 : Hid (Cv.sv l (k + 1) = Cv.nx (Cv.sv l k) (l.getD k 0)) := rfl
      have HF1 : Hid (PC l (k + 1) = PC l k ++ (E7 (Cv.sv l k) (l.getD k 0)).toList) := rfl
      have HE1 : Hid ((E7 (Cv.sv l k) (l.getD k 0))[1]? = some (.int .i64 (Cv.nx (Cv.sv l k) (l.getD k 0) : Nat))) := rfl
      have HE2 := Lib.hid (E7_size (Cv.sv l k) (l.getD k 0))
      have HE3 := Lib.hid (E7_one (Cv.sv l k) (l.getD k 0))
      have HI : Hid ((Tryd.prog.info? 44).map (·.size) = some (E7 (Cv.sv l k) (l.getD k 0)).size) := info7
      have HZ : Hid ((C7 0 0 0 0 0 0 0).size = (E7 (Cv.sv l k) (l.getD k 0)).size) := rfl
      have HZE := Lib.hid Z7_eq
      generalize E7 (Cv.sv l k) (l.getD k 0) = E at *
      generalize Cv.nx (Cv.sv l k) (l.getD k 0) = s2 at *
      generalize l.getD k 0 = x at *
      generalize Cv.sv l k = s1 at *
      generalize C7 0 0 0 0 0 0 0 = Z at *
      have hlt3 : (k : Int) < (n : Int) + 6 := by omega
      have hsz := hbel.size
      go_wp2_with (first | (go_at_call 35; refine D1.out.mono ?_; rintro e w5 ⟨rfl, hb5⟩) | (refine at_alloc rfl 44 rfl Z HZE.out ?_; intro w6 h6) | (refine at_store rfl 44 _ _ rfl w5.heap.size E rfl rfl 44 Z h6.row HI.out HZ.out HE3.out ?_; intro w7 h7; have br7 := Below.then_ hb5 (h6.bel.trans (h7.below (Nat.le_refl _))); have own7 := hown.below br7 (Nat.le_refl _); have bel7 := hbel.trans (br7.mono hsz)) | (refine at_load rfl 44 _ rfl w5.heap.size rfl 44 E _ h7.row Tryd.underlying44 rfl HI.out ?_) | (refine at_build7 rfl 52 44 _ rfl i7 (.agg Z) Tryd.underlying52 hi7 hz7 hs7 E HE2.out rfl ?_) | (at_builtin; refine appR w7 rfl _ _ 52 rfl w3.heap.size 44 i7 (.agg Z) 7 24 Tryd.underlying52 hi7 hz7 hs7 hb7 (by rw [show (Value.agg Z).cells = Z from rfl]; exact HZ.out.trans HE2.out) (by omega) _ _ _ _ E HE2.out HE3.out rfl own7 rfl (by omega) (by unfold maxLen; omega) bel7.size ?_; intro A8 c8 w8 hown8 hgrow8; have hr8 : w8.cell? ⟨w5.heap.size, 1, none⟩ = some (.int .i64 (s2 : Int)) := ((h7.row.grown hgrow8 (fun hq => absurd (hown.block _ hq).2 (by have := hb5.size; omega))).cell 1).trans HE1.out))
      go_roundw
      case rel =>
        refine ⟨k + 1, by omega, by go_num, by rw [HS1.out], A8, c8, rfl, ?_, bel7.grown hgrow8 bel7.size (fun j hj => (own7.block j hj).1)⟩
        rw [HF1.out]
        exact hown8
      case measure => simp [intOf] <;> omega
    · have hlt3 : ¬ (k : Int) < (n : Int) + 6 := by omega
      obtain rfl : k = n + 6 := by omega
      go_wp2
      go_ret2
      exact ⟨A1, c1, rfl, hown.down hsz3, HB3.out.trans (hbel.mono hsz3)⟩
end Go.Proofs.YtlnjealhiikmeaaDoor
