/-
  Contract of layer 6: Code.
-/
import Derived.Test.YtibddlldgmidlabDoorKe
import Derived.Test.YtibddlldgmidlabDoorKc
import Derived.Deep.DeepCutAuto
namespace Go.Proofs.YtibddlldgmidlabDoor
open Go.RowKit
set_option maxRecDepth 100000
set_option linter.unusedVariables false

theorem Own.whole {w : World} {base : Nat} {e : TypeId} {g n : Nat} {xs : List Value} (h : Own w base e (some ⟨g, 0, none⟩) n n xs) : w.heap[g]? = some (.cells xs.toArray e (0, 0)) := by
  rcases h.row.2 with ⟨hv, _⟩ | ⟨g', cap, cur, hv, hb, hg, h1, h2, h3, h4⟩
  · cases hv
  · injection hv with e1 e2 e3
    injection e1 with e1
    injection e1 with e1
    subst e1 e3
    rw [hg]
    have : cur = xs.toArray := by
      rw [← h4, List.take_of_length_le (by rw [Array.length_toList]; omega)]
    rw [this]
theorem splice_front (l : List Nat) (m : Nat) : splice (U8 (List.replicate (l.length + m) 0)) 0 (U8 l) = U8 (l ++ List.replicate m 0) := by
  unfold splice
  rw [List.take_zero, List.nil_append, Nat.zero_add, U8_length, U8_append]
  congr 1
  unfold U8
  rw [← List.map_drop, List.drop_replicate, show l.length + m - l.length = m by omega]
theorem info5s : (Tryd.prog.info? 5).map (·.size) = some 1 := by kernel_rfl
/-- Six noughts behind a list. -/
theorem ended_getD (l : List Nat) (k : Nat) : (l ++ List.replicate 6 0).getD k 0 = l.getD k 0 := by
  by_cases h : k < l.length
  · rw [Bm.getD_left _ _ _ _ h]
  · rw [Bm.getD_right _ _ _ _ (by omega), Bm.getD_ge l _ _ (by omega)]
    by_cases h2 : k - l.length < 6
    · rw [Bm.getD_lt _ _ _ (by rw [List.length_replicate]; exact h2), List.getElem_replicate]
    · rw [Bm.getD_ge _ _ _ (by rw [List.length_replicate]; omega)]
theorem Z4_eq : (Tryd.prog.info? 76).bind (fun i => i.zero.map (fun z => z.cells)) = some (C4 0 0 0 0) := by kernel_rfl
theorem C4_rd (w : World) (g : Nat) (t : TypeId) (a b c d : Nat) (h : Blk w g t (C4 a b c d)) : Rd w w.heap.size (some ⟨g, 0, none⟩) 4 (U8 [a, b, c, d]) :=
  h.rd 0 4 _ (fun i u hu => by rw [Nat.zero_add]; simpa [C4, U8] using hu) rfl
/-- What a call gives that makes a []byte, and no error. -/
def MadeOk (w : World) (bs : List Nat) (e : Ending) (w' : World) : Prop := ∃ A n c, e = .returned (.tuple #[.slice A n c, .int .i64 0]) ∧ Own w' w.heap.size 5 A n c (U8 bs) ∧ Below w.heap.size w w'

set_option maxHeartbeats 2000000 in
/-- conv.Code of bits. -/
theorem codeC (A : Option Addr) (n c : Nat) (l : List Nat) (w : World) (hr : Rd w w.heap.size A n (U8 l)) (hnone : A = none → n = 0 ∧ c = 0) (hl : ∀ x ∈ l, x ≤ 1) (hn : n ≤ 16384) (hT : Taps w) :
    Calls Tryd.prog 30 #[.slice A n c] w (MadeOk w (Cv.code l)) := by
  obtain ⟨i0, hi0, hz0, hz1, hz2⟩ := info_parts info5
  have hlen := hr.len8
  have HN := Lib.hid hlen
  have C := Lib.hid (right A n c l w hr (bit256 hl) (by omega))
  rw [Bm.isB_of hl] at C
  have C2 := Lib.hid (stepsC n w (by omega))
  have hcs : (U8 l).length = Nat.min n (n + 6) := by rw [U8_length, ← hlen]; exact (Nat.min_eq_left (by omega)).symm
  have HF : Hid (∀ W, Below w.heap.size w W → 0 < (U8 l).length → ∃ ad, A = some ad ∧ ∀ j v, (U8 l)[j]? = some v → W.cell? (ad.add j) = some v) := by
    intro W hb h0
    obtain ⟨b, off, e, hlt, hc⟩ := (hr.below hb).at_ (by rw [U8_length] at h0; omega)
    exact ⟨⟨b, off, none⟩, e, fun j v hv => by rw [Addr.add_mid]; exact hc j v hv⟩
  have HS := Lib.hid (splice_front l 6)
  rw [← hlen] at HS
  clear hlen
  go_enter Tryd.func30, Tryd.ntmps30
  go_upto_region 6 with (first | (go_at_call 40; refine C.out.mono ?_; rintro e w' ⟨rfl, rfl⟩) | (go_at_call 51; refine C2.out.mono ?_; rintro e w' ⟨rfl, rfl⟩) | (at_make; refine wpList_make_full _ rfl _ _ 22 rfl w.heap.size 5 i0 (.int .u8 0) 1 Tryd.underlying22 hi0 hz0 hz1 .i64 .i64 _ _ (n + 6) rfl rfl (by first | rfl | omega) (by first | rfl | omega) (by rw [hz2]; omega) (by unfold maxLen; omega) (Nat.le_refl _) ?_; intro w0 hown0 hgrow0))
  have hbel0 : Below w.heap.size w w0 := (Below.refl _ _).grown hgrow0 (Nat.le_refl _) (fun k h => by cases h)
  have hown1 : Own w0 w.heap.size 5 (some ⟨w.heap.size, 0, none⟩) (n + 6) (n + 6) (U8 (List.replicate (n + 6) 0)) := by
    rw [made8] at hown0
    exact ⟨hown0⟩
  have hrow0 := Lib.hid hown1.whole
  have HFit : Hid (0 + (U8 l).length ≤ (U8 (List.replicate (n + 6) 0)).length) := by
    unfold Hid; rw [U8_length, U8_length, List.length_replicate, ← HN.out]; omega
  have HCS := Lib.hid hcs
  clear hown0 hgrow0 hown1 C C2 hcs
  go_upto_region 7 with (refine wpList_copy_splice rfl _ _ 22 22 rfl 5 Tryd.underlying22 info5s _ _ (n + 6) (n + 6) n c rfl rfl w.heap.size 0 (U8 (List.replicate (n + 6) 0)) 5 hrow0.out (U8 l) HCS.out (fun h => ⟨rfl, HF.out w0 hbel0 h⟩) HFit.out (U8_one l) w.heap.size w hbel0 (Nat.le_refl _) ?_; intro w3 hrow3 hbel3)
  rw [HS.out] at hrow3
  have hb3 : Blk w3 w.heap.size 5 (U8 (l ++ List.replicate 6 0)).toArray := hrow3.out
  have hlen6 : (l ++ List.replicate 6 0).length = n + 6 := by rw [List.length_append, List.length_replicate, ← HN.out]
  have hrd : Rd w3 w3.heap.size (some ⟨w.heap.size, 0, none⟩) (n + 6) (U8 (l ++ List.replicate 6 0)) :=
    hb3.rd 0 (n + 6) _ (fun i u hu => by rw [Nat.zero_add, List.getElem?_toArray]; exact hu) (by rw [U8_length]; exact hlen6)
  have hT3 := hT.after hbel3
  have hsz3 := hbel3.size
  clear HS HF hrow0 HFit HCS hrow3 hb3 hlen6 hT hr hbel0
  generalize hg0 : w.heap.size = g0 at *
  have HG := Lib.hid hg0
  clear hg0
  go_wp2_with (at_make; refine wpList_make_own _ rfl _ _ 22 rfl w3.heap.size 5 i0 (.int .u8 0) 1 Tryd.underlying22 hi0 hz0 hz1 .i64 .i64 _ (4 * (n + 6)) rfl rfl (by first | rfl | omega) (by rw [hz2]; omega) (by unfold maxLen; omega) (Nat.le_refl _) ?_; intro w4 hown4 hgrow4)
  clear hz0 hz1 hz2 hi0
  obtain ⟨j0, hj0, hj1, hj2, hj3⟩ := info_parts info5
  have hbel4 : Below w3.heap.size w3 w4 := (Below.refl _ _).grown hgrow4 (Nat.le_refl _) (fun k h => by cases h)
  go_loopw [5, 6, 30] (fun s t i wr => ∃ k : Nat, k ≤ n + 6 ∧ i = .int .i64 k ∧ t = .int .i64 (Cv.sv l k : Nat) ∧ ∃ A1 c1, s = .slice A1 (4 * k) c1 ∧ Own wr w3.heap.size 5 A1 (4 * k) c1 (U8 (Cv.codeTo l k)) ∧ Below w3.heap.size w3 wr) (fun _ _ i _ => n + 6 - (intOf i).toNat)
  case atStart => exact ⟨0, Nat.zero_le _, rfl, rfl, _, _, rfl, ⟨hown4⟩, hbel4⟩
  case round =>
    clear hown4 hgrow4 hbel4
    obtain ⟨k, hk, rfl, rfl, A1, c1, rfl, hown, hbel⟩ := hrel
    by_cases hlt : k < n + 6
    · obtain ⟨b, off, hbo, hlt2, hcell⟩ := (hrd.below hbel).cell8 k hlt
      injection hbo with hbo
      injection hbo with hbo1 hbo2
      subst hbo1 hbo2
      rw [ended_getD, Nat.zero_add] at hcell
      have hx := Bm.bit_le l hl k
      have hs := Cv.sv_lt l hl k
      have hTr := hT3.after hbel
      have D1 := Lib.hid (wordC (Cv.sv l k) (l.getD k 0) wr hs hx)
      have D2 := Lib.hid (toldOut (Cv.sv l k) (l.getD k 0) wr hs hx hTr)
      have D3 := Lib.hid (fun W => behindC (64 * l.getD k 0 + Cv.sv l k) W (by omega))
      rw [half_word] at D3
      rw [Cv.out_bitAt l hl, Cv.out_bitAt l hl, Cv.out_bitAt l hl, Cv.out_bitAt l hl] at D2
      have HS1 : Hid (Cv.sv l (k + 1) = Cv.nx (Cv.sv l k) (l.getD k 0)) := rfl
      have HF1 : Hid (Cv.codeTo l (k + 1) = Cv.codeTo l k ++ [Cv.bitAt l k 0, Cv.bitAt l k 1, Cv.bitAt l k 2, Cv.bitAt l k 3]) := rfl
      generalize Cv.nx (Cv.sv l k) (l.getD k 0) = s2 at *
      generalize 64 * l.getD k 0 + Cv.sv l k = q at *
      generalize l.getD k 0 = x at *
      generalize Cv.sv l k = s1 at *
      generalize Cv.bitAt l k 0 = o0 at *
      generalize Cv.bitAt l k 1 = o1 at *
      generalize Cv.bitAt l k 2 = o2 at *
      generalize Cv.bitAt l k 3 = o3 at *
      have hlt3 : (k : Int) < (n : Int) + 6 := by omega
      go_upto_region 13 with (go_at_call 52; refine D1.out.mono ?_; rintro e w' ⟨rfl, rfl⟩)
      rw [F4_C4] at D2
      have hsz := hbel.size
      go_wp2_with (first | (go_at_call 53; refine D2.out.mono ?_; rintro e w5 ⟨rfl, hb5⟩) | (go_at_call 54; refine (D3.out _).mono ?_; rintro e w' ⟨rfl, rfl⟩) | (refine at_alloc rfl 76 rfl (C4 0 0 0 0) Z4_eq ?_; intro w6 h6) | (refine at_store rfl 76 _ _ rfl w5.heap.size (C4 o0 o1 o2 o3) rfl rfl 76 (C4 0 0 0 0) h6.row info4 rfl (C4_one _ _ _ _) ?_; intro w7 h7; have br7 := Below.then_ hb5 (h6.bel.trans (h7.below (Nat.le_refl _))); have own7 := hown.below br7 (Nat.le_refl _); have rd7 := C4_rd w7 _ _ _ _ _ _ h7.row; have bel7 := hbel.trans (br7.mono hsz)) | (at_builtin; refine wpList_app _ rfl _ _ 22 rfl w3.heap.size 5 j0 _ 1 Tryd.underlying22 hj0 hj1 hj2 hj3 rfl _ _ _ _ rfl own7 _ _ 4 4 (U8 [o0, o1, o2, o3]) rfl rd7 (by simp) (U8_one _) (by omega) (by unfold maxLen; omega) bel7.size ?_; intro A8 c8 w8 hown8 hgrow8))
      go_roundw
      case rel =>
        refine ⟨k + 1, by omega, by go_num, by rw [HS1.out], A8, c8, slice_len (by omega), ?_, bel7.grown hgrow8 bel7.size (fun j hj => (own7.block j hj).1)⟩
        rw [HF1.out, U8_append]
        exact hown8.to (by omega) rfl
      case measure => simp [intOf] <;> omega
    · have hlt3 : ¬ (k : Int) < (n : Int) + 6 := by omega
      go_wp2
      go_ret2
      refine ⟨A1, 4 * k, c1, rfl, (hown.to rfl ?_).down (by rw [HG.out]; exact hsz3), ?_⟩
      · unfold Cv.code
        rw [← HN.out, show k = n + 6 by omega]
      · rw [HG.out]; exact hbel3.trans (hbel.mono hsz3)
end Go.Proofs.YtibddlldgmidlabDoor
