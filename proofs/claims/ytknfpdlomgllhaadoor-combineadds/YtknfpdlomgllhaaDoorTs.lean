/-
  Contract of layer 7's reference: Step.
-/
import Derived.Test.YtknfpdlomgllhaaDoorTz
import Derived.Test.YtknfpdlomgllhaaDoorKz
import Derived.Test.YtknfpdlomgllhaaDoorMc
import Derived.Deep.DeepCutAuto
namespace Go.Proofs.YtknfpdlomgllhaaDoor
open Go.RowKit
set_option maxRecDepth 100000
set_option linter.unusedVariables false

/-- The edge of a state and a bit of which the first k bits are told. -/
def PE (s x k : Nat) : Array Value := C7 s (Cv.nx s x) x (if 0 < k then Cv.out s x 0 else 0) (if 1 < k then Cv.out s x 1 else 0) (if 2 < k then Cv.out s x 2 else 0) (if 3 < k then Cv.out s x 3 else 0)
theorem PE_size (s x k : Nat) : (PE s x k).size = 7 := rfl
theorem PE_set (s x k : Nat) (hk : k < 4) : (PE s x k).setIfInBounds (3 + k) (.int .u8 (Cv.out s x k : Nat)) = PE s x (k + 1) := by
  have h : k = 0 ∨ k = 1 ∨ k = 2 ∨ k = 3 := by omega
  rcases h with rfl | rfl | rfl | rfl <;> simp [PE, C7]
theorem PE_full (s x : Nat) : PE s x 4 = E7 s x := by simp [PE, E7]
theorem PE_none (s x : Nat) : PE s x 0 = C7 s (Cv.nx s x) x 0 0 0 0 := by simp [PE]
theorem infoR7 : (Tryd.prog.info? 106).map (·.size) = some 7 := by kernel_rfl
theorem ZR7_eq : (Tryd.prog.info? 106).bind (fun i => i.zero.map (fun z => z.cells)) = some (C7 0 0 0 0 0 0 0) := by kernel_rfl
theorem info5one : (Tryd.prog.info? 5).map (·.size) = some 1 := by kernel_rfl

set_option maxHeartbeats 400000 in
set_option maxRecDepth 100000 in
/-- The reference's Step. -/
theorem stepR (s x : Nat) (w : World) (hs : s < 64) (hx : x ≤ 1) :
    Calls Tryd.prog 64 #[.int .i64 (s : Int), .int .u8 (x : Int)] w fun e w' => e = .returned (.agg (E7 s x)) ∧ Below w.heap.size w w' := by
  have CL := Lib.hid (fun W => listC s x W hs hx)
  have HB := Lib.hid (ls_bit s x hx)
  have HO := Lib.hid (fun i hi => ls_out s hs x (by omega) i hi)
  have HPS := Lib.hid (PE_set s x)
  have HPF := Lib.hid (PE_full s x)
  have HPN := Lib.hid (PE_none s x)
  have HP1 : Hid (∀ k, (PE s x k).size = 7) := fun k => rfl
  have e1 : (s : Int) / 2 + 32 * (x : Int) = ((Cv.nx s x : Nat) : Int) := by unfold Cv.nx; omega
  have ZE := Lib.hid ZR7_eq
  have IE := Lib.hid infoR7
  generalize Cv.nx s x = t at *
  go_enter Tryd.func64, Tryd.ntmps64
  go_upto_region 1 with (refine at_alloc rfl 106 rfl (C7 0 0 0 0 0 0 0) ZE.out ?_; intro w1 h1)
  go_upto_region 3 with (first | (refine at_alloc rfl 106 rfl (C7 0 0 0 0 0 0 0) ZE.out ?_; intro w2 h2) | (refine at_store rfl 106 _ _ rfl w1.heap.size (C7 s t x 0 0 0 0) rfl rfl 106 (C7 0 0 0 0 0 0 0) h2.row IE.out rfl (C7_one _ _ _ _ _ _ _) ?_; intro w3 h3) | (go_at_call 100; refine (CL.out w3).mono ?_; rintro e w4 ⟨A4, n4, c4, rfl, ow4, be4⟩))
  have hn4 : n4 = 7 := by rw [ow4.rd.len8, ls_len]
  subst hn4
  have e01 : w.heap.size < w1.heap.size := by rw [h1.size]; omega
  have q4 : Blk w4 w.heap.size 106 (C7 0 0 0 0 0 0 0) := ((h3.blk (h1.row.after h2.bel) (by omega)).after be4)
  have q5 : Blk w4 w1.heap.size 106 (PE s x 0) := by rw [HPN.out]; exact h3.row.after be4
  have b4 : Below w.heap.size w w4 := ((Below.then_ h1.bel h2.bel).trans (h3.below (by omega))).trans (be4.mono (by rw [h3.size, h2.size]; omega))
  have s14 : w1.heap.size < w4.heap.size := Nat.lt_of_lt_of_le (by rw [h3.size, h2.size]; omega) be4.size
  have s13 : w1.heap.size < w3.heap.size := by rw [h3.size, h2.size]; omega
  clear CL h1 h2 h3 be4
  generalize w1.heap.size = g5 at *
  generalize w3.heap.size = g6 at *
  generalize hg4 : w.heap.size = g4 at *
  have HG := Lib.hid hg4
  clear hg4
  go_wp2
  go_loopw [7] (fun i wr => ∃ k : Nat, k ≤ 4 ∧ i = .int .i64 k ∧ Blk wr g4 106 (C7 0 0 0 0 0 0 0) ∧ Blk wr g5 106 (PE s x k) ∧ Own wr g6 5 A4 7 c4 (U8 (ls s x)) ∧ Below g4 w wr) (fun i _ => 4 - (intOf i).toNat)
  case atStart => exact ⟨0, by omega, rfl, q4, q5, ow4, b4⟩
  case round =>
    clear q4 q5 ow4 b4
    obtain ⟨k, hk, rfl, q4, q5, rl, hbel⟩ := hrel
    have l5 := q5.lt
    by_cases hlt : k < 4
    · have C := Lib.hid (bitC A4 7 c4 6 k (ls s x) wr rl.rd HB.out (by omega) (by omega) hlt)
      rw [HO.out k hlt] at C
      have HS := Lib.hid (HPS.out k hlt)
      have hz := HP1.out k
      generalize PE s x k = cs at *
      generalize Cv.out s x k = y at *
      go_wp2_with (first | (go_at_call 51; refine C.out.mono ?_; rintro e w6 ⟨rfl, be6⟩; have q56 := q5.after be6) | (refine at_cell rfl 5 _ _ rfl g5 (3 + k) (.int .u8 (y : Int)) rfl rfl 106 cs q56 (by omega) info5one rfl ?_; intro w7 h7))
      go_roundw
      case rel =>
        exact ⟨k + 1, by omega, by go_num, h7.blk (q4.after be6) (by omega), by rw [← HS.out]; exact h7.row, (rl.below be6 (Nat.le_refl _)).upd h7 s13, (hbel.trans (be6.mono (by have := q4.lt; omega))).trans (h7.below (by omega))⟩
      case measure => simp [intOf] <;> omega
    · obtain rfl : k = 4 := by omega
      rw [HPF.out] at q5
      go_wp2_with (first | (refine at_load rfl 106 _ rfl g5 rfl 106 (E7 s x) _ q5 Tryd.underlying106 rfl IE.out ?_) | (refine at_store rfl 106 _ _ rfl g4 (E7 s x) rfl rfl 106 (C7 0 0 0 0 0 0 0) q4 IE.out rfl (E7_one s x) ?_; intro w8 h8))
      refine bodyPost_ret (v := .agg (E7 s x)) (results_row rfl _ _ g4 106 _ _ rfl h8.row Tryd.underlying106 rfl IE.out) rfl ⟨rfl, ?_⟩
      rw [HG.out]
      exact hbel.trans (h8.below (Nat.le_refl _))
end Go.Proofs.YtknfpdlomgllhaaDoor
