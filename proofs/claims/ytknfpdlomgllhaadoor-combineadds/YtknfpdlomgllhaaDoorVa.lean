/-
  Contracts of layer 9: all.
-/
import Derived.Test.YtknfpdlomgllhaaDoorTa
import Derived.Test.YtknfpdlomgllhaaDoorMh
import Derived.Deep.CutRange
namespace Go.Proofs.YtknfpdlomgllhaaDoor
open Go.RowKit
set_option maxRecDepth 100000
set_option linter.unusedVariables false

theorem Taps.low {w w' : World} {B : Nat} (h : Taps w) (hb : Below B w w') (hB : 6 < B) : Taps w' :=
  ⟨(hb.cell (p := ⟨6, 0, none⟩) hB).trans h.c0, (hb.cell (p := ⟨6, 1, none⟩) hB).trans h.c1, (hb.cell (p := ⟨6, 2, none⟩) hB).trans h.c2, (hb.cell (p := ⟨6, 3, none⟩) hB).trans h.c3⟩

/-- All edges as cells. -/
def EL : List Value := (List.range 64).flatMap fun s => (E14 s 0 s 1).toList
def EA : Array Value := EL.toArray
theorem flat_length {α β : Type} (f : α → List β) (c : Nat) (h : ∀ s, (f s).length = c) : ∀ l : List α, (l.flatMap f).length = l.length * c
  | [] => by simp
  | x :: l => by rw [List.flatMap_cons, List.length_append, h, flat_length f c h l, List.length_cons, Nat.add_mul]; omega
theorem flat_get {α β : Type} (f : α → List β) (c : Nat) (h : ∀ s, (f s).length = c) : ∀ (l : List α) (i j : Nat) (x : α), l[i]? = some x → j < c → (l.flatMap f)[c * i + j]? = (f x)[j]?
  | [], i, j, x, hx, _ => by simp at hx
  | y :: l, 0, j, x, hx, hj => by
    simp at hx
    subst hx
    rw [List.flatMap_cons, Nat.mul_zero, Nat.zero_add, List.getElem?_append_left (by rw [h]; exact hj)]
  | y :: l, i + 1, j, x, hx, hj => by
    rw [List.flatMap_cons, List.getElem?_append_right (by rw [h, Nat.mul_succ]; omega), h, show c * (i + 1) + j - c = c * i + j by rw [Nat.mul_succ]; omega]
    exact flat_get f c h l i j x (by simpa using hx) hj
theorem EL_length : EL.length = 896 := by
  unfold EL
  rw [flat_length _ 14 (fun s => rfl), List.length_range]
theorem EA_size : EA.size = 896 := by unfold EA; rw [List.size_toArray, EL_length]
theorem EL_get (s j : Nat) (hs : s < 64) (hj : j < 14) : EL[14 * s + j]? = (E14 s 0 s 1)[j]? := by
  unfold EL
  rw [flat_get _ 14 (fun s => rfl) (List.range 64) s j s (by simp [hs]) hj, Array.getElem?_toList]
theorem EA_one : EA.all (·.oneCell') = true := by
  unfold EA
  refine all_oneCell_toArray fun v hv => ?_
  obtain ⟨s, _, h⟩ := List.mem_flatMap.1 hv
  exact (Array.all_eq_true_iff_forall_mem.1 (E14_one s 0 s 1)) v (by simpa using h)
theorem info896 : (Tryd.prog.info? 152).map (·.size) = some 896 := by kernel_rfl
noncomputable def Z896 : Array Value := ((Tryd.prog.info? 152).bind (fun i => i.zero.map (fun z => z.cells))).getD #[]
theorem Z896_eq : (Tryd.prog.info? 152).bind (fun i => i.zero.map (fun z => z.cells)) = some Z896 := by kernel_rfl
theorem Z896_size : Z896.size = 896 := by kernel_rfl
theorem infoEA : (Tryd.prog.info? 152).map (·.size) = some EA.size := by rw [EA_size]; exact info896

set_option maxHeartbeats 1000000 in
set_option maxRecDepth 100000 in
/-- viterbi.all. -/
theorem allC (w : World) (hT : Taps w) : Calls Tryd.prog 91 #[] w fun e w' => e = .returned (.agg EA) ∧ Below w.heap.size w w' := by
  have HC := Lib.hid (fun s hs W hT => fromC s W hs hT)
  go_enter Tryd.func91, Tryd.ntmps91
  go_upto_region 1 with (refine at_alloc rfl 152 rfl Z896 Z896_eq ?_; intro w1 h1)
  go_wp2_with (refine at_alloc rfl 152 rfl Z896 Z896_eq ?_; intro w2 h2)
  have hg : w1.heap.size ≠ w.heap.size := by have := h1.size; omega
  have hr0 := h1.row.after h2.bel
  have bel2 := Below.then_ h1.bel h2.bel
  have hpos := hT.pos
  have hgw : w.heap.size ≤ w1.heap.size := h1.bel.size
  generalize hg0 : w.heap.size = g0 at *
  have HG := Lib.hid hg0
  clear hg0
  have hr1 := h2.row
  have hs2 := h2.size
  generalize w1.heap.size = g1 at *
  clear h1 h2
  go_loopw [3] (fun i wr => ∃ k : Nat, k ≤ 64 ∧ i = .int .i64 k ∧ Blk wr g0 152 Z896 ∧ Below g0 w wr ∧ ∃ cs : Array Value, Blk wr g1 152 cs ∧ Hid (cs.size = 896 ∧ ∀ j, j < 14 * k → cs[j]? = EL[j]?)) (fun i _ => 64 - (intOf i).toNat)
  case atStart => exact ⟨0, by omega, rfl, hr0, bel2, Z896, hr1, Z896_size, fun j hj => by omega⟩
  case round =>
    clear hr0 hr1 bel2
    obtain ⟨k, hk, rfl, hr0, bel, cs, hr1, HS⟩ := hrel
    have hTr := hT.low bel hpos
    by_cases hlt : k < 64
    · have C := Lib.hid (HC.out k hlt wr hTr)
      have H14 := Lib.hid (E14_one k 0 k 1)
      have i14 : (Tryd.prog.info? 139).map (·.size) = some (E14 k 0 k 1).size := info14
      have HFit : Hid (14 * k + (E14 k 0 k 1).size ≤ cs.size) := by unfold Hid; rw [HS.out.1, E14_size]; omega
      have ia := fun W => run_idx (P := Tryd.prog) (sz := 14) Tryd.underlying152 (by kernel_rfl) g1 0 k hlt .i64 W
      simp only [Nat.zero_add] at ia
      have HE := Lib.hid (fun j => EL_get k j hlt)
      generalize hE : E14 k 0 k 1 = E at *
      have hEs : E.size = 14 := by rw [← hE]; exact E14_size _ _ _ _
      have HES := Lib.hid hEs
      have I14 := Lib.hid i14
      clear hE hEs i14
      go_wp2_with (first | (go_at_call 86; refine C.out.mono ?_; rintro e w5 ⟨rfl, hb5⟩; have hr5 := hr1.after hb5) | (refine at_store_mid rfl 139 _ _ rfl g1 (14 * k) E rfl rfl 152 cs hr5 I14.out HFit.out H14.out ?_; intro w6 ds h6 hds hget))
      go_roundw
      case rel =>
        have hsz : g0 ≤ wr.heap.size := Nat.le_of_lt hr0.lt
        have b6 : Below g0 wr w6 := (hb5.mono hsz).trans (h6.below hgw)
        refine ⟨k + 1, by omega, by go_num, h6.blk (hr0.after hb5) (Ne.symm hg), bel.trans b6, ds, h6.row, ?_, ?_⟩
        · rw [hds]; exact HS.out.1
        · intro j hj
          rw [hget j, HES.out]
          by_cases h7 : 14 * k ≤ j ∧ j < 14 * k + 14
          · rw [if_pos h7]
            have := HE.out (j - 14 * k) (by omega)
            rw [show 14 * k + (j - 14 * k) = j by omega] at this
            exact this.symm
          · rw [if_neg h7]
            exact HS.out.2 j (by omega)
      case measure => simp [intOf] <;> omega
    · have hE : cs = EA := by
        apply Array.ext_getElem?
        intro i
        by_cases hi : i < 896
        · rw [HS.out.2 i (by omega)]
          unfold EA
          rw [List.getElem?_toArray]
        · rw [Array.getElem?_eq_none (by rw [HS.out.1]; omega), Array.getElem?_eq_none (by rw [EA_size]; omega)]
      subst hE
      have i8 := Lib.hid infoEA
      have o8 := Lib.hid EA_one
      have z8 : Hid (Z896.size = EA.size) := by unfold Hid; rw [Z896_size, EA_size]
      clear HS
      generalize hEE : EA = E at *
      have HEE := Lib.hid hEE
      clear hEE
      generalize Z896 = Z at *
      go_wp2_with (first | (refine at_load rfl 152 _ rfl g1 rfl 152 E _ hr1 Tryd.underlying152 rfl i8.out ?_) | (refine at_store rfl 152 _ _ rfl g0 E rfl rfl 152 Z hr0 i8.out z8.out o8.out ?_; intro w8 h8))
      refine bodyPost_ret (v := .agg E) (results_row rfl _ _ g0 152 _ _ rfl h8.row Tryd.underlying152 rfl i8.out) rfl ⟨by rw [HEE.out], ?_⟩
      rw [HG.out]
      exact bel.trans (h8.below (Nat.le_refl _))
end Go.Proofs.YtknfpdlomgllhaaDoor
