/-
  Contracts of layer 9: count, within, step, by.
-/
import Derived.Test.YtknfpdlomgllhaaDoorVa
import Derived.Test.YtknfpdlomgllhaaDoorSz
namespace Go.Proofs.YtknfpdlomgllhaaDoor
open Go.RowKit
set_option maxRecDepth 100000
set_option linter.unusedVariables false

/-- What four numbers score with what a state and a bit tell. -/
def sc4 (ns : List Int) (s x : Nat) : Int := Cv.score ns [Cv.out s x 0, Cv.out s x 1, Cv.out s x 2, Cv.out s x 3]
/-- The scores of a step by one bit. -/
def byL (ns : List Int) (x : Nat) (B : List Int) : List Int := (List.range 64).map fun s => sc4 ns s x + B.getD (Cv.nx s x) 0
theorem byL_length (ns : List Int) (x : Nat) (B : List Int) : (byL ns x B).length = 64 := by simp [byL]
theorem byL_get (ns : List Int) (x : Nat) (B : List Int) (s : Nat) (hs : s < 64) : (byL ns x B).getD s 0 = sc4 ns s x + B.getD (Cv.nx s x) 0 := by
  rw [Bm.getD_lt _ _ _ (by rw [byL_length]; exact hs)]
  simp [byL]
theorem g4_bounds {ns : List Int} (h : ∀ z ∈ ns, -31 ≤ z ∧ z ≤ 31) (hl : ns.length = 4) (s x : Nat) : -124 ≤ sc4 ns s x ∧ sc4 ns s x ≤ 124 := by
  have := Cv.sc_bounds h [Cv.out s x 0, Cv.out s x 1, Cv.out s x 2, Cv.out s x 3] 4
  unfold sc4 Cv.score
  rw [hl]
  omega
/-- Scores as cells. -/
def IA (B : List Int) : Array Value := (I64 B).toArray
theorem IA_size (B : List Int) : (IA B).size = B.length := by unfold IA; rw [List.size_toArray, I64_length]
theorem IA_one (B : List Int) : (IA B).all (·.oneCell') = true := all_oneCell_toArray (I64_one B)
theorem IA_get (B : List Int) (i : Nat) (h : i < B.length) : (IA B)[i]? = some (.int .i64 (B.getD i 0)) := by
  unfold IA; rw [List.getElem?_toArray, I64_get B i h]
theorem info64 : (Tryd.prog.info? 154).map (·.size) = some 64 := by kernel_rfl
theorem Z64_eq : (Tryd.prog.info? 154).bind (fun i => i.zero.map (fun z => z.cells)) = some (IA (List.replicate 64 0)) := by kernel_rfl
theorem E14_part (s x j : Nat) (hx : x ≤ 1) (hj : j < 7) : (E14 s 0 s 1)[7 * x + j]? = (E7 s x)[j]? := by
  have h1 : x = 0 ∨ x = 1 := by omega
  unfold E14
  rcases h1 with rfl | rfl
  · rw [Nat.mul_zero, Nat.zero_add, Array.getElem?_append_left (by rw [E7_size]; exact hj)]
  · rw [Array.getElem?_append_right (by rw [E7_size]; omega), E7_size, show 7 * 1 + j - 7 = j by omega]
theorem EA_part (s x : Nat) (hs : s < 64) (hx : x ≤ 1) : ∀ i u, (E7 s x).toList[i]? = some u → EA[14 * s + 7 * x + i]? = some u := by
  intro i u hu
  have hi : i < 7 := by
    have := (List.getElem?_eq_some_iff.1 hu).1
    rw [Array.length_toList, E7_size] at this
    exact this
  unfold EA
  rw [List.getElem?_toArray, Nat.add_assoc, EL_get s (7 * x + i) hs (by omega), E14_part s x i hx hi, ← hu, Array.getElem?_toList]

set_option maxHeartbeats 400000 in
/-- viterbi.step. -/
theorem stepC (A : Option Addr) (b off n c t : Nat) (w : World) (hA : A = some ⟨b, off, none⟩) (ht : 4 * t + 4 ≤ n) (hn : n ≤ c) (hc : c ≤ 9223372036854775807) (hn2 : n ≤ 65536) :
    Calls Tryd.prog 94 #[.slice A n c, .int .i64 (t : Int)] w fun e w' => e = .returned (.slice (some ⟨b, off + 4 * t, none⟩) 4 (c - 4 * t)) ∧ w = w' := by
  subst hA
  obtain ⟨p, hp⟩ : ∃ p, 4 * t = p := ⟨_, rfl⟩
  have e0 : 4 * (t : Int) = (p : Int) := by omega
  have e1 : 4 * ((t : Int) + 1) = (p : Int) + 4 := by omega
  rw [hp]
  rw [hp] at ht
  clear hp
  have f1 : (p : Int) + 4 ≤ (c : Int) := by omega
  have f2 : (p : Int) ≤ (p : Int) + 4 := by omega
  go_enter Tryd.func94, Tryd.ntmps94
  go_wp2
  go_ret
  exact ⟨by show Ending.returned (.slice (some ⟨b, off + p, none⟩) (p + 4 - p) (c - p)) = _; rw [show p + 4 - p = 4 by omega], rfl⟩

theorem E7_rd (w : World) (g : Nat) (t : TypeId) (s x : Nat) (h : Blk w g t (E7 s x)) : Rd w w.heap.size (some ⟨g, 3, none⟩) 4 (U8 [Cv.out s x 0, Cv.out s x 1, Cv.out s x 2, Cv.out s x 3]) :=
  h.rd 3 4 _ (fun i u hu => by
    have hi : i < 4 := by have := (List.getElem?_eq_some_iff.1 hu).1; simpa [U8] using this
    match i, hi, hu with
    | 0, _, hu => exact hu
    | 1, _, hu => exact hu
    | 2, _, hu => exact hu
    | 3, _, hu => exact hu) rfl
theorem out4_bit (s x : Nat) : ∀ y ∈ [Cv.out s x 0, Cv.out s x 1, Cv.out s x 2, Cv.out s x 3], y ≤ 1 := by
  intro y hy
  simp only [List.mem_cons, List.not_mem_nil, or_false] at hy
  rcases hy with rfl | rfl | rfl | rfl <;> exact Cv.out_bit _ _ _

set_option maxHeartbeats 600000 in
set_option maxRecDepth 100000 in
/-- viterbi.by. -/
theorem byC (A : Option Addr) (c x : Nat) (ns B : List Int) (w : World) (hr : Rd w w.heap.size A 4 (I64 ns)) (hin : ∀ z ∈ ns, -31 ≤ z ∧ z ≤ 31) (hx : x ≤ 1) (hB : B.length = 64) (hBd : ∀ i, -1000000000 ≤ B.getD i 0 ∧ B.getD i 0 ≤ 1000000000) :
    Calls Tryd.prog 126 #[.agg EA, .int .u8 (x : Int), .slice A 4 c, .agg (IA B)] w fun e w' => e = .returned (.agg (IA (byL ns x B))) ∧ Below w.heap.size w w' := by
  have hnl : ns.length = 4 := by rw [← hr.len64]
  have HBY := Lib.hid (byL_get ns x B)
  have HG4 := Lib.hid (g4_bounds hin hnl)
  have HP := Lib.hid (fun k hk => EA_part k x hk hx)
  have HIB := Lib.hid (IA_get B)
  have HBL := Lib.hid hB
  have HBD := Lib.hid hBd
  clear hBd hB hnl
  go_enter Tryd.func126, Tryd.ntmps126
  generalize hEE : EA = E at *
  generalize hIB : IA B = IB at *
  go_upto_region 1 with (first | (refine at_box rfl 152 _ rfl E rfl ?_; intro w1 h1) | (refine at_box rfl 154 _ rfl IB rfl ?_; intro w2 h2) | (refine at_alloc rfl 154 rfl (IA (List.replicate 64 0)) Z64_eq ?_; intro w3 h3))
  go_wp2_with (refine at_alloc rfl 154 rfl (IA (List.replicate 64 0)) Z64_eq ?_; intro w4 h4)
  have e1 : w.heap.size < w1.heap.size := by rw [h1.size]; omega
  have e2 : w1.heap.size < w2.heap.size := by rw [h2.size]; omega
  have e3 : w2.heap.size < w3.heap.size := by rw [h3.size]; omega
  have k4 := ((h1.row.after h2.bel).after h3.bel).after h4.bel
  have k7 := (h2.row.after h3.bel).after h4.bel
  have k8 := h3.row.after h4.bel
  have k9 := h4.row
  have bel := Below.then_ (Below.then_ (Below.then_ h1.bel h2.bel) h3.bel) h4.bel
  generalize hg0 : w.heap.size = g4 at *
  have HG := Lib.hid hg0
  generalize w1.heap.size = g7 at *
  generalize w2.heap.size = g8 at *
  generalize w3.heap.size = g9 at *
  have HEE := Lib.hid hEE
  have HII := Lib.hid hIB
  clear hg0 h1 h2 h3 h4 hEE hIB
  go_loopw [14] (fun i wr => ∃ k : Nat, k ≤ 64 ∧ i = .int .i64 k ∧ Blk wr g4 152 E ∧ Blk wr g7 154 IB ∧ Blk wr g8 154 (IA (List.replicate 64 0)) ∧ Below g4 w wr ∧ ∃ cs : Array Value, Blk wr g9 154 cs ∧ Hid (cs.size = 64 ∧ ∀ j, j < k → cs[j]? = (IA (byL ns x B))[j]?)) (fun i _ => 64 - (intOf i).toNat)
  case atStart => exact ⟨0, by omega, rfl, k4, k7, k8, bel, _, k9, by rw [IA_size, List.length_replicate], fun j hj => by omega⟩
  case round =>
    clear k4 k7 k8 k9 bel
    obtain ⟨k, hk, rfl, k4, k7, k8, bel, cs, k9, HS⟩ := hrel
    by_cases hlt : k < 64
    · have ia := fun W => run_idx (P := Tryd.prog) (sz := 14) Tryd.underlying152 (by kernel_rfl) g4 0 k hlt .i64 W
      have ib := fun W => run_idx (P := Tryd.prog) (sz := 7) Tryd.underlying139 (by kernel_rfl) g4 (0 + 14 * k) x (by omega) .u8 W
      have hnx := Cv.nx_lt k x hlt hx
      have ic := fun W => run_idx (P := Tryd.prog) (sz := 1) Tryd.underlying154 (by kernel_rfl) g7 0 (Cv.nx k x) hnx .i64 W
      have id := fun W => run_idx (P := Tryd.prog) (sz := 1) Tryd.underlying154 (by kernel_rfl) g9 0 k hlt .i64 W
      simp only [Nat.zero_add, Nat.one_mul] at ia ib ic id
      have hrange : wr.rangeAt g4 (14 * k + 7 * x) (E7 k x).toList := k4.range _ _ (HP.out k hlt)
      have HC : Hid (∀ W g, Blk W g 138 (E7 k x) → W.cell? ⟨g, 1, none⟩ = some (.int .i64 (Cv.nx k x : Nat))) := fun W g h => h.cell 1
      have HR : Hid (∀ W g, Blk W g 138 (E7 k x) → Rd W W.heap.size A 4 (I64 ns) → Calls Tryd.prog 149 #[.slice A 4 c, .slice (some ⟨g, 3, none⟩) 4 4] W fun e w' => e = .returned (.tuple #[.int .i64 (sc4 ns k x), .int .i64 0]) ∧ W = w') :=
        fun W g h hR => softScore A (some ⟨g, 3, none⟩) 4 c 4 ns _ W hR (E7_rd W g _ k x h) hin (out4_bit k x) (by omega)
      have i7 : (Tryd.prog.info? 138).map (·.size) = some (E7 k x).size := info7
      have o7 := E7_one k x
      have z7 : (C7 0 0 0 0 0 0 0).size = (E7 k x).size := rfl
      have hv := HBY.out k hlt
      have hb1 := HG4.out k x
      have hb2 := HBD.out (Cv.nx k x)
      have kB : wr.cell? ⟨g7, Cv.nx k x, none⟩ = some (.int .i64 (B.getD (Cv.nx k x) 0)) := (k7.cell _).trans (HIB.out (Cv.nx k x) (by rw [HBL.out]; exact hnx))
      have k9c := k9.cell k
      rw [Array.getElem?_eq_getElem (by rw [HS.out.1]; exact hlt)] at k9c
      generalize cs[k]'(by rw [HS.out.1]; exact hlt) = old at k9c
      have HV := Lib.hid hv
      generalize E7 k x = E7v at *
      generalize Cv.nx k x = tx at *
      generalize sc4 ns k x = gv at *
      obtain ⟨hb1, hb1'⟩ := hb1
      obtain ⟨hb2, hb2'⟩ := hb2
      generalize B.getD tx 0 = bv at *
      have hRr := (hr.below bel).up (B' := wr.heap.size) (Nat.le_of_lt k4.lt)
      have hq4 := k4.lt
      have hq7 := k7.lt
      have hq9 := k9.lt
      go_wp2_with (first | (refine at_load_mid rfl 138 _ rfl g4 (14 * k + 7 * x) rfl E7v _ hrange Tryd.underlying138 rfl i7 ?_) | (refine at_alloc rfl 138 rfl (C7 0 0 0 0 0 0 0) Z7_eq ?_; intro w5 h5) | (refine at_store rfl 138 _ _ rfl wr.heap.size E7v rfl rfl 138 (C7 0 0 0 0 0 0 0) h5.row i7 z7 o7 ?_; intro w6 h6; have b6 := h5.bel.trans (h6.below (Nat.le_refl _)); have c1 := HC.out w6 _ h6.row; have kB6 := (b6.cell (p := ⟨g7, tx, none⟩) hq7).trans kB; have k9c6 := (b6.cell (p := ⟨g9, k, none⟩) hq9).trans k9c; have k9f6 := (k9.after b6).froz k; have hR6 := (hRr.below b6).up b6.size; have D := Lib.hid (HR.out w6 _ h6.row hR6)) | (go_at_call 149; refine D.out.mono ?_; rintro e w' ⟨rfl, rfl⟩))
      go_roundw
      case rel =>
        refine ⟨k + 1, by omega, by go_num, (k4.after b6).setOther _ _ (by show g4 ≠ g9; omega), (k7.after b6).setOther _ _ (by show g7 ≠ g9; omega), (k8.after b6).setOther _ _ (by show g8 ≠ g9; omega), (bel.trans (b6.mono (Nat.le_of_lt hq4))).setCell (by show g4 ≤ g9; omega) _, _, (k9.after b6).set k _, ?_, ?_⟩
        · rw [Array.size_setIfInBounds]; exact HS.out.1
        · intro j hj
          by_cases hjk : j = k
          · subst hjk
            rw [IA_get _ j (by rw [byL_length]; exact hlt), HV.out, Array.getElem?_setIfInBounds_self_of_lt (by rw [HS.out.1]; exact hlt)]
          · rw [Array.getElem?_setIfInBounds_ne (Ne.symm hjk)]
            exact HS.out.2 j (by omega)
      case measure => simp [intOf] <;> omega
    · have hE : cs = IA (byL ns x B) := by
        apply Array.ext_getElem?
        intro i
        by_cases hi : i < 64
        · exact HS.out.2 i (by omega)
        · rw [Array.getElem?_eq_none (by rw [HS.out.1]; omega), Array.getElem?_eq_none (by rw [IA_size, byL_length]; omega)]
      subst hE
      have i8 : Hid ((Tryd.prog.info? 154).map (·.size) = some (IA (byL ns x B)).size) := by unfold Hid; rw [IA_size, byL_length]; exact info64
      have o8 := Lib.hid (IA_one (byL ns x B))
      have z8 : Hid ((IA (List.replicate 64 0)).size = (IA (byL ns x B)).size) := by unfold Hid; rw [IA_size, IA_size, byL_length, List.length_replicate]
      clear HS HBY
      generalize hRR : IA (byL ns x B) = R at *
      have HRR := Lib.hid hRR
      clear hRR
      generalize IA (List.replicate 64 0) = Z at *
      go_wp2_with (first | (refine at_load rfl 154 _ rfl g9 rfl 154 R _ k9 Tryd.underlying154 rfl i8.out ?_) | (refine at_store rfl 154 _ _ rfl g8 R rfl rfl 154 Z k8 i8.out z8.out o8.out ?_; intro w8 h8))
      refine bodyPost_ret (v := .agg R) (results_row rfl _ _ g8 154 _ _ rfl h8.row Tryd.underlying154 rfl i8.out) rfl ⟨by rw [HRR.out], ?_⟩
      rw [HG.out]
      exact bel.trans (h8.below (by omega))
end Go.Proofs.YtknfpdlomgllhaaDoor
