/-
  Contract of layer 9: choose, its first half.
-/
import Derived.Test.YtknfpdlomgllhaaDoorVd
namespace Go.Proofs.YtknfpdlomgllhaaDoor
open Go.RowKit
set_option maxRecDepth 100000
set_option linter.unusedVariables false
set_option linter.unusedSimpArgs false

/-- Bits as cells. -/
def UA (bs : List Nat) : Array Value := (U8 bs).toArray
theorem UA_size (B : List Nat) : (UA B).size = B.length := by unfold UA; rw [List.size_toArray, U8_length]
theorem UA_one (B : List Nat) : (UA B).all (·.oneCell') = true := all_oneCell_toArray (U8_one B)
theorem UA_get (B : List Nat) (i : Nat) (h : i < B.length) : (UA B)[i]? = some (.int .u8 ((B.getD i 0 : Nat) : Int)) := by
  unfold UA; rw [List.getElem?_toArray, U8_get B i h]
theorem infoW : (Tryd.prog.info? 158).map (·.size) = some 64 := by kernel_rfl
theorem ZW_eq : (Tryd.prog.info? 158).bind (fun i => i.zero.map (fun z => z.cells)) = some (UA (List.replicate 64 0)) := by kernel_rfl
/-- The best scores of a step by either bit. -/
def chL (ns B : List Int) : List Int := (List.range 64).map fun s => if (byL ns 0 B).getD s 0 < (byL ns 1 B).getD s 0 then (byL ns 1 B).getD s 0 else (byL ns 0 B).getD s 0
/-- By which. -/
def wyL (ns B : List Int) : List Nat := (List.range 64).map fun s => if (byL ns 0 B).getD s 0 < (byL ns 1 B).getD s 0 then 1 else 0
theorem chL_length (ns B : List Int) : (chL ns B).length = 64 := by simp [chL]
theorem wyL_length (ns B : List Int) : (wyL ns B).length = 64 := by simp [wyL]
theorem chL_get (ns B : List Int) (s : Nat) (hs : s < 64) : (chL ns B).getD s 0 = if (byL ns 0 B).getD s 0 < (byL ns 1 B).getD s 0 then (byL ns 1 B).getD s 0 else (byL ns 0 B).getD s 0 := by
  rw [Bm.getD_lt _ _ _ (by rw [chL_length]; exact hs)]
  simp [chL]
theorem wyL_get (ns B : List Int) (s : Nat) (hs : s < 64) : (wyL ns B).getD s 0 = if (byL ns 0 B).getD s 0 < (byL ns 1 B).getD s 0 then 1 else 0 := by
  rw [Bm.getD_lt _ _ _ (by rw [wyL_length]; exact hs)]
  simp [wyL]
/-- An element of an array as a value. -/
theorem run_part {P : Program} {t e : TypeId} {n : Nat} (ht : P.underlying t = some (.array n e)) {k : IntKind} (he : P.underlying e = some (.int k)) (hs : (P.info? e).map (·.size) = some 1) (cs : Array Value) (i : Nat) (hi : i < n) (v : Value) (hv : cs[i]? = some v) (w : World) :
    (Instr.index t (.agg cs) (.int .i64 (i : Int))).run P w = .ok v w := by
  have h1 : (0 : Int) ≤ (i : Int) ∧ (i : Int) < (n : Int) := by omega
  cases hq : P.info? e with
  | none => simp [hq] at hs
  | some j =>
    have hj : j.size = 1 := by simpa [hq] using hs
    simp [Instr.index, run_underlying ht, run_underlying he, asIntOf, sizeOf, typeInfo, hq, hj, hi, part, isAgg, hv]

set_option maxHeartbeats 400000 in
set_option maxRecDepth 100000 in
/-- viterbi.choose. -/
theorem chooseC (A : Option Addr) (c : Nat) (ns B : List Int) (w : World) (hr : Rd w w.heap.size A 4 (I64 ns)) (hin : ∀ z ∈ ns, -31 ≤ z ∧ z ≤ 31) (hB : B.length = 64) (hBd : ∀ i, -1000000000 ≤ B.getD i 0 ∧ B.getD i 0 ≤ 1000000000) :
    Calls Tryd.prog 93 #[.agg EA, .slice A 4 c, .agg (IA B)] w fun e w' => e = .returned (.tuple #[.agg (IA (chL ns B)), .agg (UA (wyL ns B))]) ∧ Below w.heap.size w w' := by
  have HBY := Lib.hid (fun (x : Nat) (hx : x ≤ 1) (W : World) (hR : Rd W W.heap.size A 4 (I64 ns)) => byC A c x ns B W hR hin hx hB hBd)
  have iE := Lib.hid infoEA
  have iB : Hid ((Tryd.prog.info? 154).map (·.size) = some (IA B).size) := by unfold Hid; rw [IA_size, hB]; exact info64
  have iR0 : Hid ((Tryd.prog.info? 154).map (·.size) = some (IA (byL ns 0 B)).size) := by unfold Hid; rw [IA_size, byL_length]; exact info64
  have iR1 : Hid ((Tryd.prog.info? 154).map (·.size) = some (IA (byL ns 1 B)).size) := by unfold Hid; rw [IA_size, byL_length]; exact info64
  have oR0 := Lib.hid (IA_one (byL ns 0 B))
  have oR1 := Lib.hid (IA_one (byL ns 1 B))
  have zR0 : Hid ((IA (List.replicate 64 0)).size = (IA (byL ns 0 B)).size) := by unfold Hid; rw [IA_size, IA_size, byL_length, List.length_replicate]
  have zR1 : Hid ((IA (List.replicate 64 0)).size = (IA (byL ns 1 B)).size) := by unfold Hid; rw [IA_size, IA_size, byL_length, List.length_replicate]
  have ZE := Lib.hid Z64_eq
  have ZWE := Lib.hid ZW_eq
  have HCH := Lib.hid (chL_get ns B)
  have HWY := Lib.hid (wyL_get ns B)
  clear hB hBd hin
  go_enter Tryd.func93, Tryd.ntmps93
  generalize EA = E at *
  generalize IA B = IB at *
  go_upto_region 1 with (first | (refine at_box rfl 152 _ rfl E rfl ?_; intro w1 h1) | (refine at_box rfl 154 _ rfl IB rfl ?_; intro w2 h2) | (refine at_alloc rfl 154 rfl (IA (List.replicate 64 0)) ZE.out ?_; intro w3 h3) | (refine at_alloc rfl 158 rfl (UA (List.replicate 64 0)) ZWE.out ?_; intro w4 h4))
  have e1 : w.heap.size < w1.heap.size := by rw [h1.size]; omega
  have e2 : w1.heap.size < w2.heap.size := by rw [h2.size]; omega
  have e3 : w2.heap.size < w3.heap.size := by rw [h3.size]; omega
  have n0 := ((h1.row.after h2.bel).after h3.bel).after h4.bel
  have b0 := (h2.row.after h3.bel).after h4.bel
  have s60 := h3.row.after h4.bel
  have s70 := h4.row
  have bel := Below.then_ (Below.then_ (Below.then_ h1.bel h2.bel) h3.bel) h4.bel
  have hR4 := (hr.below bel).up (B' := w4.heap.size) bel.size
  have hsz4 := bel.size
  generalize hg0 : w.heap.size = g3 at *
  have HG := Lib.hid hg0
  generalize w1.heap.size = g5 at *
  generalize w2.heap.size = g6 at *
  generalize w3.heap.size = g7 at *
  clear hg0 h1 h2 h3 h4 hr
  generalize hR0 : IA (byL ns 0 B) = R0 at *
  generalize hR1 : IA (byL ns 1 B) = R1 at *
  generalize hZ : IA (List.replicate 64 0) = Z at *
  have HR0 := Lib.hid hR0
  have HR1 := Lib.hid hR1
  have HZ := Lib.hid hZ
  clear hR0 hR1 hZ
  have C1 := Lib.hid (fun (W : World) (hB : Below w4.heap.size w4 W) => HBY.out 0 (by omega) W ((hR4.below hB).up hB.size))
  have C2 := Lib.hid (fun (W : World) (hB : Below w4.heap.size w4 W) => HBY.out 1 (by omega) W ((hR4.below hB).up hB.size))
  rw [HR0.out] at C1
  rw [HR1.out] at C2
  clear HBY hR4
  (try simp only [Act.put, List.setIfInBounds_toArray, List.set_cons_zero, List.set_cons_succ])
  go_cut [8, 9] from 13 to 20 (fun s8 s9 wc => ∃ g8 g9 : Nat, s8 = .pointer (some ⟨g8, 0, none⟩) ∧ s9 = .pointer (some ⟨g9, 0, none⟩) ∧ g7 < g8 ∧ g8 ≠ g9 ∧ g7 < g9 ∧ Blk wc g8 154 R0 ∧ Blk wc g9 154 R1 ∧ Blk wc g6 154 Z ∧ Blk wc g7 158 (UA (List.replicate 64 0)) ∧ Below w4.heap.size w4 wc)
  case first =>
    have n_0 := n0.drew
    have b_0 := b0.drew
    have s6_0 := s60.drew
    have s7_0 := s70.drew
    have bel_0 : Below w4.heap.size w4 w4.drew := (Below.refl _ _).drew
    have sw : w4.heap.size ≤ w4.drew.heap.size := Nat.le_refl _
    obtain ⟨W0, hW0⟩ : ∃ W0, w4.drew = W0 := ⟨_, rfl⟩
    refine wp_region_noPanic ?_
    refine wp_region_held_drew (S := fun W => Blk W g3 152 E ∧ Blk W g5 154 IB) (by kernel_rfl) ⟨n_0, b_0⟩ (fun hHeld => ?_)
    rw [hW0] at n_0 b_0 s6_0 s7_0 bel_0 sw hHeld ⊢
    clear hW0
    refine wpAnyH_take (i := 0) (oi := ⟨some 13, _, _, _, _, _⟩) (v := _) rfl (by kernel_rfl) (by kernel_rfl) (by kernel_rfl) (fun _ _ _ h => h) (yields_row (by rfl) 152 _ (by rfl) g3 (by rfl) 152 E _ (fun W h => h.1) Tryd.underlying152 rfl iE.out) (by assumption) ?_
    (try simp only [Act.put, List.setIfInBounds_toArray, List.set_cons_zero, List.set_cons_succ])
    refine wpAnyH_take (i := 1) (oi := ⟨some 14, _, _, _, _, _⟩) (v := ?_) rfl (by kernel_rfl) (by kernel_rfl) (by kernel_rfl) (fun _ _ _ h => h) (Or.inl ⟨by rfl, ?_⟩) (by assumption) ?_
    rotate_left
    · intro W hSW; obtain ⟨hSW0, hSW1⟩ := hSW; go_simp; first | done | with_reducible rfl
    (try simp only [Act.put, List.setIfInBounds_toArray, List.set_cons_zero, List.set_cons_succ])
    refine wpAnyH_take (i := 2) (oi := ⟨some 15, _, _, _, _, _⟩) (v := _) rfl (by kernel_rfl) (by kernel_rfl) (by kernel_rfl) (fun _ _ _ h => h) (yields_row (by rfl) 154 _ (by rfl) g5 (by rfl) 154 IB _ (fun W h => h.2) Tryd.underlying154 rfl iB.out) (by assumption) ?_
    (try simp only [Act.put, List.setIfInBounds_toArray, List.set_cons_zero, List.set_cons_succ])
    refine wpAnyH_take (i := 4) (oi := ⟨some 17, _, _, _, _, _⟩) (v := _) rfl (by kernel_rfl) (by kernel_rfl) (by kernel_rfl) (fun _ _ _ h => h) (yields_row (by rfl) 152 _ (by rfl) g3 (by rfl) 152 E _ (fun W h => h.1) Tryd.underlying152 rfl iE.out) (by assumption) ?_
    (try simp only [Act.put, List.setIfInBounds_toArray, List.set_cons_zero, List.set_cons_succ])
    refine wpAnyH_take (i := 5) (oi := ⟨some 18, _, _, _, _, _⟩) (v := ?_) rfl (by kernel_rfl) (by kernel_rfl) (by kernel_rfl) (fun _ _ _ h => h) (Or.inl ⟨by rfl, ?_⟩) (by assumption) ?_
    rotate_left
    · intro W hSW; obtain ⟨hSW0, hSW1⟩ := hSW; go_simp; first | done | with_reducible rfl
    (try simp only [Act.put, List.setIfInBounds_toArray, List.set_cons_zero, List.set_cons_succ])
    refine wpAnyH_take (i := 6) (oi := ⟨some 19, _, _, _, _, _⟩) (v := _) rfl (by kernel_rfl) (by kernel_rfl) (by kernel_rfl) (fun _ _ _ h => h) (yields_row (by rfl) 154 _ (by rfl) g5 (by rfl) 154 IB _ (fun W h => h.2) Tryd.underlying154 rfl iB.out) (by assumption) ?_
    (try simp only [Act.put, List.setIfInBounds_toArray, List.set_cons_zero, List.set_cons_succ])
    refine wpAnyH_ready (rs := [3, 8, 9]) (by kernel_rfl) (by simp) ?_
    refine AllReadyH.cons (o := ⟨some 16, _, _, _, _, _⟩) rfl (fun K hK => ?_) (AllReadyH.cons (o := ⟨some 8, _, _, _, _, _⟩) rfl (fun K hK => ?_) (AllReadyH.cons (o := ⟨some 9, _, _, _, _, _⟩) rfl (fun K hK => ?_) (AllReadyH.nil)))
    · go_simp
      refine (C1.out _ bel_0).mono ?_
      rintro e W1 ⟨rfl, hb_1⟩
      have n_1 := n_0.after hb_1
      have b_1 := b_0.after hb_1
      have s6_1 := s6_0.after hb_1
      have s7_1 := s7_0.after hb_1
      have bel_1 := bel_0.trans (hb_1.mono bel_0.size)
      have sz_1 := hb_1.size
      clear hHeld
      refine hK.out _ _ ?_ (fun hHeld => ?_)
      · exact ⟨n_1, b_1⟩
      clear hK K
      (try simp only [Act.put, List.setIfInBounds_toArray, List.set_cons_zero, List.set_cons_succ])
      refine wpAnyH_ready (rs := [7, 8, 9]) (by kernel_rfl) (by simp) ?_
      refine AllReadyH.cons (o := ⟨some 20, _, _, _, _, _⟩) rfl (fun K hK => ?_) (AllReadyH.cons (o := ⟨some 8, _, _, _, _, _⟩) rfl (fun K hK => ?_) (AllReadyH.cons (o := ⟨some 9, _, _, _, _, _⟩) rfl (fun K hK => ?_) (AllReadyH.nil)))
      · go_simp
        refine (C2.out _ bel_1).mono ?_
        rintro e W2 ⟨rfl, hb_2⟩
        have n_2 := n_1.after hb_2
        have b_2 := b_1.after hb_2
        have s6_2 := s6_1.after hb_2
        have s7_2 := s7_1.after hb_2
        have bel_2 := bel_1.trans (hb_2.mono bel_1.size)
        have sz_2 := hb_2.size
        clear hHeld
        refine hK.out _ _ ?_ (fun hHeld => ?_)
        · exact ⟨n_2, b_2⟩
        clear hK K
        (try simp only [Act.put, List.setIfInBounds_toArray, List.set_cons_zero, List.set_cons_succ])
        refine wpAnyH_ready (rs := [8, 9]) (by kernel_rfl) (by simp) ?_
        refine AllReadyH.cons (o := ⟨some 8, _, _, _, _, _⟩) rfl (fun K hK => ?_) (AllReadyH.cons (o := ⟨some 9, _, _, _, _, _⟩) rfl (fun K hK => ?_) (AllReadyH.nil))
        · refine step_alloc (by rfl) 154 (by rfl) Z ZE.out ?_
          intro W3 hl_3
          have hb_3 := hl_3.bel
          have n_3 := n_2.after hb_3
          have b_3 := b_2.after hb_3
          have s6_3 := s6_2.after hb_3
          have s7_3 := s7_2.after hb_3
          have p8_3 := hl_3.row
          have bel_3 := bel_2.trans (hb_3.mono bel_2.size)
          have sz_3 : W2.heap.size < W3.heap.size := by rw [hl_3.size]; omega
          clear hHeld
          refine hK.out _ _ ?_ (fun hHeld => ?_)
          · exact ⟨n_3, b_3⟩
          clear hK K
          (try simp only [Act.put, List.setIfInBounds_toArray, List.set_cons_zero, List.set_cons_succ])
          refine wpAnyH_ready (rs := [9]) (by kernel_rfl) (by simp) ?_
          refine AllReadyH.cons (o := ⟨some 9, _, _, _, _, _⟩) rfl (fun K hK => ?_) (AllReadyH.nil)
          refine step_alloc (by rfl) 154 (by rfl) Z ZE.out ?_
          intro W4 hl_4
          have hb_4 := hl_4.bel
          have n_4 := n_3.after hb_4
          have b_4 := b_3.after hb_4
          have s6_4 := s6_3.after hb_4
          have s7_4 := s7_3.after hb_4
          have p8_4 := p8_3.after hb_4
          have p9_4 := hl_4.row
          have bel_4 := bel_3.trans (hb_4.mono bel_3.size)
          have sz_4 : W3.heap.size < W4.heap.size := by rw [hl_4.size]; omega
          clear hHeld
          refine hK.out _ _ ?_ (fun hHeld => ?_)
          · exact ⟨n_4, b_4⟩
          clear hK K
          (try simp only [Act.put, List.setIfInBounds_toArray, List.set_cons_zero, List.set_cons_succ])
          refine wpAnyH_ready (rs := [10]) (by kernel_rfl) (by simp) ?_
          refine AllReadyH.cons (o := ⟨none, _, _, _, _, _⟩) rfl (fun K hK => ?_) (AllReadyH.nil)
          refine step_store (by rfl) 154 _ _ (by rfl) (W2.heap.size) R0 (by rfl) (by rfl) 154 Z p8_4 iR0.out zR0.out oR0.out ?_
          intro W5 hu_5
          have n_5 := hu_5.blk n_4 (by have q0 := n_0.lt; have q1 := b_0.lt; have q2 := s6_0.lt; have q3 := s7_0.lt; omega)
          have b_5 := hu_5.blk b_4 (by have q0 := n_0.lt; have q1 := b_0.lt; have q2 := s6_0.lt; have q3 := s7_0.lt; omega)
          have s6_5 := hu_5.blk s6_4 (by have q0 := n_0.lt; have q1 := b_0.lt; have q2 := s6_0.lt; have q3 := s7_0.lt; omega)
          have s7_5 := hu_5.blk s7_4 (by have q0 := n_0.lt; have q1 := b_0.lt; have q2 := s6_0.lt; have q3 := s7_0.lt; omega)
          have p9_5 := hu_5.blk p9_4 (by have q0 := n_0.lt; have q1 := b_0.lt; have q2 := s6_0.lt; have q3 := s7_0.lt; omega)
          have p8_5 := hu_5.row
          have bel_5 := bel_4.trans (hu_5.below (by have q0 := n_0.lt; omega))
          clear hHeld
          refine hK.out _ _ ?_ (fun hHeld => ?_)
          · exact ⟨n_5, b_5⟩
          clear hK K
          (try simp only [Act.put, List.setIfInBounds_toArray, List.set_cons_zero, List.set_cons_succ])
          refine wpAnyH_ready (rs := [11]) (by kernel_rfl) (by simp) ?_
          refine AllReadyH.cons (o := ⟨none, _, _, _, _, _⟩) rfl (fun K hK => ?_) (AllReadyH.nil)
          refine step_store (by rfl) 154 _ _ (by rfl) (W3.heap.size) R1 (by rfl) (by rfl) 154 Z p9_5 iR1.out zR1.out oR1.out ?_
          intro W6 hu_6
          have n_6 := hu_6.blk n_5 (by have q0 := n_0.lt; have q1 := b_0.lt; have q2 := s6_0.lt; have q3 := s7_0.lt; omega)
          have b_6 := hu_6.blk b_5 (by have q0 := n_0.lt; have q1 := b_0.lt; have q2 := s6_0.lt; have q3 := s7_0.lt; omega)
          have s6_6 := hu_6.blk s6_5 (by have q0 := n_0.lt; have q1 := b_0.lt; have q2 := s6_0.lt; have q3 := s7_0.lt; omega)
          have s7_6 := hu_6.blk s7_5 (by have q0 := n_0.lt; have q1 := b_0.lt; have q2 := s6_0.lt; have q3 := s7_0.lt; omega)
          have p8_6 := hu_6.blk p8_5 (by have q0 := n_0.lt; have q1 := b_0.lt; have q2 := s6_0.lt; have q3 := s7_0.lt; omega)
          have p9_6 := hu_6.row
          have bel_6 := bel_5.trans (hu_6.below (by have q0 := n_0.lt; omega))
          clear hHeld
          refine hK.out _ _ ?_ (fun hHeld => ?_)
          · exact ⟨n_6, b_6⟩
          clear hK K
          (try simp only [Act.put, List.setIfInBounds_toArray, List.set_cons_zero, List.set_cons_succ])
          refine wpAnyH_done (by kernel_rfl) ?_ _
          refine NoPanic.normal ?_
          go_wp2_with fail
          go_meet
          exact ⟨W2.heap.size, W3.heap.size, rfl, rfl, by have q0 := n_0.lt; have q1 := b_0.lt; have q2 := s6_0.lt; have q3 := s7_0.lt; omega, by omega, by have q0 := n_0.lt; have q3 := s7_0.lt; omega, p8_6, p9_6, s6_6, s7_6, bel_6⟩
        · refine step_alloc (by rfl) 154 (by rfl) Z ZE.out ?_
          intro W3 hl_3
          have hb_3 := hl_3.bel
          have n_3 := n_2.after hb_3
          have b_3 := b_2.after hb_3
          have s6_3 := s6_2.after hb_3
          have s7_3 := s7_2.after hb_3
          have p9_3 := hl_3.row
          have bel_3 := bel_2.trans (hb_3.mono bel_2.size)
          have sz_3 : W2.heap.size < W3.heap.size := by rw [hl_3.size]; omega
          clear hHeld
          refine hK.out _ _ ?_ (fun hHeld => ?_)
          · exact ⟨n_3, b_3⟩
          clear hK K
          (try simp only [Act.put, List.setIfInBounds_toArray, List.set_cons_zero, List.set_cons_succ])
          refine wpAnyH_ready (rs := [8]) (by kernel_rfl) (by simp) ?_
          refine AllReadyH.cons (o := ⟨some 8, _, _, _, _, _⟩) rfl (fun K hK => ?_) (AllReadyH.nil)
          refine step_alloc (by rfl) 154 (by rfl) Z ZE.out ?_
          intro W4 hl_4
          have hb_4 := hl_4.bel
          have n_4 := n_3.after hb_4
          have b_4 := b_3.after hb_4
          have s6_4 := s6_3.after hb_4
          have s7_4 := s7_3.after hb_4
          have p9_4 := p9_3.after hb_4
          have p8_4 := hl_4.row
          have bel_4 := bel_3.trans (hb_4.mono bel_3.size)
          have sz_4 : W3.heap.size < W4.heap.size := by rw [hl_4.size]; omega
          clear hHeld
          refine hK.out _ _ ?_ (fun hHeld => ?_)
          · exact ⟨n_4, b_4⟩
          clear hK K
          (try simp only [Act.put, List.setIfInBounds_toArray, List.set_cons_zero, List.set_cons_succ])
          refine wpAnyH_ready (rs := [10]) (by kernel_rfl) (by simp) ?_
          refine AllReadyH.cons (o := ⟨none, _, _, _, _, _⟩) rfl (fun K hK => ?_) (AllReadyH.nil)
          refine step_store (by rfl) 154 _ _ (by rfl) (W3.heap.size) R0 (by rfl) (by rfl) 154 Z p8_4 iR0.out zR0.out oR0.out ?_
          intro W5 hu_5
          have n_5 := hu_5.blk n_4 (by have q0 := n_0.lt; have q1 := b_0.lt; have q2 := s6_0.lt; have q3 := s7_0.lt; omega)
          have b_5 := hu_5.blk b_4 (by have q0 := n_0.lt; have q1 := b_0.lt; have q2 := s6_0.lt; have q3 := s7_0.lt; omega)
          have s6_5 := hu_5.blk s6_4 (by have q0 := n_0.lt; have q1 := b_0.lt; have q2 := s6_0.lt; have q3 := s7_0.lt; omega)
          have s7_5 := hu_5.blk s7_4 (by have q0 := n_0.lt; have q1 := b_0.lt; have q2 := s6_0.lt; have q3 := s7_0.lt; omega)
          have p9_5 := hu_5.blk p9_4 (by have q0 := n_0.lt; have q1 := b_0.lt; have q2 := s6_0.lt; have q3 := s7_0.lt; omega)
          have p8_5 := hu_5.row
          have bel_5 := bel_4.trans (hu_5.below (by have q0 := n_0.lt; omega))
          clear hHeld
          refine hK.out _ _ ?_ (fun hHeld => ?_)
          · exact ⟨n_5, b_5⟩
          clear hK K
          (try simp only [Act.put, List.setIfInBounds_toArray, List.set_cons_zero, List.set_cons_succ])
          refine wpAnyH_ready (rs := [11]) (by kernel_rfl) (by simp) ?_
          refine AllReadyH.cons (o := ⟨none, _, _, _, _, _⟩) rfl (fun K hK => ?_) (AllReadyH.nil)
          refine step_store (by rfl) 154 _ _ (by rfl) (W2.heap.size) R1 (by rfl) (by rfl) 154 Z p9_5 iR1.out zR1.out oR1.out ?_
          intro W6 hu_6
          have n_6 := hu_6.blk n_5 (by have q0 := n_0.lt; have q1 := b_0.lt; have q2 := s6_0.lt; have q3 := s7_0.lt; omega)
          have b_6 := hu_6.blk b_5 (by have q0 := n_0.lt; have q1 := b_0.lt; have q2 := s6_0.lt; have q3 := s7_0.lt; omega)
          have s6_6 := hu_6.blk s6_5 (by have q0 := n_0.lt; have q1 := b_0.lt; have q2 := s6_0.lt; have q3 := s7_0.lt; omega)
          have s7_6 := hu_6.blk s7_5 (by have q0 := n_0.lt; have q1 := b_0.lt; have q2 := s6_0.lt; have q3 := s7_0.lt; omega)
          have p8_6 := hu_6.blk p8_5 (by have q0 := n_0.lt; have q1 := b_0.lt; have q2 := s6_0.lt; have q3 := s7_0.lt; omega)
          have p9_6 := hu_6.row
          have bel_6 := bel_5.trans (hu_6.below (by have q0 := n_0.lt; omega))
          clear hHeld
          refine hK.out _ _ ?_ (fun hHeld => ?_)
          · exact ⟨n_6, b_6⟩
          clear hK K
          (try simp only [Act.put, List.setIfInBounds_toArray, List.set_cons_zero, List.set_cons_succ])
          refine wpAnyH_done (by kernel_rfl) ?_ _
          refine NoPanic.normal ?_
          go_wp2_with fail
          go_meet
          exact ⟨W3.heap.size, W2.heap.size, rfl, rfl, by have q0 := n_0.lt; have q1 := b_0.lt; have q2 := s6_0.lt; have q3 := s7_0.lt; omega, by omega, by have q0 := n_0.lt; have q3 := s7_0.lt; omega, p8_6, p9_6, s6_6, s7_6, bel_6⟩
      · refine step_alloc (by rfl) 154 (by rfl) Z ZE.out ?_
        intro W2 hl_2
        have hb_2 := hl_2.bel
        have n_2 := n_1.after hb_2
        have b_2 := b_1.after hb_2
        have s6_2 := s6_1.after hb_2
        have s7_2 := s7_1.after hb_2
        have p8_2 := hl_2.row
        have bel_2 := bel_1.trans (hb_2.mono bel_1.size)
        have sz_2 : W1.heap.size < W2.heap.size := by rw [hl_2.size]; omega
        clear hHeld
        refine hK.out _ _ ?_ (fun hHeld => ?_)
        · exact ⟨n_2, b_2⟩
        clear hK K
        (try simp only [Act.put, List.setIfInBounds_toArray, List.set_cons_zero, List.set_cons_succ])
        refine wpAnyH_ready (rs := [7, 9]) (by kernel_rfl) (by simp) ?_
        refine AllReadyH.cons (o := ⟨some 20, _, _, _, _, _⟩) rfl (fun K hK => ?_) (AllReadyH.cons (o := ⟨some 9, _, _, _, _, _⟩) rfl (fun K hK => ?_) (AllReadyH.nil))
        · go_simp
          refine (C2.out _ bel_2).mono ?_
          rintro e W3 ⟨rfl, hb_3⟩
          have n_3 := n_2.after hb_3
          have b_3 := b_2.after hb_3
          have s6_3 := s6_2.after hb_3
          have s7_3 := s7_2.after hb_3
          have p8_3 := p8_2.after hb_3
          have bel_3 := bel_2.trans (hb_3.mono bel_2.size)
          have sz_3 := hb_3.size
          clear hHeld
          refine hK.out _ _ ?_ (fun hHeld => ?_)
          · exact ⟨n_3, b_3⟩
          clear hK K
          (try simp only [Act.put, List.setIfInBounds_toArray, List.set_cons_zero, List.set_cons_succ])
          refine wpAnyH_ready (rs := [9]) (by kernel_rfl) (by simp) ?_
          refine AllReadyH.cons (o := ⟨some 9, _, _, _, _, _⟩) rfl (fun K hK => ?_) (AllReadyH.nil)
          refine step_alloc (by rfl) 154 (by rfl) Z ZE.out ?_
          intro W4 hl_4
          have hb_4 := hl_4.bel
          have n_4 := n_3.after hb_4
          have b_4 := b_3.after hb_4
          have s6_4 := s6_3.after hb_4
          have s7_4 := s7_3.after hb_4
          have p8_4 := p8_3.after hb_4
          have p9_4 := hl_4.row
          have bel_4 := bel_3.trans (hb_4.mono bel_3.size)
          have sz_4 : W3.heap.size < W4.heap.size := by rw [hl_4.size]; omega
          clear hHeld
          refine hK.out _ _ ?_ (fun hHeld => ?_)
          · exact ⟨n_4, b_4⟩
          clear hK K
          (try simp only [Act.put, List.setIfInBounds_toArray, List.set_cons_zero, List.set_cons_succ])
          refine wpAnyH_ready (rs := [10]) (by kernel_rfl) (by simp) ?_
          refine AllReadyH.cons (o := ⟨none, _, _, _, _, _⟩) rfl (fun K hK => ?_) (AllReadyH.nil)
          refine step_store (by rfl) 154 _ _ (by rfl) (W1.heap.size) R0 (by rfl) (by rfl) 154 Z p8_4 iR0.out zR0.out oR0.out ?_
          intro W5 hu_5
          have n_5 := hu_5.blk n_4 (by have q0 := n_0.lt; have q1 := b_0.lt; have q2 := s6_0.lt; have q3 := s7_0.lt; omega)
          have b_5 := hu_5.blk b_4 (by have q0 := n_0.lt; have q1 := b_0.lt; have q2 := s6_0.lt; have q3 := s7_0.lt; omega)
          have s6_5 := hu_5.blk s6_4 (by have q0 := n_0.lt; have q1 := b_0.lt; have q2 := s6_0.lt; have q3 := s7_0.lt; omega)
          have s7_5 := hu_5.blk s7_4 (by have q0 := n_0.lt; have q1 := b_0.lt; have q2 := s6_0.lt; have q3 := s7_0.lt; omega)
          have p9_5 := hu_5.blk p9_4 (by have q0 := n_0.lt; have q1 := b_0.lt; have q2 := s6_0.lt; have q3 := s7_0.lt; omega)
          have p8_5 := hu_5.row
          have bel_5 := bel_4.trans (hu_5.below (by have q0 := n_0.lt; omega))
          clear hHeld
          refine hK.out _ _ ?_ (fun hHeld => ?_)
          · exact ⟨n_5, b_5⟩
          clear hK K
          (try simp only [Act.put, List.setIfInBounds_toArray, List.set_cons_zero, List.set_cons_succ])
          refine wpAnyH_ready (rs := [11]) (by kernel_rfl) (by simp) ?_
          refine AllReadyH.cons (o := ⟨none, _, _, _, _, _⟩) rfl (fun K hK => ?_) (AllReadyH.nil)
          refine step_store (by rfl) 154 _ _ (by rfl) (W3.heap.size) R1 (by rfl) (by rfl) 154 Z p9_5 iR1.out zR1.out oR1.out ?_
          intro W6 hu_6
          have n_6 := hu_6.blk n_5 (by have q0 := n_0.lt; have q1 := b_0.lt; have q2 := s6_0.lt; have q3 := s7_0.lt; omega)
          have b_6 := hu_6.blk b_5 (by have q0 := n_0.lt; have q1 := b_0.lt; have q2 := s6_0.lt; have q3 := s7_0.lt; omega)
          have s6_6 := hu_6.blk s6_5 (by have q0 := n_0.lt; have q1 := b_0.lt; have q2 := s6_0.lt; have q3 := s7_0.lt; omega)
          have s7_6 := hu_6.blk s7_5 (by have q0 := n_0.lt; have q1 := b_0.lt; have q2 := s6_0.lt; have q3 := s7_0.lt; omega)
          have p8_6 := hu_6.blk p8_5 (by have q0 := n_0.lt; have q1 := b_0.lt; have q2 := s6_0.lt; have q3 := s7_0.lt; omega)
          have p9_6 := hu_6.row
          have bel_6 := bel_5.trans (hu_6.below (by have q0 := n_0.lt; omega))
          clear hHeld
          refine hK.out _ _ ?_ (fun hHeld => ?_)
          · exact ⟨n_6, b_6⟩
          clear hK K
          (try simp only [Act.put, List.setIfInBounds_toArray, List.set_cons_zero, List.set_cons_succ])
          refine wpAnyH_done (by kernel_rfl) ?_ _
          refine NoPanic.normal ?_
          go_wp2_with fail
          go_meet
          exact ⟨W1.heap.size, W3.heap.size, rfl, rfl, by have q0 := n_0.lt; have q1 := b_0.lt; have q2 := s6_0.lt; have q3 := s7_0.lt; omega, by omega, by have q0 := n_0.lt; have q3 := s7_0.lt; omega, p8_6, p9_6, s6_6, s7_6, bel_6⟩
        · refine step_alloc (by rfl) 154 (by rfl) Z ZE.out ?_
          intro W3 hl_3
          have hb_3 := hl_3.bel
          have n_3 := n_2.after hb_3
          have b_3 := b_2.after hb_3
          have s6_3 := s6_2.after hb_3
          have s7_3 := s7_2.after hb_3
          have p8_3 := p8_2.after hb_3
          have p9_3 := hl_3.row
          have bel_3 := bel_2.trans (hb_3.mono bel_2.size)
          have sz_3 : W2.heap.size < W3.heap.size := by rw [hl_3.size]; omega
          clear hHeld
          refine hK.out _ _ ?_ (fun hHeld => ?_)
          · exact ⟨n_3, b_3⟩
          clear hK K
          (try simp only [Act.put, List.setIfInBounds_toArray, List.set_cons_zero, List.set_cons_succ])
          refine wpAnyH_ready (rs := [7]) (by kernel_rfl) (by simp) ?_
          refine AllReadyH.cons (o := ⟨some 20, _, _, _, _, _⟩) rfl (fun K hK => ?_) (AllReadyH.nil)
          go_simp
          refine (C2.out _ bel_3).mono ?_
          rintro e W4 ⟨rfl, hb_4⟩
          have n_4 := n_3.after hb_4
          have b_4 := b_3.after hb_4
          have s6_4 := s6_3.after hb_4
          have s7_4 := s7_3.after hb_4
          have p8_4 := p8_3.after hb_4
          have p9_4 := p9_3.after hb_4
          have bel_4 := bel_3.trans (hb_4.mono bel_3.size)
          have sz_4 := hb_4.size
          clear hHeld
          refine hK.out _ _ ?_ (fun hHeld => ?_)
          · exact ⟨n_4, b_4⟩
          clear hK K
          (try simp only [Act.put, List.setIfInBounds_toArray, List.set_cons_zero, List.set_cons_succ])
          refine wpAnyH_ready (rs := [10]) (by kernel_rfl) (by simp) ?_
          refine AllReadyH.cons (o := ⟨none, _, _, _, _, _⟩) rfl (fun K hK => ?_) (AllReadyH.nil)
          refine step_store (by rfl) 154 _ _ (by rfl) (W1.heap.size) R0 (by rfl) (by rfl) 154 Z p8_4 iR0.out zR0.out oR0.out ?_
          intro W5 hu_5
          have n_5 := hu_5.blk n_4 (by have q0 := n_0.lt; have q1 := b_0.lt; have q2 := s6_0.lt; have q3 := s7_0.lt; omega)
          have b_5 := hu_5.blk b_4 (by have q0 := n_0.lt; have q1 := b_0.lt; have q2 := s6_0.lt; have q3 := s7_0.lt; omega)
          have s6_5 := hu_5.blk s6_4 (by have q0 := n_0.lt; have q1 := b_0.lt; have q2 := s6_0.lt; have q3 := s7_0.lt; omega)
          have s7_5 := hu_5.blk s7_4 (by have q0 := n_0.lt; have q1 := b_0.lt; have q2 := s6_0.lt; have q3 := s7_0.lt; omega)
          have p9_5 := hu_5.blk p9_4 (by have q0 := n_0.lt; have q1 := b_0.lt; have q2 := s6_0.lt; have q3 := s7_0.lt; omega)
          have p8_5 := hu_5.row
          have bel_5 := bel_4.trans (hu_5.below (by have q0 := n_0.lt; omega))
          clear hHeld
          refine hK.out _ _ ?_ (fun hHeld => ?_)
          · exact ⟨n_5, b_5⟩
          clear hK K
          (try simp only [Act.put, List.setIfInBounds_toArray, List.set_cons_zero, List.set_cons_succ])
          refine wpAnyH_ready (rs := [11]) (by kernel_rfl) (by simp) ?_
          refine AllReadyH.cons (o := ⟨none, _, _, _, _, _⟩) rfl (fun K hK => ?_) (AllReadyH.nil)
          refine step_store (by rfl) 154 _ _ (by rfl) (W2.heap.size) R1 (by rfl) (by rfl) 154 Z p9_5 iR1.out zR1.out oR1.out ?_
          intro W6 hu_6
          have n_6 := hu_6.blk n_5 (by have q0 := n_0.lt; have q1 := b_0.lt; have q2 := s6_0.lt; have q3 := s7_0.lt; omega)
          have b_6 := hu_6.blk b_5 (by have q0 := n_0.lt; have q1 := b_0.lt; have q2 := s6_0.lt; have q3 := s7_0.lt; omega)
          have s6_6 := hu_6.blk s6_5 (by have q0 := n_0.lt; have q1 := b_0.lt; have q2 := s6_0.lt; have q3 := s7_0.lt; omega)
          have s7_6 := hu_6.blk s7_5 (by have q0 := n_0.lt; have q1 := b_0.lt; have q2 := s6_0.lt; have q3 := s7_0.lt; omega)
          have p8_6 := hu_6.blk p8_5 (by have q0 := n_0.lt; have q1 := b_0.lt; have q2 := s6_0.lt; have q3 := s7_0.lt; omega)
          have p9_6 := hu_6.row
          have bel_6 := bel_5.trans (hu_6.below (by have q0 := n_0.lt; omega))
          clear hHeld
          refine hK.out _ _ ?_ (fun hHeld => ?_)
          · exact ⟨n_6, b_6⟩
          clear hK K
          (try simp only [Act.put, List.setIfInBounds_toArray, List.set_cons_zero, List.set_cons_succ])
          refine wpAnyH_done (by kernel_rfl) ?_ _
          refine NoPanic.normal ?_
          go_wp2_with fail
          go_meet
          exact ⟨W1.heap.size, W2.heap.size, rfl, rfl, by have q0 := n_0.lt; have q1 := b_0.lt; have q2 := s6_0.lt; have q3 := s7_0.lt; omega, by omega, by have q0 := n_0.lt; have q3 := s7_0.lt; omega, p8_6, p9_6, s6_6, s7_6, bel_6⟩
      · refine step_alloc (by rfl) 154 (by rfl) Z ZE.out ?_
        intro W2 hl_2
        have hb_2 := hl_2.bel
        have n_2 := n_1.after hb_2
        have b_2 := b_1.after hb_2
        have s6_2 := s6_1.after hb_2
        have s7_2 := s7_1.after hb_2
        have p9_2 := hl_2.row
        have bel_2 := bel_1.trans (hb_2.mono bel_1.size)
        have sz_2 : W1.heap.size < W2.heap.size := by rw [hl_2.size]; omega
        clear hHeld
        refine hK.out _ _ ?_ (fun hHeld => ?_)
        · exact ⟨n_2, b_2⟩
        clear hK K
        (try simp only [Act.put, List.setIfInBounds_toArray, List.set_cons_zero, List.set_cons_succ])
        refine wpAnyH_ready (rs := [7, 8]) (by kernel_rfl) (by simp) ?_
        refine AllReadyH.cons (o := ⟨some 20, _, _, _, _, _⟩) rfl (fun K hK => ?_) (AllReadyH.cons (o := ⟨some 8, _, _, _, _, _⟩) rfl (fun K hK => ?_) (AllReadyH.nil))
        · go_simp
          refine (C2.out _ bel_2).mono ?_
          rintro e W3 ⟨rfl, hb_3⟩
          have n_3 := n_2.after hb_3
          have b_3 := b_2.after hb_3
          have s6_3 := s6_2.after hb_3
          have s7_3 := s7_2.after hb_3
          have p9_3 := p9_2.after hb_3
          have bel_3 := bel_2.trans (hb_3.mono bel_2.size)
          have sz_3 := hb_3.size
          clear hHeld
          refine hK.out _ _ ?_ (fun hHeld => ?_)
          · exact ⟨n_3, b_3⟩
          clear hK K
          (try simp only [Act.put, List.setIfInBounds_toArray, List.set_cons_zero, List.set_cons_succ])
          refine wpAnyH_ready (rs := [8]) (by kernel_rfl) (by simp) ?_
          refine AllReadyH.cons (o := ⟨some 8, _, _, _, _, _⟩) rfl (fun K hK => ?_) (AllReadyH.nil)
          refine step_alloc (by rfl) 154 (by rfl) Z ZE.out ?_
          intro W4 hl_4
          have hb_4 := hl_4.bel
          have n_4 := n_3.after hb_4
          have b_4 := b_3.after hb_4
          have s6_4 := s6_3.after hb_4
          have s7_4 := s7_3.after hb_4
          have p9_4 := p9_3.after hb_4
          have p8_4 := hl_4.row
          have bel_4 := bel_3.trans (hb_4.mono bel_3.size)
          have sz_4 : W3.heap.size < W4.heap.size := by rw [hl_4.size]; omega
          clear hHeld
          refine hK.out _ _ ?_ (fun hHeld => ?_)
          · exact ⟨n_4, b_4⟩
          clear hK K
          (try simp only [Act.put, List.setIfInBounds_toArray, List.set_cons_zero, List.set_cons_succ])
          refine wpAnyH_ready (rs := [10]) (by kernel_rfl) (by simp) ?_
          refine AllReadyH.cons (o := ⟨none, _, _, _, _, _⟩) rfl (fun K hK => ?_) (AllReadyH.nil)
          refine step_store (by rfl) 154 _ _ (by rfl) (W3.heap.size) R0 (by rfl) (by rfl) 154 Z p8_4 iR0.out zR0.out oR0.out ?_
          intro W5 hu_5
          have n_5 := hu_5.blk n_4 (by have q0 := n_0.lt; have q1 := b_0.lt; have q2 := s6_0.lt; have q3 := s7_0.lt; omega)
          have b_5 := hu_5.blk b_4 (by have q0 := n_0.lt; have q1 := b_0.lt; have q2 := s6_0.lt; have q3 := s7_0.lt; omega)
          have s6_5 := hu_5.blk s6_4 (by have q0 := n_0.lt; have q1 := b_0.lt; have q2 := s6_0.lt; have q3 := s7_0.lt; omega)
          have s7_5 := hu_5.blk s7_4 (by have q0 := n_0.lt; have q1 := b_0.lt; have q2 := s6_0.lt; have q3 := s7_0.lt; omega)
          have p9_5 := hu_5.blk p9_4 (by have q0 := n_0.lt; have q1 := b_0.lt; have q2 := s6_0.lt; have q3 := s7_0.lt; omega)
          have p8_5 := hu_5.row
          have bel_5 := bel_4.trans (hu_5.below (by have q0 := n_0.lt; omega))
          clear hHeld
          refine hK.out _ _ ?_ (fun hHeld => ?_)
          · exact ⟨n_5, b_5⟩
          clear hK K
          (try simp only [Act.put, List.setIfInBounds_toArray, List.set_cons_zero, List.set_cons_succ])
          refine wpAnyH_ready (rs := [11]) (by kernel_rfl) (by simp) ?_
          refine AllReadyH.cons (o := ⟨none, _, _, _, _, _⟩) rfl (fun K hK => ?_) (AllReadyH.nil)
          refine step_store (by rfl) 154 _ _ (by rfl) (W1.heap.size) R1 (by rfl) (by rfl) 154 Z p9_5 iR1.out zR1.out oR1.out ?_
          intro W6 hu_6
          have n_6 := hu_6.blk n_5 (by have q0 := n_0.lt; have q1 := b_0.lt; have q2 := s6_0.lt; have q3 := s7_0.lt; omega)
          have b_6 := hu_6.blk b_5 (by have q0 := n_0.lt; have q1 := b_0.lt; have q2 := s6_0.lt; have q3 := s7_0.lt; omega)
          have s6_6 := hu_6.blk s6_5 (by have q0 := n_0.lt; have q1 := b_0.lt; have q2 := s6_0.lt; have q3 := s7_0.lt; omega)
          have s7_6 := hu_6.blk s7_5 (by have q0 := n_0.lt; have q1 := b_0.lt; have q2 := s6_0.lt; have q3 := s7_0.lt; omega)
          have p8_6 := hu_6.blk p8_5 (by have q0 := n_0.lt; have q1 := b_0.lt; have q2 := s6_0.lt; have q3 := s7_0.lt; omega)
          have p9_6 := hu_6.row
          have bel_6 := bel_5.trans (hu_6.below (by have q0 := n_0.lt; omega))
          clear hHeld
          refine hK.out _ _ ?_ (fun hHeld => ?_)
          · exact ⟨n_6, b_6⟩
          clear hK K
          (try simp only [Act.put, List.setIfInBounds_toArray, List.set_cons_zero, List.set_cons_succ])
          refine wpAnyH_done (by kernel_rfl) ?_ _
          refine NoPanic.normal ?_
          go_wp2_with fail
          go_meet
          exact ⟨W3.heap.size, W1.heap.size, rfl, rfl, by have q0 := n_0.lt; have q1 := b_0.lt; have q2 := s6_0.lt; have q3 := s7_0.lt; omega, by omega, by have q0 := n_0.lt; have q3 := s7_0.lt; omega, p8_6, p9_6, s6_6, s7_6, bel_6⟩
        · refine step_alloc (by rfl) 154 (by rfl) Z ZE.out ?_
          intro W3 hl_3
          have hb_3 := hl_3.bel
          have n_3 := n_2.after hb_3
          have b_3 := b_2.after hb_3
          have s6_3 := s6_2.after hb_3
          have s7_3 := s7_2.after hb_3
          have p9_3 := p9_2.after hb_3
          have p8_3 := hl_3.row
          have bel_3 := bel_2.trans (hb_3.mono bel_2.size)
          have sz_3 : W2.heap.size < W3.heap.size := by rw [hl_3.size]; omega
          clear hHeld
          refine hK.out _ _ ?_ (fun hHeld => ?_)
          · exact ⟨n_3, b_3⟩
          clear hK K
          (try simp only [Act.put, List.setIfInBounds_toArray, List.set_cons_zero, List.set_cons_succ])
          refine wpAnyH_ready (rs := [7]) (by kernel_rfl) (by simp) ?_
          refine AllReadyH.cons (o := ⟨some 20, _, _, _, _, _⟩) rfl (fun K hK => ?_) (AllReadyH.nil)
          go_simp
          refine (C2.out _ bel_3).mono ?_
          rintro e W4 ⟨rfl, hb_4⟩
          have n_4 := n_3.after hb_4
          have b_4 := b_3.after hb_4
          have s6_4 := s6_3.after hb_4
          have s7_4 := s7_3.after hb_4
          have p8_4 := p8_3.after hb_4
          have p9_4 := p9_3.after hb_4
          have bel_4 := bel_3.trans (hb_4.mono bel_3.size)
          have sz_4 := hb_4.size
          clear hHeld
          refine hK.out _ _ ?_ (fun hHeld => ?_)
          · exact ⟨n_4, b_4⟩
          clear hK K
          (try simp only [Act.put, List.setIfInBounds_toArray, List.set_cons_zero, List.set_cons_succ])
          refine wpAnyH_ready (rs := [10]) (by kernel_rfl) (by simp) ?_
          refine AllReadyH.cons (o := ⟨none, _, _, _, _, _⟩) rfl (fun K hK => ?_) (AllReadyH.nil)
          refine step_store (by rfl) 154 _ _ (by rfl) (W2.heap.size) R0 (by rfl) (by rfl) 154 Z p8_4 iR0.out zR0.out oR0.out ?_
          intro W5 hu_5
          have n_5 := hu_5.blk n_4 (by have q0 := n_0.lt; have q1 := b_0.lt; have q2 := s6_0.lt; have q3 := s7_0.lt; omega)
          have b_5 := hu_5.blk b_4 (by have q0 := n_0.lt; have q1 := b_0.lt; have q2 := s6_0.lt; have q3 := s7_0.lt; omega)
          have s6_5 := hu_5.blk s6_4 (by have q0 := n_0.lt; have q1 := b_0.lt; have q2 := s6_0.lt; have q3 := s7_0.lt; omega)
          have s7_5 := hu_5.blk s7_4 (by have q0 := n_0.lt; have q1 := b_0.lt; have q2 := s6_0.lt; have q3 := s7_0.lt; omega)
          have p9_5 := hu_5.blk p9_4 (by have q0 := n_0.lt; have q1 := b_0.lt; have q2 := s6_0.lt; have q3 := s7_0.lt; omega)
          have p8_5 := hu_5.row
          have bel_5 := bel_4.trans (hu_5.below (by have q0 := n_0.lt; omega))
          clear hHeld
          refine hK.out _ _ ?_ (fun hHeld => ?_)
          · exact ⟨n_5, b_5⟩
          clear hK K
          (try simp only [Act.put, List.setIfInBounds_toArray, List.set_cons_zero, List.set_cons_succ])
          refine wpAnyH_ready (rs := [11]) (by kernel_rfl) (by simp) ?_
          refine AllReadyH.cons (o := ⟨none, _, _, _, _, _⟩) rfl (fun K hK => ?_) (AllReadyH.nil)
          refine step_store (by rfl) 154 _ _ (by rfl) (W1.heap.size) R1 (by rfl) (by rfl) 154 Z p9_5 iR1.out zR1.out oR1.out ?_
          intro W6 hu_6
          have n_6 := hu_6.blk n_5 (by have q0 := n_0.lt; have q1 := b_0.lt; have q2 := s6_0.lt; have q3 := s7_0.lt; omega)
          have b_6 := hu_6.blk b_5 (by have q0 := n_0.lt; have q1 := b_0.lt; have q2 := s6_0.lt; have q3 := s7_0.lt; omega)
          have s6_6 := hu_6.blk s6_5 (by have q0 := n_0.lt; have q1 := b_0.lt; have q2 := s6_0.lt; have q3 := s7_0.lt; omega)
          have s7_6 := hu_6.blk s7_5 (by have q0 := n_0.lt; have q1 := b_0.lt; have q2 := s6_0.lt; have q3 := s7_0.lt; omega)
          have p8_6 := hu_6.blk p8_5 (by have q0 := n_0.lt; have q1 := b_0.lt; have q2 := s6_0.lt; have q3 := s7_0.lt; omega)
          have p9_6 := hu_6.row
          have bel_6 := bel_5.trans (hu_6.below (by have q0 := n_0.lt; omega))
          clear hHeld
          refine hK.out _ _ ?_ (fun hHeld => ?_)
          · exact ⟨n_6, b_6⟩
          clear hK K
          (try simp only [Act.put, List.setIfInBounds_toArray, List.set_cons_zero, List.set_cons_succ])
          refine wpAnyH_done (by kernel_rfl) ?_ _
          refine NoPanic.normal ?_
          go_wp2_with fail
          go_meet
          exact ⟨W2.heap.size, W1.heap.size, rfl, rfl, by have q0 := n_0.lt; have q1 := b_0.lt; have q2 := s6_0.lt; have q3 := s7_0.lt; omega, by omega, by have q0 := n_0.lt; have q3 := s7_0.lt; omega, p8_6, p9_6, s6_6, s7_6, bel_6⟩
    · refine step_alloc (by rfl) 154 (by rfl) Z ZE.out ?_
      intro W1 hl_1
      have hb_1 := hl_1.bel
      have n_1 := n_0.after hb_1
      have b_1 := b_0.after hb_1
      have s6_1 := s6_0.after hb_1
      have s7_1 := s7_0.after hb_1
      have p8_1 := hl_1.row
      have bel_1 := bel_0.trans (hb_1.mono bel_0.size)
      have sz_1 : W0.heap.size < W1.heap.size := by rw [hl_1.size]; omega
      clear hHeld
      refine hK.out _ _ ?_ (fun hHeld => ?_)
      · exact ⟨n_1, b_1⟩
      clear hK K
      (try simp only [Act.put, List.setIfInBounds_toArray, List.set_cons_zero, List.set_cons_succ])
      refine wpAnyH_ready (rs := [3, 9]) (by kernel_rfl) (by simp) ?_
      refine AllReadyH.cons (o := ⟨some 16, _, _, _, _, _⟩) rfl (fun K hK => ?_) (AllReadyH.cons (o := ⟨some 9, _, _, _, _, _⟩) rfl (fun K hK => ?_) (AllReadyH.nil))
      · go_simp
        refine (C1.out _ bel_1).mono ?_
        rintro e W2 ⟨rfl, hb_2⟩
        have n_2 := n_1.after hb_2
        have b_2 := b_1.after hb_2
        have s6_2 := s6_1.after hb_2
        have s7_2 := s7_1.after hb_2
        have p8_2 := p8_1.after hb_2
        have bel_2 := bel_1.trans (hb_2.mono bel_1.size)
        have sz_2 := hb_2.size
        clear hHeld
        refine hK.out _ _ ?_ (fun hHeld => ?_)
        · exact ⟨n_2, b_2⟩
        clear hK K
        (try simp only [Act.put, List.setIfInBounds_toArray, List.set_cons_zero, List.set_cons_succ])
        refine wpAnyH_ready (rs := [7, 9]) (by kernel_rfl) (by simp) ?_
        refine AllReadyH.cons (o := ⟨some 20, _, _, _, _, _⟩) rfl (fun K hK => ?_) (AllReadyH.cons (o := ⟨some 9, _, _, _, _, _⟩) rfl (fun K hK => ?_) (AllReadyH.nil))
        · go_simp
          refine (C2.out _ bel_2).mono ?_
          rintro e W3 ⟨rfl, hb_3⟩
          have n_3 := n_2.after hb_3
          have b_3 := b_2.after hb_3
          have s6_3 := s6_2.after hb_3
          have s7_3 := s7_2.after hb_3
          have p8_3 := p8_2.after hb_3
          have bel_3 := bel_2.trans (hb_3.mono bel_2.size)
          have sz_3 := hb_3.size
          clear hHeld
          refine hK.out _ _ ?_ (fun hHeld => ?_)
          · exact ⟨n_3, b_3⟩
          clear hK K
          (try simp only [Act.put, List.setIfInBounds_toArray, List.set_cons_zero, List.set_cons_succ])
          refine wpAnyH_ready (rs := [9]) (by kernel_rfl) (by simp) ?_
          refine AllReadyH.cons (o := ⟨some 9, _, _, _, _, _⟩) rfl (fun K hK => ?_) (AllReadyH.nil)
          refine step_alloc (by rfl) 154 (by rfl) Z ZE.out ?_
          intro W4 hl_4
          have hb_4 := hl_4.bel
          have n_4 := n_3.after hb_4
          have b_4 := b_3.after hb_4
          have s6_4 := s6_3.after hb_4
          have s7_4 := s7_3.after hb_4
          have p8_4 := p8_3.after hb_4
          have p9_4 := hl_4.row
          have bel_4 := bel_3.trans (hb_4.mono bel_3.size)
          have sz_4 : W3.heap.size < W4.heap.size := by rw [hl_4.size]; omega
          clear hHeld
          refine hK.out _ _ ?_ (fun hHeld => ?_)
          · exact ⟨n_4, b_4⟩
          clear hK K
          (try simp only [Act.put, List.setIfInBounds_toArray, List.set_cons_zero, List.set_cons_succ])
          refine wpAnyH_ready (rs := [10]) (by kernel_rfl) (by simp) ?_
          refine AllReadyH.cons (o := ⟨none, _, _, _, _, _⟩) rfl (fun K hK => ?_) (AllReadyH.nil)
          refine step_store (by rfl) 154 _ _ (by rfl) (W0.heap.size) R0 (by rfl) (by rfl) 154 Z p8_4 iR0.out zR0.out oR0.out ?_
          intro W5 hu_5
          have n_5 := hu_5.blk n_4 (by have q0 := n_0.lt; have q1 := b_0.lt; have q2 := s6_0.lt; have q3 := s7_0.lt; omega)
          have b_5 := hu_5.blk b_4 (by have q0 := n_0.lt; have q1 := b_0.lt; have q2 := s6_0.lt; have q3 := s7_0.lt; omega)
          have s6_5 := hu_5.blk s6_4 (by have q0 := n_0.lt; have q1 := b_0.lt; have q2 := s6_0.lt; have q3 := s7_0.lt; omega)
          have s7_5 := hu_5.blk s7_4 (by have q0 := n_0.lt; have q1 := b_0.lt; have q2 := s6_0.lt; have q3 := s7_0.lt; omega)
          have p9_5 := hu_5.blk p9_4 (by have q0 := n_0.lt; have q1 := b_0.lt; have q2 := s6_0.lt; have q3 := s7_0.lt; omega)
          have p8_5 := hu_5.row
          have bel_5 := bel_4.trans (hu_5.below (by have q0 := n_0.lt; omega))
          clear hHeld
          refine hK.out _ _ ?_ (fun hHeld => ?_)
          · exact ⟨n_5, b_5⟩
          clear hK K
          (try simp only [Act.put, List.setIfInBounds_toArray, List.set_cons_zero, List.set_cons_succ])
          refine wpAnyH_ready (rs := [11]) (by kernel_rfl) (by simp) ?_
          refine AllReadyH.cons (o := ⟨none, _, _, _, _, _⟩) rfl (fun K hK => ?_) (AllReadyH.nil)
          refine step_store (by rfl) 154 _ _ (by rfl) (W3.heap.size) R1 (by rfl) (by rfl) 154 Z p9_5 iR1.out zR1.out oR1.out ?_
          intro W6 hu_6
          have n_6 := hu_6.blk n_5 (by have q0 := n_0.lt; have q1 := b_0.lt; have q2 := s6_0.lt; have q3 := s7_0.lt; omega)
          have b_6 := hu_6.blk b_5 (by have q0 := n_0.lt; have q1 := b_0.lt; have q2 := s6_0.lt; have q3 := s7_0.lt; omega)
          have s6_6 := hu_6.blk s6_5 (by have q0 := n_0.lt; have q1 := b_0.lt; have q2 := s6_0.lt; have q3 := s7_0.lt; omega)
          have s7_6 := hu_6.blk s7_5 (by have q0 := n_0.lt; have q1 := b_0.lt; have q2 := s6_0.lt; have q3 := s7_0.lt; omega)
          have p8_6 := hu_6.blk p8_5 (by have q0 := n_0.lt; have q1 := b_0.lt; have q2 := s6_0.lt; have q3 := s7_0.lt; omega)
          have p9_6 := hu_6.row
          have bel_6 := bel_5.trans (hu_6.below (by have q0 := n_0.lt; omega))
          clear hHeld
          refine hK.out _ _ ?_ (fun hHeld => ?_)
          · exact ⟨n_6, b_6⟩
          clear hK K
          (try simp only [Act.put, List.setIfInBounds_toArray, List.set_cons_zero, List.set_cons_succ])
          refine wpAnyH_done (by kernel_rfl) ?_ _
          refine NoPanic.normal ?_
          go_wp2_with fail
          go_meet
          exact ⟨W0.heap.size, W3.heap.size, rfl, rfl, by have q0 := n_0.lt; have q1 := b_0.lt; have q2 := s6_0.lt; have q3 := s7_0.lt; omega, by omega, by have q0 := n_0.lt; have q3 := s7_0.lt; omega, p8_6, p9_6, s6_6, s7_6, bel_6⟩
        · refine step_alloc (by rfl) 154 (by rfl) Z ZE.out ?_
          intro W3 hl_3
          have hb_3 := hl_3.bel
          have n_3 := n_2.after hb_3
          have b_3 := b_2.after hb_3
          have s6_3 := s6_2.after hb_3
          have s7_3 := s7_2.after hb_3
          have p8_3 := p8_2.after hb_3
          have p9_3 := hl_3.row
          have bel_3 := bel_2.trans (hb_3.mono bel_2.size)
          have sz_3 : W2.heap.size < W3.heap.size := by rw [hl_3.size]; omega
          clear hHeld
          refine hK.out _ _ ?_ (fun hHeld => ?_)
          · exact ⟨n_3, b_3⟩
          clear hK K
          (try simp only [Act.put, List.setIfInBounds_toArray, List.set_cons_zero, List.set_cons_succ])
          refine wpAnyH_ready (rs := [7]) (by kernel_rfl) (by simp) ?_
          refine AllReadyH.cons (o := ⟨some 20, _, _, _, _, _⟩) rfl (fun K hK => ?_) (AllReadyH.nil)
          go_simp
          refine (C2.out _ bel_3).mono ?_
          rintro e W4 ⟨rfl, hb_4⟩
          have n_4 := n_3.after hb_4
          have b_4 := b_3.after hb_4
          have s6_4 := s6_3.after hb_4
          have s7_4 := s7_3.after hb_4
          have p8_4 := p8_3.after hb_4
          have p9_4 := p9_3.after hb_4
          have bel_4 := bel_3.trans (hb_4.mono bel_3.size)
          have sz_4 := hb_4.size
          clear hHeld
          refine hK.out _ _ ?_ (fun hHeld => ?_)
          · exact ⟨n_4, b_4⟩
          clear hK K
          (try simp only [Act.put, List.setIfInBounds_toArray, List.set_cons_zero, List.set_cons_succ])
          refine wpAnyH_ready (rs := [10]) (by kernel_rfl) (by simp) ?_
          refine AllReadyH.cons (o := ⟨none, _, _, _, _, _⟩) rfl (fun K hK => ?_) (AllReadyH.nil)
          refine step_store (by rfl) 154 _ _ (by rfl) (W0.heap.size) R0 (by rfl) (by rfl) 154 Z p8_4 iR0.out zR0.out oR0.out ?_
          intro W5 hu_5
          have n_5 := hu_5.blk n_4 (by have q0 := n_0.lt; have q1 := b_0.lt; have q2 := s6_0.lt; have q3 := s7_0.lt; omega)
          have b_5 := hu_5.blk b_4 (by have q0 := n_0.lt; have q1 := b_0.lt; have q2 := s6_0.lt; have q3 := s7_0.lt; omega)
          have s6_5 := hu_5.blk s6_4 (by have q0 := n_0.lt; have q1 := b_0.lt; have q2 := s6_0.lt; have q3 := s7_0.lt; omega)
          have s7_5 := hu_5.blk s7_4 (by have q0 := n_0.lt; have q1 := b_0.lt; have q2 := s6_0.lt; have q3 := s7_0.lt; omega)
          have p9_5 := hu_5.blk p9_4 (by have q0 := n_0.lt; have q1 := b_0.lt; have q2 := s6_0.lt; have q3 := s7_0.lt; omega)
          have p8_5 := hu_5.row
          have bel_5 := bel_4.trans (hu_5.below (by have q0 := n_0.lt; omega))
          clear hHeld
          refine hK.out _ _ ?_ (fun hHeld => ?_)
          · exact ⟨n_5, b_5⟩
          clear hK K
          (try simp only [Act.put, List.setIfInBounds_toArray, List.set_cons_zero, List.set_cons_succ])
          refine wpAnyH_ready (rs := [11]) (by kernel_rfl) (by simp) ?_
          refine AllReadyH.cons (o := ⟨none, _, _, _, _, _⟩) rfl (fun K hK => ?_) (AllReadyH.nil)
          refine step_store (by rfl) 154 _ _ (by rfl) (W2.heap.size) R1 (by rfl) (by rfl) 154 Z p9_5 iR1.out zR1.out oR1.out ?_
          intro W6 hu_6
          have n_6 := hu_6.blk n_5 (by have q0 := n_0.lt; have q1 := b_0.lt; have q2 := s6_0.lt; have q3 := s7_0.lt; omega)
          have b_6 := hu_6.blk b_5 (by have q0 := n_0.lt; have q1 := b_0.lt; have q2 := s6_0.lt; have q3 := s7_0.lt; omega)
          have s6_6 := hu_6.blk s6_5 (by have q0 := n_0.lt; have q1 := b_0.lt; have q2 := s6_0.lt; have q3 := s7_0.lt; omega)
          have s7_6 := hu_6.blk s7_5 (by have q0 := n_0.lt; have q1 := b_0.lt; have q2 := s6_0.lt; have q3 := s7_0.lt; omega)
          have p8_6 := hu_6.blk p8_5 (by have q0 := n_0.lt; have q1 := b_0.lt; have q2 := s6_0.lt; have q3 := s7_0.lt; omega)
          have p9_6 := hu_6.row
          have bel_6 := bel_5.trans (hu_6.below (by have q0 := n_0.lt; omega))
          clear hHeld
          refine hK.out _ _ ?_ (fun hHeld => ?_)
          · exact ⟨n_6, b_6⟩
          clear hK K
          (try simp only [Act.put, List.setIfInBounds_toArray, List.set_cons_zero, List.set_cons_succ])
          refine wpAnyH_done (by kernel_rfl) ?_ _
          refine NoPanic.normal ?_
          go_wp2_with fail
          go_meet
          exact ⟨W0.heap.size, W2.heap.size, rfl, rfl, by have q0 := n_0.lt; have q1 := b_0.lt; have q2 := s6_0.lt; have q3 := s7_0.lt; omega, by omega, by have q0 := n_0.lt; have q3 := s7_0.lt; omega, p8_6, p9_6, s6_6, s7_6, bel_6⟩
      · refine step_alloc (by rfl) 154 (by rfl) Z ZE.out ?_
        intro W2 hl_2
        have hb_2 := hl_2.bel
        have n_2 := n_1.after hb_2
        have b_2 := b_1.after hb_2
        have s6_2 := s6_1.after hb_2
        have s7_2 := s7_1.after hb_2
        have p8_2 := p8_1.after hb_2
        have p9_2 := hl_2.row
        have bel_2 := bel_1.trans (hb_2.mono bel_1.size)
        have sz_2 : W1.heap.size < W2.heap.size := by rw [hl_2.size]; omega
        clear hHeld
        refine hK.out _ _ ?_ (fun hHeld => ?_)
        · exact ⟨n_2, b_2⟩
        clear hK K
        (try simp only [Act.put, List.setIfInBounds_toArray, List.set_cons_zero, List.set_cons_succ])
        refine wpAnyH_ready (rs := [3]) (by kernel_rfl) (by simp) ?_
        refine AllReadyH.cons (o := ⟨some 16, _, _, _, _, _⟩) rfl (fun K hK => ?_) (AllReadyH.nil)
        go_simp
        refine (C1.out _ bel_2).mono ?_
        rintro e W3 ⟨rfl, hb_3⟩
        have n_3 := n_2.after hb_3
        have b_3 := b_2.after hb_3
        have s6_3 := s6_2.after hb_3
        have s7_3 := s7_2.after hb_3
        have p8_3 := p8_2.after hb_3
        have p9_3 := p9_2.after hb_3
        have bel_3 := bel_2.trans (hb_3.mono bel_2.size)
        have sz_3 := hb_3.size
        clear hHeld
        refine hK.out _ _ ?_ (fun hHeld => ?_)
        · exact ⟨n_3, b_3⟩
        clear hK K
        (try simp only [Act.put, List.setIfInBounds_toArray, List.set_cons_zero, List.set_cons_succ])
        refine wpAnyH_ready (rs := [7]) (by kernel_rfl) (by simp) ?_
        refine AllReadyH.cons (o := ⟨some 20, _, _, _, _, _⟩) rfl (fun K hK => ?_) (AllReadyH.nil)
        go_simp
        refine (C2.out _ bel_3).mono ?_
        rintro e W4 ⟨rfl, hb_4⟩
        have n_4 := n_3.after hb_4
        have b_4 := b_3.after hb_4
        have s6_4 := s6_3.after hb_4
        have s7_4 := s7_3.after hb_4
        have p8_4 := p8_3.after hb_4
        have p9_4 := p9_3.after hb_4
        have bel_4 := bel_3.trans (hb_4.mono bel_3.size)
        have sz_4 := hb_4.size
        clear hHeld
        refine hK.out _ _ ?_ (fun hHeld => ?_)
        · exact ⟨n_4, b_4⟩
        clear hK K
        (try simp only [Act.put, List.setIfInBounds_toArray, List.set_cons_zero, List.set_cons_succ])
        refine wpAnyH_ready (rs := [10]) (by kernel_rfl) (by simp) ?_
        refine AllReadyH.cons (o := ⟨none, _, _, _, _, _⟩) rfl (fun K hK => ?_) (AllReadyH.nil)
        refine step_store (by rfl) 154 _ _ (by rfl) (W0.heap.size) R0 (by rfl) (by rfl) 154 Z p8_4 iR0.out zR0.out oR0.out ?_
        intro W5 hu_5
        have n_5 := hu_5.blk n_4 (by have q0 := n_0.lt; have q1 := b_0.lt; have q2 := s6_0.lt; have q3 := s7_0.lt; omega)
        have b_5 := hu_5.blk b_4 (by have q0 := n_0.lt; have q1 := b_0.lt; have q2 := s6_0.lt; have q3 := s7_0.lt; omega)
        have s6_5 := hu_5.blk s6_4 (by have q0 := n_0.lt; have q1 := b_0.lt; have q2 := s6_0.lt; have q3 := s7_0.lt; omega)
        have s7_5 := hu_5.blk s7_4 (by have q0 := n_0.lt; have q1 := b_0.lt; have q2 := s6_0.lt; have q3 := s7_0.lt; omega)
        have p9_5 := hu_5.blk p9_4 (by have q0 := n_0.lt; have q1 := b_0.lt; have q2 := s6_0.lt; have q3 := s7_0.lt; omega)
        have p8_5 := hu_5.row
        have bel_5 := bel_4.trans (hu_5.below (by have q0 := n_0.lt; omega))
        clear hHeld
        refine hK.out _ _ ?_ (fun hHeld => ?_)
        · exact ⟨n_5, b_5⟩
        clear hK K
        (try simp only [Act.put, List.setIfInBounds_toArray, List.set_cons_zero, List.set_cons_succ])
        refine wpAnyH_ready (rs := [11]) (by kernel_rfl) (by simp) ?_
        refine AllReadyH.cons (o := ⟨none, _, _, _, _, _⟩) rfl (fun K hK => ?_) (AllReadyH.nil)
        refine step_store (by rfl) 154 _ _ (by rfl) (W1.heap.size) R1 (by rfl) (by rfl) 154 Z p9_5 iR1.out zR1.out oR1.out ?_
        intro W6 hu_6
        have n_6 := hu_6.blk n_5 (by have q0 := n_0.lt; have q1 := b_0.lt; have q2 := s6_0.lt; have q3 := s7_0.lt; omega)
        have b_6 := hu_6.blk b_5 (by have q0 := n_0.lt; have q1 := b_0.lt; have q2 := s6_0.lt; have q3 := s7_0.lt; omega)
        have s6_6 := hu_6.blk s6_5 (by have q0 := n_0.lt; have q1 := b_0.lt; have q2 := s6_0.lt; have q3 := s7_0.lt; omega)
        have s7_6 := hu_6.blk s7_5 (by have q0 := n_0.lt; have q1 := b_0.lt; have q2 := s6_0.lt; have q3 := s7_0.lt; omega)
        have p8_6 := hu_6.blk p8_5 (by have q0 := n_0.lt; have q1 := b_0.lt; have q2 := s6_0.lt; have q3 := s7_0.lt; omega)
        have p9_6 := hu_6.row
        have bel_6 := bel_5.trans (hu_6.below (by have q0 := n_0.lt; omega))
        clear hHeld
        refine hK.out _ _ ?_ (fun hHeld => ?_)
        · exact ⟨n_6, b_6⟩
        clear hK K
        (try simp only [Act.put, List.setIfInBounds_toArray, List.set_cons_zero, List.set_cons_succ])
        refine wpAnyH_done (by kernel_rfl) ?_ _
        refine NoPanic.normal ?_
        go_wp2_with fail
        go_meet
        exact ⟨W0.heap.size, W1.heap.size, rfl, rfl, by have q0 := n_0.lt; have q1 := b_0.lt; have q2 := s6_0.lt; have q3 := s7_0.lt; omega, by omega, by have q0 := n_0.lt; have q3 := s7_0.lt; omega, p8_6, p9_6, s6_6, s7_6, bel_6⟩
    · refine step_alloc (by rfl) 154 (by rfl) Z ZE.out ?_
      intro W1 hl_1
      have hb_1 := hl_1.bel
      have n_1 := n_0.after hb_1
      have b_1 := b_0.after hb_1
      have s6_1 := s6_0.after hb_1
      have s7_1 := s7_0.after hb_1
      have p9_1 := hl_1.row
      have bel_1 := bel_0.trans (hb_1.mono bel_0.size)
      have sz_1 : W0.heap.size < W1.heap.size := by rw [hl_1.size]; omega
      clear hHeld
      refine hK.out _ _ ?_ (fun hHeld => ?_)
      · exact ⟨n_1, b_1⟩
      clear hK K
      (try simp only [Act.put, List.setIfInBounds_toArray, List.set_cons_zero, List.set_cons_succ])
      refine wpAnyH_ready (rs := [3, 8]) (by kernel_rfl) (by simp) ?_
      refine AllReadyH.cons (o := ⟨some 16, _, _, _, _, _⟩) rfl (fun K hK => ?_) (AllReadyH.cons (o := ⟨some 8, _, _, _, _, _⟩) rfl (fun K hK => ?_) (AllReadyH.nil))
      · go_simp
        refine (C1.out _ bel_1).mono ?_
        rintro e W2 ⟨rfl, hb_2⟩
        have n_2 := n_1.after hb_2
        have b_2 := b_1.after hb_2
        have s6_2 := s6_1.after hb_2
        have s7_2 := s7_1.after hb_2
        have p9_2 := p9_1.after hb_2
        have bel_2 := bel_1.trans (hb_2.mono bel_1.size)
        have sz_2 := hb_2.size
        clear hHeld
        refine hK.out _ _ ?_ (fun hHeld => ?_)
        · exact ⟨n_2, b_2⟩
        clear hK K
        (try simp only [Act.put, List.setIfInBounds_toArray, List.set_cons_zero, List.set_cons_succ])
        refine wpAnyH_ready (rs := [7, 8]) (by kernel_rfl) (by simp) ?_
        refine AllReadyH.cons (o := ⟨some 20, _, _, _, _, _⟩) rfl (fun K hK => ?_) (AllReadyH.cons (o := ⟨some 8, _, _, _, _, _⟩) rfl (fun K hK => ?_) (AllReadyH.nil))
        · go_simp
          refine (C2.out _ bel_2).mono ?_
          rintro e W3 ⟨rfl, hb_3⟩
          have n_3 := n_2.after hb_3
          have b_3 := b_2.after hb_3
          have s6_3 := s6_2.after hb_3
          have s7_3 := s7_2.after hb_3
          have p9_3 := p9_2.after hb_3
          have bel_3 := bel_2.trans (hb_3.mono bel_2.size)
          have sz_3 := hb_3.size
          clear hHeld
          refine hK.out _ _ ?_ (fun hHeld => ?_)
          · exact ⟨n_3, b_3⟩
          clear hK K
          (try simp only [Act.put, List.setIfInBounds_toArray, List.set_cons_zero, List.set_cons_succ])
          refine wpAnyH_ready (rs := [8]) (by kernel_rfl) (by simp) ?_
          refine AllReadyH.cons (o := ⟨some 8, _, _, _, _, _⟩) rfl (fun K hK => ?_) (AllReadyH.nil)
          refine step_alloc (by rfl) 154 (by rfl) Z ZE.out ?_
          intro W4 hl_4
          have hb_4 := hl_4.bel
          have n_4 := n_3.after hb_4
          have b_4 := b_3.after hb_4
          have s6_4 := s6_3.after hb_4
          have s7_4 := s7_3.after hb_4
          have p9_4 := p9_3.after hb_4
          have p8_4 := hl_4.row
          have bel_4 := bel_3.trans (hb_4.mono bel_3.size)
          have sz_4 : W3.heap.size < W4.heap.size := by rw [hl_4.size]; omega
          clear hHeld
          refine hK.out _ _ ?_ (fun hHeld => ?_)
          · exact ⟨n_4, b_4⟩
          clear hK K
          (try simp only [Act.put, List.setIfInBounds_toArray, List.set_cons_zero, List.set_cons_succ])
          refine wpAnyH_ready (rs := [10]) (by kernel_rfl) (by simp) ?_
          refine AllReadyH.cons (o := ⟨none, _, _, _, _, _⟩) rfl (fun K hK => ?_) (AllReadyH.nil)
          refine step_store (by rfl) 154 _ _ (by rfl) (W3.heap.size) R0 (by rfl) (by rfl) 154 Z p8_4 iR0.out zR0.out oR0.out ?_
          intro W5 hu_5
          have n_5 := hu_5.blk n_4 (by have q0 := n_0.lt; have q1 := b_0.lt; have q2 := s6_0.lt; have q3 := s7_0.lt; omega)
          have b_5 := hu_5.blk b_4 (by have q0 := n_0.lt; have q1 := b_0.lt; have q2 := s6_0.lt; have q3 := s7_0.lt; omega)
          have s6_5 := hu_5.blk s6_4 (by have q0 := n_0.lt; have q1 := b_0.lt; have q2 := s6_0.lt; have q3 := s7_0.lt; omega)
          have s7_5 := hu_5.blk s7_4 (by have q0 := n_0.lt; have q1 := b_0.lt; have q2 := s6_0.lt; have q3 := s7_0.lt; omega)
          have p9_5 := hu_5.blk p9_4 (by have q0 := n_0.lt; have q1 := b_0.lt; have q2 := s6_0.lt; have q3 := s7_0.lt; omega)
          have p8_5 := hu_5.row
          have bel_5 := bel_4.trans (hu_5.below (by have q0 := n_0.lt; omega))
          clear hHeld
          refine hK.out _ _ ?_ (fun hHeld => ?_)
          · exact ⟨n_5, b_5⟩
          clear hK K
          (try simp only [Act.put, List.setIfInBounds_toArray, List.set_cons_zero, List.set_cons_succ])
          refine wpAnyH_ready (rs := [11]) (by kernel_rfl) (by simp) ?_
          refine AllReadyH.cons (o := ⟨none, _, _, _, _, _⟩) rfl (fun K hK => ?_) (AllReadyH.nil)
          refine step_store (by rfl) 154 _ _ (by rfl) (W0.heap.size) R1 (by rfl) (by rfl) 154 Z p9_5 iR1.out zR1.out oR1.out ?_
          intro W6 hu_6
          have n_6 := hu_6.blk n_5 (by have q0 := n_0.lt; have q1 := b_0.lt; have q2 := s6_0.lt; have q3 := s7_0.lt; omega)
          have b_6 := hu_6.blk b_5 (by have q0 := n_0.lt; have q1 := b_0.lt; have q2 := s6_0.lt; have q3 := s7_0.lt; omega)
          have s6_6 := hu_6.blk s6_5 (by have q0 := n_0.lt; have q1 := b_0.lt; have q2 := s6_0.lt; have q3 := s7_0.lt; omega)
          have s7_6 := hu_6.blk s7_5 (by have q0 := n_0.lt; have q1 := b_0.lt; have q2 := s6_0.lt; have q3 := s7_0.lt; omega)
          have p8_6 := hu_6.blk p8_5 (by have q0 := n_0.lt; have q1 := b_0.lt; have q2 := s6_0.lt; have q3 := s7_0.lt; omega)
          have p9_6 := hu_6.row
          have bel_6 := bel_5.trans (hu_6.below (by have q0 := n_0.lt; omega))
          clear hHeld
          refine hK.out _ _ ?_ (fun hHeld => ?_)
          · exact ⟨n_6, b_6⟩
          clear hK K
          (try simp only [Act.put, List.setIfInBounds_toArray, List.set_cons_zero, List.set_cons_succ])
          refine wpAnyH_done (by kernel_rfl) ?_ _
          refine NoPanic.normal ?_
          go_wp2_with fail
          go_meet
          exact ⟨W3.heap.size, W0.heap.size, rfl, rfl, by have q0 := n_0.lt; have q1 := b_0.lt; have q2 := s6_0.lt; have q3 := s7_0.lt; omega, by omega, by have q0 := n_0.lt; have q3 := s7_0.lt; omega, p8_6, p9_6, s6_6, s7_6, bel_6⟩
        · refine step_alloc (by rfl) 154 (by rfl) Z ZE.out ?_
          intro W3 hl_3
          have hb_3 := hl_3.bel
          have n_3 := n_2.after hb_3
          have b_3 := b_2.after hb_3
          have s6_3 := s6_2.after hb_3
          have s7_3 := s7_2.after hb_3
          have p9_3 := p9_2.after hb_3
          have p8_3 := hl_3.row
          have bel_3 := bel_2.trans (hb_3.mono bel_2.size)
          have sz_3 : W2.heap.size < W3.heap.size := by rw [hl_3.size]; omega
          clear hHeld
          refine hK.out _ _ ?_ (fun hHeld => ?_)
          · exact ⟨n_3, b_3⟩
          clear hK K
          (try simp only [Act.put, List.setIfInBounds_toArray, List.set_cons_zero, List.set_cons_succ])
          refine wpAnyH_ready (rs := [7]) (by kernel_rfl) (by simp) ?_
          refine AllReadyH.cons (o := ⟨some 20, _, _, _, _, _⟩) rfl (fun K hK => ?_) (AllReadyH.nil)
          go_simp
          refine (C2.out _ bel_3).mono ?_
          rintro e W4 ⟨rfl, hb_4⟩
          have n_4 := n_3.after hb_4
          have b_4 := b_3.after hb_4
          have s6_4 := s6_3.after hb_4
          have s7_4 := s7_3.after hb_4
          have p8_4 := p8_3.after hb_4
          have p9_4 := p9_3.after hb_4
          have bel_4 := bel_3.trans (hb_4.mono bel_3.size)
          have sz_4 := hb_4.size
          clear hHeld
          refine hK.out _ _ ?_ (fun hHeld => ?_)
          · exact ⟨n_4, b_4⟩
          clear hK K
          (try simp only [Act.put, List.setIfInBounds_toArray, List.set_cons_zero, List.set_cons_succ])
          refine wpAnyH_ready (rs := [10]) (by kernel_rfl) (by simp) ?_
          refine AllReadyH.cons (o := ⟨none, _, _, _, _, _⟩) rfl (fun K hK => ?_) (AllReadyH.nil)
          refine step_store (by rfl) 154 _ _ (by rfl) (W2.heap.size) R0 (by rfl) (by rfl) 154 Z p8_4 iR0.out zR0.out oR0.out ?_
          intro W5 hu_5
          have n_5 := hu_5.blk n_4 (by have q0 := n_0.lt; have q1 := b_0.lt; have q2 := s6_0.lt; have q3 := s7_0.lt; omega)
          have b_5 := hu_5.blk b_4 (by have q0 := n_0.lt; have q1 := b_0.lt; have q2 := s6_0.lt; have q3 := s7_0.lt; omega)
          have s6_5 := hu_5.blk s6_4 (by have q0 := n_0.lt; have q1 := b_0.lt; have q2 := s6_0.lt; have q3 := s7_0.lt; omega)
          have s7_5 := hu_5.blk s7_4 (by have q0 := n_0.lt; have q1 := b_0.lt; have q2 := s6_0.lt; have q3 := s7_0.lt; omega)
          have p9_5 := hu_5.blk p9_4 (by have q0 := n_0.lt; have q1 := b_0.lt; have q2 := s6_0.lt; have q3 := s7_0.lt; omega)
          have p8_5 := hu_5.row
          have bel_5 := bel_4.trans (hu_5.below (by have q0 := n_0.lt; omega))
          clear hHeld
          refine hK.out _ _ ?_ (fun hHeld => ?_)
          · exact ⟨n_5, b_5⟩
          clear hK K
          (try simp only [Act.put, List.setIfInBounds_toArray, List.set_cons_zero, List.set_cons_succ])
          refine wpAnyH_ready (rs := [11]) (by kernel_rfl) (by simp) ?_
          refine AllReadyH.cons (o := ⟨none, _, _, _, _, _⟩) rfl (fun K hK => ?_) (AllReadyH.nil)
          refine step_store (by rfl) 154 _ _ (by rfl) (W0.heap.size) R1 (by rfl) (by rfl) 154 Z p9_5 iR1.out zR1.out oR1.out ?_
          intro W6 hu_6
          have n_6 := hu_6.blk n_5 (by have q0 := n_0.lt; have q1 := b_0.lt; have q2 := s6_0.lt; have q3 := s7_0.lt; omega)
          have b_6 := hu_6.blk b_5 (by have q0 := n_0.lt; have q1 := b_0.lt; have q2 := s6_0.lt; have q3 := s7_0.lt; omega)
          have s6_6 := hu_6.blk s6_5 (by have q0 := n_0.lt; have q1 := b_0.lt; have q2 := s6_0.lt; have q3 := s7_0.lt; omega)
          have s7_6 := hu_6.blk s7_5 (by have q0 := n_0.lt; have q1 := b_0.lt; have q2 := s6_0.lt; have q3 := s7_0.lt; omega)
          have p8_6 := hu_6.blk p8_5 (by have q0 := n_0.lt; have q1 := b_0.lt; have q2 := s6_0.lt; have q3 := s7_0.lt; omega)
          have p9_6 := hu_6.row
          have bel_6 := bel_5.trans (hu_6.below (by have q0 := n_0.lt; omega))
          clear hHeld
          refine hK.out _ _ ?_ (fun hHeld => ?_)
          · exact ⟨n_6, b_6⟩
          clear hK K
          (try simp only [Act.put, List.setIfInBounds_toArray, List.set_cons_zero, List.set_cons_succ])
          refine wpAnyH_done (by kernel_rfl) ?_ _
          refine NoPanic.normal ?_
          go_wp2_with fail
          go_meet
          exact ⟨W2.heap.size, W0.heap.size, rfl, rfl, by have q0 := n_0.lt; have q1 := b_0.lt; have q2 := s6_0.lt; have q3 := s7_0.lt; omega, by omega, by have q0 := n_0.lt; have q3 := s7_0.lt; omega, p8_6, p9_6, s6_6, s7_6, bel_6⟩
      · refine step_alloc (by rfl) 154 (by rfl) Z ZE.out ?_
        intro W2 hl_2
        have hb_2 := hl_2.bel
        have n_2 := n_1.after hb_2
        have b_2 := b_1.after hb_2
        have s6_2 := s6_1.after hb_2
        have s7_2 := s7_1.after hb_2
        have p9_2 := p9_1.after hb_2
        have p8_2 := hl_2.row
        have bel_2 := bel_1.trans (hb_2.mono bel_1.size)
        have sz_2 : W1.heap.size < W2.heap.size := by rw [hl_2.size]; omega
        clear hHeld
        refine hK.out _ _ ?_ (fun hHeld => ?_)
        · exact ⟨n_2, b_2⟩
        clear hK K
        (try simp only [Act.put, List.setIfInBounds_toArray, List.set_cons_zero, List.set_cons_succ])
        refine wpAnyH_ready (rs := [3]) (by kernel_rfl) (by simp) ?_
        refine AllReadyH.cons (o := ⟨some 16, _, _, _, _, _⟩) rfl (fun K hK => ?_) (AllReadyH.nil)
        go_simp
        refine (C1.out _ bel_2).mono ?_
        rintro e W3 ⟨rfl, hb_3⟩
        have n_3 := n_2.after hb_3
        have b_3 := b_2.after hb_3
        have s6_3 := s6_2.after hb_3
        have s7_3 := s7_2.after hb_3
        have p8_3 := p8_2.after hb_3
        have p9_3 := p9_2.after hb_3
        have bel_3 := bel_2.trans (hb_3.mono bel_2.size)
        have sz_3 := hb_3.size
        clear hHeld
        refine hK.out _ _ ?_ (fun hHeld => ?_)
        · exact ⟨n_3, b_3⟩
        clear hK K
        (try simp only [Act.put, List.setIfInBounds_toArray, List.set_cons_zero, List.set_cons_succ])
        refine wpAnyH_ready (rs := [7]) (by kernel_rfl) (by simp) ?_
        refine AllReadyH.cons (o := ⟨some 20, _, _, _, _, _⟩) rfl (fun K hK => ?_) (AllReadyH.nil)
        go_simp
        refine (C2.out _ bel_3).mono ?_
        rintro e W4 ⟨rfl, hb_4⟩
        have n_4 := n_3.after hb_4
        have b_4 := b_3.after hb_4
        have s6_4 := s6_3.after hb_4
        have s7_4 := s7_3.after hb_4
        have p8_4 := p8_3.after hb_4
        have p9_4 := p9_3.after hb_4
        have bel_4 := bel_3.trans (hb_4.mono bel_3.size)
        have sz_4 := hb_4.size
        clear hHeld
        refine hK.out _ _ ?_ (fun hHeld => ?_)
        · exact ⟨n_4, b_4⟩
        clear hK K
        (try simp only [Act.put, List.setIfInBounds_toArray, List.set_cons_zero, List.set_cons_succ])
        refine wpAnyH_ready (rs := [10]) (by kernel_rfl) (by simp) ?_
        refine AllReadyH.cons (o := ⟨none, _, _, _, _, _⟩) rfl (fun K hK => ?_) (AllReadyH.nil)
        refine step_store (by rfl) 154 _ _ (by rfl) (W1.heap.size) R0 (by rfl) (by rfl) 154 Z p8_4 iR0.out zR0.out oR0.out ?_
        intro W5 hu_5
        have n_5 := hu_5.blk n_4 (by have q0 := n_0.lt; have q1 := b_0.lt; have q2 := s6_0.lt; have q3 := s7_0.lt; omega)
        have b_5 := hu_5.blk b_4 (by have q0 := n_0.lt; have q1 := b_0.lt; have q2 := s6_0.lt; have q3 := s7_0.lt; omega)
        have s6_5 := hu_5.blk s6_4 (by have q0 := n_0.lt; have q1 := b_0.lt; have q2 := s6_0.lt; have q3 := s7_0.lt; omega)
        have s7_5 := hu_5.blk s7_4 (by have q0 := n_0.lt; have q1 := b_0.lt; have q2 := s6_0.lt; have q3 := s7_0.lt; omega)
        have p9_5 := hu_5.blk p9_4 (by have q0 := n_0.lt; have q1 := b_0.lt; have q2 := s6_0.lt; have q3 := s7_0.lt; omega)
        have p8_5 := hu_5.row
        have bel_5 := bel_4.trans (hu_5.below (by have q0 := n_0.lt; omega))
        clear hHeld
        refine hK.out _ _ ?_ (fun hHeld => ?_)
        · exact ⟨n_5, b_5⟩
        clear hK K
        (try simp only [Act.put, List.setIfInBounds_toArray, List.set_cons_zero, List.set_cons_succ])
        refine wpAnyH_ready (rs := [11]) (by kernel_rfl) (by simp) ?_
        refine AllReadyH.cons (o := ⟨none, _, _, _, _, _⟩) rfl (fun K hK => ?_) (AllReadyH.nil)
        refine step_store (by rfl) 154 _ _ (by rfl) (W0.heap.size) R1 (by rfl) (by rfl) 154 Z p9_5 iR1.out zR1.out oR1.out ?_
        intro W6 hu_6
        have n_6 := hu_6.blk n_5 (by have q0 := n_0.lt; have q1 := b_0.lt; have q2 := s6_0.lt; have q3 := s7_0.lt; omega)
        have b_6 := hu_6.blk b_5 (by have q0 := n_0.lt; have q1 := b_0.lt; have q2 := s6_0.lt; have q3 := s7_0.lt; omega)
        have s6_6 := hu_6.blk s6_5 (by have q0 := n_0.lt; have q1 := b_0.lt; have q2 := s6_0.lt; have q3 := s7_0.lt; omega)
        have s7_6 := hu_6.blk s7_5 (by have q0 := n_0.lt; have q1 := b_0.lt; have q2 := s6_0.lt; have q3 := s7_0.lt; omega)
        have p8_6 := hu_6.blk p8_5 (by have q0 := n_0.lt; have q1 := b_0.lt; have q2 := s6_0.lt; have q3 := s7_0.lt; omega)
        have p9_6 := hu_6.row
        have bel_6 := bel_5.trans (hu_6.below (by have q0 := n_0.lt; omega))
        clear hHeld
        refine hK.out _ _ ?_ (fun hHeld => ?_)
        · exact ⟨n_6, b_6⟩
        clear hK K
        (try simp only [Act.put, List.setIfInBounds_toArray, List.set_cons_zero, List.set_cons_succ])
        refine wpAnyH_done (by kernel_rfl) ?_ _
        refine NoPanic.normal ?_
        go_wp2_with fail
        go_meet
        exact ⟨W1.heap.size, W0.heap.size, rfl, rfl, by have q0 := n_0.lt; have q1 := b_0.lt; have q2 := s6_0.lt; have q3 := s7_0.lt; omega, by omega, by have q0 := n_0.lt; have q3 := s7_0.lt; omega, p8_6, p9_6, s6_6, s7_6, bel_6⟩
  case rest =>
    obtain ⟨g8, g9, rfl, rfl, h78, h89, h79, r8, r9, s6, s7, belc⟩ := hcut
    clear n0 b0 s60 s70 C1 C2
    generalize hZW : UA (List.replicate 64 0) = ZW at *
    have HZW := Lib.hid hZW
    clear hZW
    go_wp2_with (first | (refine at_alloc rfl 158 rfl ZW ZWE.out ?_; intro w5 h5; have r9' := r9.after h5.bel) | (refine at_load rfl 154 _ rfl g9 rfl 154 R1 _ r9' Tryd.underlying154 rfl iR1.out ?_))
    have c8 := r8.after h5.bel
    have c10 := h5.row
    have s6' := s6.after h5.bel
    have s7' := s7.after h5.bel
    have l9 := r9.lt
    have l8 := r8.lt
    have belr : Below g3 w w5 := (bel.trans (belc.mono hsz4)).trans (h5.bel.mono (Nat.le_trans hsz4 belc.size))
    generalize wc.heap.size = g10 at *
    clear h5 r9' r8 r9 s6 s7 belc
    go_loopw [22] (fun i wr => ∃ k : Nat, k ≤ 64 ∧ i = .int .i64 k ∧ Blk wr g6 154 Z ∧ Blk wr g7 158 ZW ∧ Below g3 w wr ∧ ∃ cs ds : Array Value, Blk wr g8 154 cs ∧ Blk wr g10 158 ds ∧ Hid (cs.size = 64 ∧ ds.size = 64 ∧ (∀ j, j < k → cs[j]? = (IA (chL ns B))[j]? ∧ ds[j]? = (UA (wyL ns B))[j]?) ∧ ∀ j, k ≤ j → cs[j]? = R0[j]? ∧ ds[j]? = ZW[j]?)) (fun i _ => 64 - (intOf i).toNat)
    case atStart =>
      refine ⟨0, by omega, rfl, s6', s7', belr, R0, ZW, c8, c10, ?_, ?_, fun j hj => by omega, fun j _ => ⟨rfl, rfl⟩⟩
      · rw [← HR0.out, IA_size, byL_length]
      · rw [← HZW.out, UA_size, List.length_replicate]
    case round =>
      clear c8 c10 s6' s7' belr
      obtain ⟨k, hk, rfl, s6, s7, belr, cs, ds, c8, c10, HS⟩ := hrel
      have HCH := Lib.hid (fun j hj => chL_get ns B j hj)
      by_cases hlt : k < 64
      · have ia := fun W => run_idx (P := Tryd.prog) (sz := 1) Tryd.underlying154 (by kernel_rfl) g8 0 k hlt .i64 W
        have ib := fun W => run_idx (P := Tryd.prog) (sz := 1) Tryd.underlying158 (by kernel_rfl) g10 0 k hlt .i64 W
        simp only [Nat.zero_add, Nat.one_mul] at ia ib
        have v1 : R1[k]? = some (.int .i64 ((byL ns 1 B).getD k 0)) := by rw [← HR1.out]; exact IA_get _ k (by rw [byL_length]; exact hlt)
        have v0 : cs[k]? = some (.int .i64 ((byL ns 0 B).getD k 0)) := by rw [(HS.out.2.2.2 k (Nat.le_refl _)).1, ← HR0.out]; exact IA_get _ k (by rw [byL_length]; exact hlt)
        have vz : ds[k]? = some (.int .u8 0) := by
          rw [(HS.out.2.2.2 k (Nat.le_refl _)).2, ← HZW.out, UA_get _ k (by rw [List.length_replicate]; exact hlt)]
          rw [Bm.getD_lt _ _ _ (by rw [List.length_replicate]; exact hlt), List.getElem_replicate]
          rfl
        have hix := fun W => run_part (P := Tryd.prog) Tryd.underlying154 Tryd.underlying3 (by kernel_rfl) R1 k hlt _ v1 W
        have hc8 := (c8.cell k).trans v0
        have hc10 := (c10.cell k).trans vz
        have hf8 := c8.froz k
        have hf10 := c10.froz k
        have q1 := HCH.out k hlt
        have q2 := HWY.out k hlt
        have HQ1 := Lib.hid q1
        have HQ2 := Lib.hid q2
        have hg810 : g8 ≠ g10 := by omega
        have fin : ∀ (u v : Value), u = .int .i64 ((chL ns B).getD k 0) → v = .int .u8 (((wyL ns B).getD k 0 : Nat) : Int) → (cs.setIfInBounds k u).size = 64 ∧ (ds.setIfInBounds k v).size = 64 ∧ (∀ j, j < k + 1 → (cs.setIfInBounds k u)[j]? = (IA (chL ns B))[j]? ∧ (ds.setIfInBounds k v)[j]? = (UA (wyL ns B))[j]?) ∧ ∀ j, k + 1 ≤ j → (cs.setIfInBounds k u)[j]? = R0[j]? ∧ (ds.setIfInBounds k v)[j]? = ZW[j]? := by
          intro u v hu hv
          refine ⟨by rw [Array.size_setIfInBounds]; exact HS.out.1, by rw [Array.size_setIfInBounds]; exact HS.out.2.1, fun j hj => ?_, fun j hj => ?_⟩
          · by_cases hjk : j = k
            · subst hjk
              rw [Array.getElem?_setIfInBounds_self_of_lt (by rw [HS.out.1]; exact hlt), Array.getElem?_setIfInBounds_self_of_lt (by rw [HS.out.2.1]; exact hlt), hu, hv, IA_get _ j (by rw [chL_length]; exact hlt), UA_get _ j (by rw [wyL_length]; exact hlt)]
              exact ⟨rfl, rfl⟩
            · rw [Array.getElem?_setIfInBounds_ne (Ne.symm hjk), Array.getElem?_setIfInBounds_ne (Ne.symm hjk)]
              exact HS.out.2.2.1 j (by omega)
          · rw [Array.getElem?_setIfInBounds_ne (by omega), Array.getElem?_setIfInBounds_ne (by omega)]
            exact HS.out.2.2.2 j (by omega)
        have same : ∀ (u v : Value), cs[k]? = some u → ds[k]? = some v → cs.setIfInBounds k u = cs ∧ ds.setIfInBounds k v = ds := by
          intro u v hu hv
          constructor
          · apply Array.ext_getElem?
            intro i
            by_cases hik : i = k
            · subst hik
              rw [Array.getElem?_setIfInBounds_self_of_lt (by rw [HS.out.1]; exact hlt), hu]
            · rw [Array.getElem?_setIfInBounds_ne (Ne.symm hik)]
          · apply Array.ext_getElem?
            intro i
            by_cases hik : i = k
            · subst hik
              rw [Array.getElem?_setIfInBounds_self_of_lt (by rw [HS.out.2.1]; exact hlt), hv]
            · rw [Array.getElem?_setIfInBounds_ne (Ne.symm hik)]
        have SM := Lib.hid (same _ _ v0 vz)
        have FIN := Lib.hid fin
        clear q1 q2 fin same v0 v1 vz HS HCH
        generalize (byL ns 1 B).getD k 0 = y1 at *
        generalize (byL ns 0 B).getD k 0 = y0 at *
        have h8f : Hid (∀ u v, Blk ((wr.setCell ⟨g8, k, none⟩ u).setCell ⟨g10, k, none⟩ v) g8 154 (cs.setIfInBounds k u)) := fun u v => (c8.set k u).setOther _ _ hg810
        have h10f : Hid (∀ u v, Blk ((wr.setCell ⟨g8, k, none⟩ u).setCell ⟨g10, k, none⟩ v) g10 158 (ds.setIfInBounds k v)) := fun u v => (c10.setOther ⟨g8, k, none⟩ u (Ne.symm hg810)).set k v
        by_cases hgt : y0 < y1
        · have hc10' : ∀ u, (wr.setCell ⟨g8, k, none⟩ u).cell? ⟨g10, k, none⟩ = some (.int .u8 0) := fun u => ((c10.setOther ⟨g8, k, none⟩ u (Ne.symm hg810)).cell k).trans (by rw [← c10.cell k]; exact hc10)
          have hf10' : ∀ u, (wr.setCell ⟨g8, k, none⟩ u).frozen? ⟨g10, k, none⟩ = false := fun u => (c10.setOther ⟨g8, k, none⟩ u (Ne.symm hg810)).froz k
          go_wp2
          go_roundw
          case rel =>
            refine ⟨k + 1, by omega, by go_num, (s6.setOther _ _ (by show g6 ≠ g8; omega)).setOther _ _ (by show g6 ≠ g10; omega), (s7.setOther _ _ (by show g7 ≠ g8; omega)).setOther _ _ (by show g7 ≠ g10; omega), (belr.setCell (by show g3 ≤ g8; omega) _).setCell (by show g3 ≤ g10; omega) _, _, _, h8f.out _ _, h10f.out _ _, FIN.out _ _ ?_ ?_⟩
            · rw [HQ1.out, if_pos hgt]
            · rw [HQ2.out, if_pos hgt]; rfl
          case measure => simp [intOf] <;> omega
        · go_wp2
          go_roundw
          case rel =>
            have := FIN.out (.int .i64 y0) (.int .u8 0) (by rw [HQ1.out, if_neg hgt]) (by rw [HQ2.out, if_neg hgt]; rfl)
            rw [SM.out.1, SM.out.2] at this
            exact ⟨k + 1, by omega, by go_num, s6, s7, belr, cs, ds, c8, c10, this⟩
          case measure => simp [intOf] <;> omega
      · have hC : cs = IA (chL ns B) := by
          apply Array.ext_getElem?
          intro i
          by_cases hi : i < 64
          · exact (HS.out.2.2.1 i (by omega)).1
          · rw [Array.getElem?_eq_none (by rw [HS.out.1]; omega), Array.getElem?_eq_none (by rw [IA_size, chL_length]; omega)]
        have hD : ds = UA (wyL ns B) := by
          apply Array.ext_getElem?
          intro i
          by_cases hi : i < 64
          · exact (HS.out.2.2.1 i (by omega)).2
          · rw [Array.getElem?_eq_none (by rw [HS.out.2.1]; omega), Array.getElem?_eq_none (by rw [UA_size, wyL_length]; omega)]
        subst hC hD
        have iC : Hid ((Tryd.prog.info? 154).map (·.size) = some (IA (chL ns B)).size) := by unfold Hid; rw [IA_size, chL_length]; exact info64
        have iW : Hid ((Tryd.prog.info? 158).map (·.size) = some (UA (wyL ns B)).size) := by unfold Hid; rw [UA_size, wyL_length]; exact infoW
        have oC := Lib.hid (IA_one (chL ns B))
        have oW := Lib.hid (UA_one (wyL ns B))
        have zC : Hid (Z.size = (IA (chL ns B)).size) := by unfold Hid; rw [← HZ.out, IA_size, IA_size, chL_length, List.length_replicate]
        have zW : Hid (ZW.size = (UA (wyL ns B)).size) := by unfold Hid; rw [← HZW.out, UA_size, UA_size, wyL_length, List.length_replicate]
        clear HS HCH
        generalize hCH : IA (chL ns B) = CH at *
        generalize hWA : UA (wyL ns B) = WA at *
        have HCHH := Lib.hid hCH
        have HWAA := Lib.hid hWA
        clear hCH hWA
        have c8_0 := c8.drew
        have c10_0 := c10.drew
        have s6_0 := s6.drew
        have s7_0 := s7.drew
        go_wp2_with fail
        refine wp_region_noPanic ?_
        refine wp_region_held_drew (S := fun W => Blk W g8 154 CH ∧ Blk W g10 158 WA) (by kernel_rfl) ⟨c8_0, c10_0⟩ (fun hHeld => ?_)
        refine wpAnyH_take (i := 0) (oi := ⟨some 37, _, _, _, _, _⟩) (v := _) rfl (by kernel_rfl) (by kernel_rfl) (by kernel_rfl) (fun _ _ _ h => h) (yields_row (by rfl) 154 _ (by rfl) g8 (by rfl) 154 CH _ (fun W h => h.1) Tryd.underlying154 rfl iC.out) (by assumption) ?_
        (try simp only [Act.put, List.setIfInBounds_toArray, List.set_cons_zero, List.set_cons_succ])
        refine wpAnyH_take (i := 1) (oi := ⟨some 38, _, _, _, _, _⟩) (v := _) rfl (by kernel_rfl) (by kernel_rfl) (by kernel_rfl) (fun _ _ _ h => h) (yields_row (by rfl) 158 _ (by rfl) g10 (by rfl) 158 WA _ (fun W h => h.2) Tryd.underlying158 rfl iW.out) (by assumption) ?_
        (try simp only [Act.put, List.setIfInBounds_toArray, List.set_cons_zero, List.set_cons_succ])
        refine wpAnyH_ready (rs := [2]) (by kernel_rfl) (by simp) ?_
        refine AllReadyH.cons (o := ⟨none, _, _, _, _, _⟩) rfl (fun K hK => ?_) (AllReadyH.nil)
        refine step_store (by rfl) 154 _ _ (by rfl) g6 CH (by rfl) (by rfl) 154 Z s6_0 iC.out zC.out oC.out ?_
        intro W1 hu1
        have c8_1 := hu1.blk c8_0 (by omega)
        have c10_1 := hu1.blk c10_0 (by omega)
        have s7_1 := hu1.blk s7_0 (by omega)
        clear hHeld
        refine hK.out _ _ ?_ (fun hHeld => ?_)
        · exact ⟨c8_1, c10_1⟩
        clear hK K
        (try simp only [Act.put, List.setIfInBounds_toArray, List.set_cons_zero, List.set_cons_succ])
        refine wpAnyH_ready (rs := [3]) (by kernel_rfl) (by simp) ?_
        refine AllReadyH.cons (o := ⟨none, _, _, _, _, _⟩) rfl (fun K hK => ?_) (AllReadyH.nil)
        refine step_store (by rfl) 158 _ _ (by rfl) g7 WA (by rfl) (by rfl) 158 ZW s7_1 iW.out zW.out oW.out ?_
        intro W2 hu2
        have c8_2 := hu2.blk c8_1 (by omega)
        have c10_2 := hu2.blk c10_1 (by omega)
        have s6_2 := hu2.blk hu1.row (by omega)
        clear hHeld
        refine hK.out _ _ ?_ (fun hHeld => ?_)
        · exact ⟨c8_2, c10_2⟩
        clear hK K
        (try simp only [Act.put, List.setIfInBounds_toArray, List.set_cons_zero, List.set_cons_succ])
        refine wpAnyH_done (by kernel_rfl) ?_ _
        refine NoPanic.normal ?_
        go_wp2
        refine bodyPost_ret (v := .tuple #[.agg CH, .agg WA]) (results_row_row rfl _ _ g6 g7 154 158 _ _ _ _ rfl rfl s6_2 hu2.row Tryd.underlying154 rfl iC.out Tryd.underlying158 rfl iW.out) rfl ⟨by rw [HCHH.out, HWAA.out], ?_⟩
        rw [HG.out]
        exact (belr.drew).trans ((hu1.below (by omega)).trans (hu2.below (by omega)))
end Go.Proofs.YtknfpdlomgllhaaDoor
