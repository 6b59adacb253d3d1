/-
  Layer 16: reading: readKind, checkHead, readAck, readData.
-/
import Derived.Test.YtkmacepodomdmaaDoorFb
import Derived.Test.YtkmacepodomdmaaDoorFn
namespace Go.Proofs.YtkmacepodomdmaaDoor
open Go.RowKit
set_option maxRecDepth 100000
set_option linter.unusedVariables false
set_option linter.unusedSimpArgs false

section
variable {P : Program} {ops : Array Oper} {o : Oper} {a : Act} {w : World} {K : Act → World → Prop} {Q : Exit → Act → World → Prop} {E : Prop}
/-- A value that is laid, in a region that draws. -/
theorem step_box (hgd : o.guard = none) (t : TypeId) (x : Operand) (ho : o.op = .box t x) (cs : Array Value) (hx : a.eval x = .agg cs)
    (h : ∀ w', Laid w w' t cs → K (a.put o.dst (.pointer (some ⟨w.heap.size, 0, none⟩))) w') : if Region.wanted o (yielded ops a.tmps) = true then Oper.wp P o a w K Q else E := by
  have hw : Region.wanted o (yielded ops a.tmps) = true := by simp [Region.wanted, hgd]
  rw [if_pos hw]
  have hrun : (Instr.box t (.agg cs)).run P w = .ok (.pointer (some ⟨w.heap.size, 0, none⟩)) (w.alloc (.cells cs t)) := by
    simp [Instr.box, newVar, newRow, Value.cells]
  unfold Oper.wp execOp
  simp only [ho, hx, Sem.run_bind, hrun, Result.andThen_ok, Sem.run_pure]
  exact h _ (laid_alloc w t cs)
end
theorem ErrsAt.fr {w w' : World} {a : Nat → Addr} {g : Nat} (h : ErrsAt w a) (hf : Fr w w' g none) (hg : g ≤ w.heap.size) (h5 : 5 < g) (hl : ∀ i, i < 5 → (a i).block < g) : ErrsAt w' a :=
  h.after (hf.below (Nat.le_refl g) (fun k hk => by cases hk) hg) hl h5
/-- What reading gives: a frame, and an error. -/
def RR (w : World) (g : Nat) (a : Nat → Addr) (F : Array Value) (x : Er) (e : Ending) (w' : World) : Prop := ∃ v, e = .returned (.tuple #[.agg F, v]) ∧ ErV w' a v x ∧ Fr w w' g none
set_option maxHeartbeats 1000000 in
/-- frame.readKind: too few bits. -/
theorem readKindShort (g B : Nat) (xs : List Nat) (w : World) (h : RdB w g B xs) (hl : xs.length < 4) :
    Calls Tryd.prog 79 #[.pointer (some ⟨g, 0, none⟩)] w fun e w' => e = .returned (.tuple #[.int .i64 0, .iface 136 (.int .i64 2)]) ∧ w = w' := by
  have C := Lib.hid (takeNoB g B 4 xs w h (by omega) (by omega) hl)
  go_enter Tryd.func79, Tryd.ntmps79
  go_wp2_with (go_at_call 119; refine C.out.mono ?_; rintro e w5 ⟨rfl, rfl⟩)
  go_ret2
  exact ⟨rfl, rfl⟩
set_option maxHeartbeats 1000000 in
/-- frame.readKind: a kind. -/
theorem readKindYes (g B : Nat) (xs : List Nat) (w : World) (h : RdB w g B xs) (hb : ∀ x ∈ xs, x ≤ 1) (hl : 4 ≤ xs.length) (hk : num (xs.take 4) = 1 ∨ num (xs.take 4) = 2) :
    Calls Tryd.prog 79 #[.pointer (some ⟨g, 0, none⟩)] w fun e w' => e = .returned (.tuple #[.int .i64 (num (xs.take 4) : Nat), .nilIface]) ∧ Fr w w' g none ∧ RdB w' g B (xs.drop 4) := by
  have C := Lib.hid (takeB g B 4 xs w h hb (by omega) (by omega) hl)
  generalize num (xs.take 4) = k at *
  have C2 := Lib.hid (headC (k : Int))
  rcases hk with rfl | rfl
  · go_enter Tryd.func79, Tryd.ntmps79
    go_wp2_with (first | (go_at_call 119; refine C.out.mono ?_; rintro e w5 ⟨rfl, hf, hr⟩) | (go_at_call 41; refine (C2.out _).mono ?_; rintro e w6 ⟨rfl, rfl⟩))
    go_ret2
    exact ⟨rfl, hf, hr⟩
  · go_enter Tryd.func79, Tryd.ntmps79
    go_wp2_with (first | (go_at_call 119; refine C.out.mono ?_; rintro e w5 ⟨rfl, hf, hr⟩) | (go_at_call 41; refine (C2.out _).mono ?_; rintro e w6 ⟨rfl, rfl⟩))
    go_ret2
    exact ⟨rfl, hf, hr⟩
set_option maxHeartbeats 1000000 in
/-- frame.readKind: no kind. -/
theorem readKindNo (g B : Nat) (xs : List Nat) (a : Nat → Addr) (w : World) (h : RdB w g B xs) (hb : ∀ x ∈ xs, x ≤ 1) (hl : 4 ≤ xs.length) (hk : num (xs.take 4) ≠ 1 ∧ num (xs.take 4) ≠ 2) (hE : ErrsAt w a) (h5 : 5 < g) (hla : ∀ i, i < 5 → (a i).block < g) :
    Calls Tryd.prog 79 #[.pointer (some ⟨g, 0, none⟩)] w fun e w' => e = .returned (.tuple #[.int .i64 0, .iface 296 (.pointer (some (a 0)))]) ∧ Fr w w' g none := by
  have C := Lib.hid (takeB g B 4 xs w h hb (by omega) (by omega) hl)
  generalize num (xs.take 4) = k at *
  have C2 := Lib.hid (headC (k : Int))
  rw [if_neg (by omega), if_neg (by omega)] at C2
  have hgl := Nat.le_of_lt h.lt
  go_enter Tryd.func79, Tryd.ntmps79
  go_upto_region 5 with (first | (go_at_call 119; refine C.out.mono ?_; rintro e w5 ⟨rfl, hf, hr⟩) | (go_at_call 41; refine (C2.out _).mono ?_; rintro e w6 ⟨rfl, rfl⟩))
  have c0 := (hE.fr hf hgl h5 hla).var 0 (by omega)
  go_quiet (fail)
  go_wp2
  go_ret2
  exact ⟨rfl, hf.trans (Fr.of (below_drawn _) g)⟩
set_option maxHeartbeats 1000000 in
/-- frame.checkHead. -/
theorem checkHeadC (A : Option Addr) (n c k : Nat) (bs : List Nat) (a : Nat → Addr) (w : World) (hr : Rd w w.heap.size A n (U8 bs)) (hb : ∀ b ∈ bs, b < 256) (hnc : n ≤ c) (hc : c ≤ 9223372036854775807) (hk : k = 6 ∨ k = 9) (hE : ErrsAt w a) :
    Calls Tryd.prog 80 #[.slice A n c, .int .i64 (k : Int)] w fun e w' => Below w.heap.size w w' ∧ e = .returned (if n < k then .iface 296 (.pointer (some (a 1))) else if Crc.ok16 (bs.take k) = false then .iface 296 (.pointer (some (a 2))) else .nilIface) := by
  have c1 := hE.var 1 (by omega)
  by_cases h1 : n < k
  · rw [if_pos h1]
    go_enter Tryd.func80, Tryd.ntmps80
    go_wp2
    go_ret
    exact ⟨Below.refl _ _, rfl⟩
  · rw [if_neg h1]
    have hkn : k ≤ n := by omega
    have C := Lib.hid (rightC16 A k c (bs.take k) w (hr.cut8 k hkn) (fun b hb' => hb b (List.mem_of_mem_take hb')) (by omega) (by omega) hc)
    have hk9 : k ≤ 9 := by omega
    have hEs := Lib.hid (fun (W : World) (h : Below w.heap.size w W) => (hE.below h).var 2 (by omega))
    cases ho : Crc.ok16 (bs.take k) with
    | true =>
      rw [ho] at C
      rw [if_neg (by simp)]
      clear ho hk
      go_enter Tryd.func80, Tryd.ntmps80
      go_wp2_with (go_at_call 120; refine C.out.mono ?_; rintro e w5 ⟨rfl, m5, rfl⟩)
      go_ret
      exact ⟨below_drawn _, rfl⟩
    | false =>
      rw [ho] at C
      rw [if_pos rfl]
      clear ho hk
      go_enter Tryd.func80, Tryd.ntmps80
      go_wp2_with (go_at_call 120; refine C.out.mono ?_; rintro e w5 ⟨rfl, m5, rfl⟩; have c2 := hEs.out _ (below_drawn m5))
      go_ret
      exact ⟨below_drawn _, rfl⟩
theorem Fr.updN {w w1 w2 : World} {r g : Nat} {t : TypeId} {cs : Array Value} (h0 : Fr w w1 g none) (h : Upd w1 w2 r t cs) (hr : w.heap.size ≤ r) : Fr w w2 g none :=
  ⟨h.os.trans h0.os, h.tape.trans h0.tape, h.output.trans h0.output, by rw [h.size]; exact h0.size, fun k hk hg _ => (h.oth k (by omega)).trans (h0.block k hk hg (by simp))⟩
set_option maxHeartbeats 2000000 in
/-- frame.readAck: a bit that must be 0 isn't. -/
theorem readAckNo (g : Nat) (xs : List Nat) (a : Nat → Addr) (w : World) (h : RdB w g g xs) (hb : ∀ x ∈ xs, x ≤ 1) (hl : 68 ≤ xs.length) (hz : num (xs.take 4) ≠ 0) (hE : ErrsAt w a) (h5 : 5 < g) (hla : ∀ i, i < 5 → (a i).block < g) :
    Calls Tryd.prog 121 #[.pointer (some ⟨g, 0, none⟩)] w (RR w g a (FV 0 0 0 0 (.slice none 0 0) 0 0) (.sent 3)) := by
  have hgl := h.lt
  go_enter Tryd.func121, Tryd.ntmps121
  go_upto_region 1 with (refine at_alloc rfl 32 rfl _ zeroF ?_; intro w1 L1)
  have R1 := h.below L1.bel (Nat.le_of_lt hgl) hgl
  have q1 := L1.row
  have F1 := Fr.of L1.bel g
  have HS1 := Lib.hid L1.size
  obtain ⟨r2, hr2⟩ : ∃ r, r = w.heap.size := ⟨_, rfl⟩
  have HRW : Hid (w.heap.size ≤ r2) := by unfold Hid; omega
  have HNG : Hid (r2 ≠ g) := by unfold Hid; omega
  have HGR : Hid (g < r2) := by unfold Hid; omega
  rw [← hr2] at q1 ⊢
  clear L1 hr2
  have C := Lib.hid (ftakeC g g 4 xs w1 R1 hb (by omega) (by omega) (by omega))
  generalize num (xs.take 4) = y at *
  have t1 : ((y : Int) != 0) = true := by simp; omega
  go_upto_region 2 with (go_at_call 150; refine C.out.mono ?_; rintro e wq ⟨rfl, hf, hr⟩)
  have HFR0 : Hid (Fr w wq g none) := F1.trans hf
  have q2 := hf.blk q1 HNG.out
  have HQL : Hid (r2 < wq.heap.size) := q2.lt
  have hEq := hE.fr HFR0.out (Nat.le_of_lt hgl) h5 hla
  have hKeep : ∀ W, Below r2 wq W → W.cell? ⟨3, 0, none⟩ = some (.iface 296 (.pointer (some (a 3)))) := fun W hW => (hW.cell (p := ⟨3, 0, none⟩) (by have := HGR.out; show 3 < r2; omega)).trans (hEq.var 3 (by omega))
  clear q1 F1 hf hr C R1
  refine wp_region_noPanic ?_
  refine wp_region_held_drew (S := fun W => W.cell? ⟨3, 0, none⟩ = some (.iface 296 (.pointer (some (a 3))))) (by kernel_rfl) (hKeep _ (Below.refl _ _).drew) (fun hHeld => ?_)
  refine wpAnyH_take (i := 0) (oi := ⟨some 8, _, _, _, _, _⟩) (v := ?_) rfl (by kernel_rfl) (by kernel_rfl) (by kernel_rfl) (fun _ _ _ h => h) (Or.inl ⟨by rfl, ?_⟩) hHeld ?_
  rotate_left
  · intro W hSW; have hSW0 := hSW; go_simp; first | done | with_reducible rfl
  (try simp only [Act.put, List.setIfInBounds_toArray, List.set_cons_zero, List.set_cons_succ])
  refine wpAnyH_take (i := 1) (oi := ⟨some 9, _, _, _, _, _⟩) (v := ?_) rfl (by kernel_rfl) (by kernel_rfl) (by kernel_rfl) (fun _ _ _ h => h) (Or.inl ⟨by rfl, ?_⟩) hHeld ?_
  rotate_left
  · intro W hSW; have hSW0 := hSW; go_simp; first | done | with_reducible rfl
  (try simp only [Act.put, List.setIfInBounds_toArray, List.set_cons_zero, List.set_cons_succ])
  refine wpAnyH_take (i := 2) (oi := ⟨some 10, _, _, _, _, _⟩) (v := ?_) rfl (by kernel_rfl) (by kernel_rfl) (by kernel_rfl) (fun _ _ _ h => h) (Or.inl ⟨by rfl, ?_⟩) hHeld ?_
  rotate_left
  · intro W hSW; have hSW0 := hSW; go_simp; first | done | with_reducible rfl
  (try simp only [Act.put, List.setIfInBounds_toArray, List.set_cons_zero, List.set_cons_succ])
  refine wpAnyH_ready (rs := [3, 5]) (by kernel_rfl) (by simp) ?_
  refine AllReadyH.cons (o := ⟨some 11, _, _, _, _, _⟩) rfl (fun K hK => ?_) (AllReadyH.cons (o := ⟨none, _, _, _, _, _⟩) rfl (fun K hK => ?_) (AllReadyH.nil))
  · refine step_box (by rfl) 132 _ (by rfl) #[.string _, .iface 296 (.pointer (some (a 3)))] (by rfl) ?_
    intro WB LB
    clear hHeld
    refine hK.out _ _ ?_ (fun hHeld => ?_)
    · exact hKeep _ ((Below.refl _ _).drew.trans (LB.bel.mono (Nat.le_of_lt HQL.out)))
    clear hK K
    (try simp only [Act.put, List.setIfInBounds_toArray, List.set_cons_zero, List.set_cons_succ])
    refine wpAnyH_take (i := 4) (oi := ⟨some 12, _, _, _, _, _⟩) (v := ?_) rfl (by kernel_rfl) (by kernel_rfl) (by kernel_rfl) (fun _ _ _ h => h) (Or.inl ⟨by rfl, ?_⟩) hHeld ?_
    rotate_left
    · intro W hSW; have hSW0 := hSW; go_simp; first | done | with_reducible rfl
    (try simp only [Act.put, List.setIfInBounds_toArray, List.set_cons_zero, List.set_cons_succ])
    refine wpAnyH_ready (rs := [5]) (by kernel_rfl) (by simp) ?_
    refine AllReadyH.cons (o := ⟨none, _, _, _, _, _⟩) rfl (fun K hK => ?_) (AllReadyH.nil)
    refine step_store (by rfl) 32 _ _ (by rfl) r2 (FV 0 0 0 0 (.slice none 0 0) 0 0) (by rfl) (by rfl) 32 _ (q2.drew.after LB.bel) (infoF _ _ _ _ _ _ _) rfl (FV_all _ _ _ _ _ _ _ _ _) ?_
    intro WS HS
    clear hHeld
    refine hK.out _ _ ?_ (fun hHeld => ?_)
    · exact hKeep _ (((Below.refl _ _).drew.trans (LB.bel.mono (Nat.le_of_lt HQL.out))).trans (HS.below (Nat.le_refl _)))
    clear hK K
    (try simp only [Act.put, List.setIfInBounds_toArray, List.set_cons_zero, List.set_cons_succ])
    refine wpAnyH_take (i := 6) (oi := ⟨some 3, _, _, _, _, _⟩) (v := ?_) rfl (by kernel_rfl) (by kernel_rfl) (by kernel_rfl) (fun _ _ _ h => h) (Or.inl ⟨by rfl, ?_⟩) hHeld ?_
    rotate_left
    · intro W hSW; have hSW0 := hSW; go_simp; first | done | with_reducible rfl
    (try simp only [Act.put, List.setIfInBounds_toArray, List.set_cons_zero, List.set_cons_succ])
    refine wpAnyH_done (by kernel_rfl) ?_ _
    refine NoPanic.normal ?_
    clear hHeld
    have FR : Fr w WS g none := (HFR0.out.trans (Fr.of ((Below.refl _ _).drew.trans LB.bel) g)).updN HS HRW.out
    have QR : Blk WS r2 32 (FV 0 0 0 0 (.slice none 0 0) 0 0) := HS.row
    have ER := HS.blk LB.row (Nat.ne_of_gt HQL.out)
    clear LB HS
    go_wp2
    refine bodyPost_ret (v := .tuple #[.agg (FV 0 0 0 0 (.slice none 0 0) 0 0), _]) (results_row_tmp rfl _ _ r2 32 _ _ rfl _ rfl QR Tryd.underlying32 rfl (infoF _ _ _ _ _ _ _)) rfl ?_
    exact ⟨_, rfl, ⟨by omega, _, _, rfl, ER⟩, FR⟩
  · refine step_store (by rfl) 32 _ _ (by rfl) r2 (FV 0 0 0 0 (.slice none 0 0) 0 0) (by rfl) (by rfl) 32 _ q2.drew (infoF _ _ _ _ _ _ _) rfl (FV_all _ _ _ _ _ _ _ _ _) ?_
    intro WS HS
    clear hHeld
    refine hK.out _ _ ?_ (fun hHeld => ?_)
    · exact hKeep _ ((Below.refl _ _).drew.trans (HS.below (Nat.le_refl _)))
    clear hK K
    (try simp only [Act.put, List.setIfInBounds_toArray, List.set_cons_zero, List.set_cons_succ])
    refine wpAnyH_ready (rs := [3]) (by kernel_rfl) (by simp) ?_
    refine AllReadyH.cons (o := ⟨some 11, _, _, _, _, _⟩) rfl (fun K hK => ?_) (AllReadyH.nil)
    refine step_box (by rfl) 132 _ (by rfl) #[.string _, .iface 296 (.pointer (some (a 3)))] (by rfl) ?_
    intro WB LB
    clear hHeld
    refine hK.out _ _ ?_ (fun hHeld => ?_)
    · exact hKeep _ (((Below.refl _ _).drew.trans (HS.below (Nat.le_refl _))).trans (LB.bel.mono (by rw [HS.size]; exact Nat.le_of_lt HQL.out)))
    clear hK K
    (try simp only [Act.put, List.setIfInBounds_toArray, List.set_cons_zero, List.set_cons_succ])
    refine wpAnyH_take (i := 4) (oi := ⟨some 12, _, _, _, _, _⟩) (v := ?_) rfl (by kernel_rfl) (by kernel_rfl) (by kernel_rfl) (fun _ _ _ h => h) (Or.inl ⟨by rfl, ?_⟩) hHeld ?_
    rotate_left
    · intro W hSW; have hSW0 := hSW; go_simp; first | done | with_reducible rfl
    (try simp only [Act.put, List.setIfInBounds_toArray, List.set_cons_zero, List.set_cons_succ])
    refine wpAnyH_take (i := 6) (oi := ⟨some 3, _, _, _, _, _⟩) (v := ?_) rfl (by kernel_rfl) (by kernel_rfl) (by kernel_rfl) (fun _ _ _ h => h) (Or.inl ⟨by rfl, ?_⟩) hHeld ?_
    rotate_left
    · intro W hSW; have hSW0 := hSW; go_simp; first | done | with_reducible rfl
    (try simp only [Act.put, List.setIfInBounds_toArray, List.set_cons_zero, List.set_cons_succ])
    refine wpAnyH_done (by kernel_rfl) ?_ _
    refine NoPanic.normal ?_
    clear hHeld
    have FR : Fr w WB g none := ((HFR0.out.trans (Fr.of (Below.refl _ _).drew g)).updN HS HRW.out).trans (Fr.of LB.bel g)
    have QR : Blk WB r2 32 (FV 0 0 0 0 (.slice none 0 0) 0 0) := HS.row.after LB.bel
    have ER := LB.row
    clear LB HS
    go_wp2
    refine bodyPost_ret (v := .tuple #[.agg (FV 0 0 0 0 (.slice none 0 0) 0 0), _]) (results_row_tmp rfl _ _ r2 32 _ _ rfl _ rfl QR Tryd.underlying32 rfl (infoF _ _ _ _ _ _ _)) rfl ?_
    exact ⟨_, rfl, ⟨by omega, _, _, rfl, ER⟩, FR⟩
set_option maxHeartbeats 2000000 in
/-- frame.readAck. -/
theorem readAckYes (g : Nat) (xs : List Nat) (a : Nat → Addr) (w : World) (h : RdB w g g xs) (hb : ∀ x ∈ xs, x ≤ 1) (hl : 68 ≤ xs.length) (hz : num (xs.take 4) = 0) :
    Calls Tryd.prog 121 #[.pointer (some ⟨g, 0, none⟩)] w fun e w' => e = .returned (.tuple #[.agg (FV 2 0 0 0 (.slice none 0 0) (num ((xs.drop 4).take 16)) (num ((xs.drop 20).take 32))), .nilIface]) ∧ Fr w w' g none ∧ RdB w' g g (xs.drop 68) := by
  obtain ⟨bs, hbs⟩ : ∃ b, b = num ((xs.drop 4).take 16) := ⟨_, rfl⟩
  obtain ⟨mo, hmo⟩ : ∃ b, b = num ((xs.drop 20).take 32) := ⟨_, rfl⟩
  rw [← hbs, ← hmo]
  have hgl := h.lt
  go_enter Tryd.func121, Tryd.ntmps121
  go_upto_region 1 with (refine at_alloc rfl 32 rfl _ zeroF ?_; intro w1 L1)
  have R1 := h.below L1.bel (Nat.le_of_lt hgl) hgl
  have q1 := L1.row
  have F1 := Fr.of L1.bel g
  have HS1 := Lib.hid L1.size
  obtain ⟨r2, hr2⟩ : ∃ r, r = w.heap.size := ⟨_, rfl⟩
  have HRW : Hid (w.heap.size ≤ r2) := by unfold Hid; omega
  have HNG : Hid (r2 ≠ g) := by unfold Hid; omega
  have HGR : Hid (g < r2) := by unfold Hid; omega
  rw [← hr2] at q1 ⊢
  clear L1 hr2
  have C := Lib.hid (ftakeC g g 4 xs w1 R1 hb (by omega) (by omega) (by omega))
  rw [hz] at C
  have hdb : ∀ k, ∀ x ∈ xs.drop k, x ≤ 1 := fun k x hx => hb x (List.mem_of_mem_drop hx)
  have C2 := Lib.hid (fun (W : World) (h : RdB W g g (xs.drop 4)) => ftakeC g g 16 (xs.drop 4) W h (hdb 4) (by omega) (by omega) (by rw [List.length_drop]; omega))
  have C3 := Lib.hid (fun (W : World) (h : RdB W g g (xs.drop 20)) => ftakeC g g 32 (xs.drop 20) W h (hdb 20) (by omega) (by omega) (by rw [List.length_drop]; omega))
  have C4 := Lib.hid (fun (W : World) (h : RdB W g g (xs.drop 52)) => ftakeC g g 16 (xs.drop 52) W h (hdb 52) (by omega) (by omega) (by rw [List.length_drop]; omega))
  rw [show List.drop 16 (xs.drop 4) = xs.drop 20 from by rw [List.drop_drop]] at C2
  rw [show List.drop 32 (xs.drop 20) = xs.drop 52 from by rw [List.drop_drop]] at C3
  rw [show List.drop 16 (xs.drop 52) = xs.drop 68 from by rw [List.drop_drop]] at C4
  have y1 := num_take_lt (xs.drop 4) (hdb 4) 16
  have y2 := num_take_lt (xs.drop 20) (hdb 20) 32
  rw [← hbs] at C2 y1
  rw [← hmo] at C3 y2
  clear hbs hmo
  generalize num ((xs.drop 52).take 16) = su at *
  have e1 : IntKind.u16.wrap (bs : Int) = (bs : Int) := by rw [wrap_u16]; omega
  have e2 : IntKind.u32.wrap (mo : Int) = (mo : Int) := by rw [wrap_u32]; omega
  go_wp2_with fail
  refine C.out.mono ?_; rintro e w2 ⟨rfl, f2, k2⟩
  go_wp2_with fail
  refine (C2.out _ k2).mono ?_; rintro e w3 ⟨rfl, f3, k3⟩
  go_wp2_with fail
  refine (C3.out _ k3).mono ?_; rintro e w4 ⟨rfl, f4, k4⟩
  go_upto_region 4 with (first | (refine at_alloc rfl 30 rfl (mv 0 0) zeroMap ?_; intro w5 L5) | (refine at_store rfl 30 _ _ rfl w4.heap.size (mv bs mo) rfl rfl 30 _ L5.row (infoMap _ _) rfl (mv_all _ _) ?_; intro w6 L6))
  have b46 : Below w4.heap.size w4 w6 := L5.bel.trans (L6.below (Nat.le_refl _))
  have k6 := k4.below b46 (by have := k4.lt; omega) k4.lt
  have f6 := (((F1.trans f2).trans f3).trans f4).trans (Fr.of b46 g)
  have qm : Blk w6 w4.heap.size 30 (mv bs mo) := L6.row
  have q6 := ((f2.trans (f3.trans (f4.trans (Fr.of b46 g)))).blk q1 HNG.out)
  obtain ⟨gm, hgm⟩ : ∃ g, g = w4.heap.size := ⟨_, rfl⟩
  have HGM : Hid (gm ≠ g) := by unfold Hid; have := k4.lt; omega
  have HGM2 : Hid (r2 ≠ gm) := by unfold Hid; have h1 := ((f2.trans (f3.trans f4)).blk q1 HNG.out).lt; omega
  rw [← hgm] at qm ⊢
  clear L5 L6 hgm b46 q1 k4 k3 k2
  go_wp2_with fail
  refine (C4.out _ k6).mono ?_; rintro e w7 ⟨rfl, f7, k7⟩
  have qm7 := f7.blk qm HGM.out
  have q7 := f7.blk q6 HNG.out
  go_wp2_with (first | (refine at_load rfl 30 _ rfl gm rfl 30 #[.int .u16 (bs : Int), .int .u32 (mo : Int)] _ qm7 Tryd.underlying30 rfl (infoMap (bs : Int) mo) ?_) | (refine at_store rfl 32 _ _ rfl r2 (FV 2 0 0 0 (.slice none 0 0) bs mo) rfl rfl 32 _ q7 (infoF _ _ _ _ _ _ _) rfl (FV_all _ _ _ _ _ _ _ _ _) ?_; intro w8 H8))
  refine bodyPost_ret (v := .tuple #[.agg (FV 2 0 0 0 (.slice none 0 0) bs mo), .nilIface]) (results_row_tmp rfl _ _ r2 32 _ _ rfl _ rfl H8.row Tryd.underlying32 rfl (infoF _ _ _ _ _ _ _)) rfl ?_
  exact ⟨rfl, (f6.trans f7).updN H8 HRW.out, k7.below (H8.below (Nat.le_refl r2)) (Nat.le_of_lt HGR.out) HGR.out⟩
set_option maxHeartbeats 2000000 in
/-- frame.readData: a bit that must be 0 isn't. -/
theorem readDataNo (g : Nat) (xs : List Nat) (a : Nat → Addr) (w : World) (h : RdB w g g xs) (hb : ∀ x ∈ xs, x ≤ 1) (hl : 44 ≤ xs.length) (hz : num ((xs.drop 2).take 2) ≠ 0) (hE : ErrsAt w a) (h5 : 5 < g) (hla : ∀ i, i < 5 → (a i).block < g) :
    Calls Tryd.prog 122 #[.pointer (some ⟨g, 0, none⟩)] w (RR w g a (FV 0 0 0 0 (.slice none 0 0) 0 0) (.sent 3)) := by
  have hgl := h.lt
  go_enter Tryd.func122, Tryd.ntmps122
  go_upto_region 1 with (refine at_alloc rfl 32 rfl _ zeroF ?_; intro w1 L1)
  have R1 := h.below L1.bel (Nat.le_of_lt hgl) hgl
  have q1 := L1.row
  have F1 := Fr.of L1.bel g
  have HS1 := Lib.hid L1.size
  obtain ⟨r2, hr2⟩ : ∃ r, r = w.heap.size := ⟨_, rfl⟩
  have HRW : Hid (w.heap.size ≤ r2) := by unfold Hid; omega
  have HNG : Hid (r2 ≠ g) := by unfold Hid; omega
  have HGR : Hid (g < r2) := by unfold Hid; omega
  rw [← hr2] at q1 ⊢
  clear L1 hr2
  have hdb : ∀ k, ∀ x ∈ xs.drop k, x ≤ 1 := fun k x hx => hb x (List.mem_of_mem_drop hx)
  have C1 := Lib.hid (ftakeC g g 2 xs w1 R1 hb (by omega) (by omega) (by omega))
  have C2 := Lib.hid (fun (W : World) (h : RdB W g g (xs.drop 2)) => ftakeC g g 2 (xs.drop 2) W h (hdb 2) (by omega) (by omega) (by rw [List.length_drop]; omega))
  rw [show List.drop 2 (xs.drop 2) = xs.drop 4 from by rw [List.drop_drop]] at C2
  generalize num (xs.take 2) = ve at *
  generalize num ((xs.drop 2).take 2) = y at *
  have t1 : ((y : Int) != 0) = true := by simp; omega
  go_upto_region 2 with (first | (go_at_call 150; refine C1.out.mono ?_; rintro e w2 ⟨rfl, f2, k2⟩) | (refine at_alloc rfl 32 rfl _ zeroF ?_; intro w3 L3) | (refine at_store rfl 32 _ _ rfl w2.heap.size (FV 1 0 ve 0 (.slice none 0 0) 0 0) rfl rfl 32 _ L3.row (infoF _ _ _ _ _ _ _) rfl (FV_all _ _ _ _ _ _ _ _ _) ?_; intro w4 L4))
  have b24 : Below w2.heap.size w2 w4 := L3.bel.trans (L4.below (Nat.le_refl _))
  have k4 := k2.below b24 (by have := k2.lt; omega) k2.lt
  have f4 : Fr w w4 g none := (F1.trans f2).trans (Fr.of b24 g)
  have p4 : Blk w4 w2.heap.size 32 (FV 1 0 ve 0 (.slice none 0 0) 0 0) := L4.row
  have q4 : Blk w4 r2 32 (FV 0 0 0 0 (.slice none 0 0) 0 0) := (f2.trans (Fr.of b24 g)).blk q1 HNG.out
  obtain ⟨g4, hg4⟩ : ∃ g, g = w2.heap.size := ⟨_, rfl⟩
  have HG4 : Hid (g4 ≠ g) := by unfold Hid; have := k2.lt; omega
  have HR4 : Hid (r2 ≠ g4) := by unfold Hid; have h1 := (f2.blk q1 HNG.out).lt; omega
  have HW4 : Hid (w.heap.size ≤ g4) := by unfold Hid; have := f2.size; have := F1.size; omega
  rw [← hg4] at p4 ⊢
  clear L3 L4 hg4 b24 q1 k2 F1 f2 R1 C1
  go_upto_region 3 with (go_at_call 150; refine (C2.out _ k4).mono ?_; rintro e wq ⟨rfl, hf, hr⟩)
  have HFR0 : Hid (Fr w wq g none) := f4.trans hf
  have q2 := hf.blk q4 HNG.out
  have HQL : Hid (r2 < wq.heap.size) := q2.lt
  have hEq := hE.fr HFR0.out (Nat.le_of_lt hgl) h5 hla
  have hKeep : ∀ W, Below r2 wq W → W.cell? ⟨3, 0, none⟩ = some (.iface 296 (.pointer (some (a 3)))) := fun W hW => (hW.cell (p := ⟨3, 0, none⟩) (by have := HGR.out; show 3 < r2; omega)).trans (hEq.var 3 (by omega))
  clear q4 f4 hf hr C2 k4 p4
  refine wp_region_noPanic ?_
  refine wp_region_held_drew (S := fun W => W.cell? ⟨3, 0, none⟩ = some (.iface 296 (.pointer (some (a 3))))) (by kernel_rfl) (hKeep _ (Below.refl _ _).drew) (fun hHeld => ?_)
  refine wpAnyH_take (i := 0) (oi := ⟨some 13, _, _, _, _, _⟩) (v := ?_) rfl (by kernel_rfl) (by kernel_rfl) (by kernel_rfl) (fun _ _ _ h => h) (Or.inl ⟨by rfl, ?_⟩) hHeld ?_
  rotate_left
  · intro W hSW; have hSW0 := hSW; go_simp; first | done | with_reducible rfl
  (try simp only [Act.put, List.setIfInBounds_toArray, List.set_cons_zero, List.set_cons_succ])
  refine wpAnyH_take (i := 1) (oi := ⟨some 14, _, _, _, _, _⟩) (v := ?_) rfl (by kernel_rfl) (by kernel_rfl) (by kernel_rfl) (fun _ _ _ h => h) (Or.inl ⟨by rfl, ?_⟩) hHeld ?_
  rotate_left
  · intro W hSW; have hSW0 := hSW; go_simp; first | done | with_reducible rfl
  (try simp only [Act.put, List.setIfInBounds_toArray, List.set_cons_zero, List.set_cons_succ])
  refine wpAnyH_take (i := 2) (oi := ⟨some 15, _, _, _, _, _⟩) (v := ?_) rfl (by kernel_rfl) (by kernel_rfl) (by kernel_rfl) (fun _ _ _ h => h) (Or.inl ⟨by rfl, ?_⟩) hHeld ?_
  rotate_left
  · intro W hSW; have hSW0 := hSW; go_simp; first | done | with_reducible rfl
  (try simp only [Act.put, List.setIfInBounds_toArray, List.set_cons_zero, List.set_cons_succ])
  refine wpAnyH_ready (rs := [3, 5]) (by kernel_rfl) (by simp) ?_
  refine AllReadyH.cons (o := ⟨some 16, _, _, _, _, _⟩) rfl (fun K hK => ?_) (AllReadyH.cons (o := ⟨none, _, _, _, _, _⟩) rfl (fun K hK => ?_) (AllReadyH.nil))
  · refine step_box (by rfl) 132 _ (by rfl) #[.string _, .iface 296 (.pointer (some (a 3)))] (by rfl) ?_
    intro WB LB
    clear hHeld
    refine hK.out _ _ ?_ (fun hHeld => ?_)
    · exact hKeep _ ((Below.refl _ _).drew.trans (LB.bel.mono (Nat.le_of_lt HQL.out)))
    clear hK K
    (try simp only [Act.put, List.setIfInBounds_toArray, List.set_cons_zero, List.set_cons_succ])
    refine wpAnyH_take (i := 4) (oi := ⟨some 17, _, _, _, _, _⟩) (v := ?_) rfl (by kernel_rfl) (by kernel_rfl) (by kernel_rfl) (fun _ _ _ h => h) (Or.inl ⟨by rfl, ?_⟩) hHeld ?_
    rotate_left
    · intro W hSW; have hSW0 := hSW; go_simp; first | done | with_reducible rfl
    (try simp only [Act.put, List.setIfInBounds_toArray, List.set_cons_zero, List.set_cons_succ])
    refine wpAnyH_ready (rs := [5]) (by kernel_rfl) (by simp) ?_
    refine AllReadyH.cons (o := ⟨none, _, _, _, _, _⟩) rfl (fun K hK => ?_) (AllReadyH.nil)
    refine step_store (by rfl) 32 _ _ (by rfl) r2 (FV 0 0 0 0 (.slice none 0 0) 0 0) (by rfl) (by rfl) 32 _ (q2.drew.after LB.bel) (infoF _ _ _ _ _ _ _) rfl (FV_all _ _ _ _ _ _ _ _ _) ?_
    intro WS HS
    clear hHeld
    refine hK.out _ _ ?_ (fun hHeld => ?_)
    · exact hKeep _ (((Below.refl _ _).drew.trans (LB.bel.mono (Nat.le_of_lt HQL.out))).trans (HS.below (Nat.le_refl _)))
    clear hK K
    (try simp only [Act.put, List.setIfInBounds_toArray, List.set_cons_zero, List.set_cons_succ])
    refine wpAnyH_take (i := 6) (oi := ⟨some 3, _, _, _, _, _⟩) (v := ?_) rfl (by kernel_rfl) (by kernel_rfl) (by kernel_rfl) (fun _ _ _ h => h) (Or.inl ⟨by rfl, ?_⟩) hHeld ?_
    rotate_left
    · intro W hSW; have hSW0 := hSW; go_simp; first | done | with_reducible rfl
    (try simp only [Act.put, List.setIfInBounds_toArray, List.set_cons_zero, List.set_cons_succ])
    refine wpAnyH_done (by kernel_rfl) ?_ _
    refine NoPanic.normal ?_
    clear hHeld
    have FR : Fr w WS g none := (HFR0.out.trans (Fr.of ((Below.refl _ _).drew.trans LB.bel) g)).updN HS HRW.out
    have QR : Blk WS r2 32 (FV 0 0 0 0 (.slice none 0 0) 0 0) := HS.row
    have ER := HS.blk LB.row (Nat.ne_of_gt HQL.out)
    clear LB HS
    go_wp2
    refine bodyPost_ret (v := .tuple #[.agg (FV 0 0 0 0 (.slice none 0 0) 0 0), _]) (results_row_tmp rfl _ _ r2 32 _ _ rfl _ rfl QR Tryd.underlying32 rfl (infoF _ _ _ _ _ _ _)) rfl ?_
    exact ⟨_, rfl, ⟨by omega, _, _, rfl, ER⟩, FR⟩
  · refine step_store (by rfl) 32 _ _ (by rfl) r2 (FV 0 0 0 0 (.slice none 0 0) 0 0) (by rfl) (by rfl) 32 _ q2.drew (infoF _ _ _ _ _ _ _) rfl (FV_all _ _ _ _ _ _ _ _ _) ?_
    intro WS HS
    clear hHeld
    refine hK.out _ _ ?_ (fun hHeld => ?_)
    · exact hKeep _ ((Below.refl _ _).drew.trans (HS.below (Nat.le_refl _)))
    clear hK K
    (try simp only [Act.put, List.setIfInBounds_toArray, List.set_cons_zero, List.set_cons_succ])
    refine wpAnyH_ready (rs := [3]) (by kernel_rfl) (by simp) ?_
    refine AllReadyH.cons (o := ⟨some 16, _, _, _, _, _⟩) rfl (fun K hK => ?_) (AllReadyH.nil)
    refine step_box (by rfl) 132 _ (by rfl) #[.string _, .iface 296 (.pointer (some (a 3)))] (by rfl) ?_
    intro WB LB
    clear hHeld
    refine hK.out _ _ ?_ (fun hHeld => ?_)
    · exact hKeep _ (((Below.refl _ _).drew.trans (HS.below (Nat.le_refl _))).trans (LB.bel.mono (by rw [HS.size]; exact Nat.le_of_lt HQL.out)))
    clear hK K
    (try simp only [Act.put, List.setIfInBounds_toArray, List.set_cons_zero, List.set_cons_succ])
    refine wpAnyH_take (i := 4) (oi := ⟨some 17, _, _, _, _, _⟩) (v := ?_) rfl (by kernel_rfl) (by kernel_rfl) (by kernel_rfl) (fun _ _ _ h => h) (Or.inl ⟨by rfl, ?_⟩) hHeld ?_
    rotate_left
    · intro W hSW; have hSW0 := hSW; go_simp; first | done | with_reducible rfl
    (try simp only [Act.put, List.setIfInBounds_toArray, List.set_cons_zero, List.set_cons_succ])
    refine wpAnyH_take (i := 6) (oi := ⟨some 3, _, _, _, _, _⟩) (v := ?_) rfl (by kernel_rfl) (by kernel_rfl) (by kernel_rfl) (fun _ _ _ h => h) (Or.inl ⟨by rfl, ?_⟩) hHeld ?_
    rotate_left
    · intro W hSW; have hSW0 := hSW; go_simp; first | done | with_reducible rfl
    (try simp only [Act.put, List.setIfInBounds_toArray, List.set_cons_zero, List.set_cons_succ])
    refine wpAnyH_done (by kernel_rfl) ?_ _
    refine NoPanic.normal ?_
    clear hHeld
    have FR : Fr w WB g none := ((HFR0.out.trans (Fr.of (Below.refl _ _).drew g)).updN HS HRW.out).trans (Fr.of LB.bel g)
    have QR : Blk WB r2 32 (FV 0 0 0 0 (.slice none 0 0) 0 0) := HS.row.after LB.bel
    have ER := LB.row
    clear LB HS
    go_wp2
    refine bodyPost_ret (v := .tuple #[.agg (FV 0 0 0 0 (.slice none 0 0) 0 0), _]) (results_row_tmp rfl _ _ r2 32 _ _ rfl _ rfl QR Tryd.underlying32 rfl (infoF _ _ _ _ _ _ _)) rfl ?_
    exact ⟨_, rfl, ⟨by omega, _, _, rfl, ER⟩, FR⟩
theorem infoB1 : (Tryd.prog.info? 22).map (·.size) = some 1 := by kernel_rfl
theorem infoNum1 : (Tryd.prog.info? 28).map (·.size) = some 1 := by kernel_rfl
set_option maxHeartbeats 2000000 in
/-- frame.readData: more bytes than a message may have. -/
theorem readDataLong (g : Nat) (xs : List Nat) (a : Nat → Addr) (w : World) (h : RdB w g g xs) (hb : ∀ x ∈ xs, x ≤ 1) (hl : 44 ≤ xs.length) (hz : num ((xs.drop 2).take 2) = 0) (hle : 64 < num ((xs.drop 4).take 8)) (hE : ErrsAt w a) (h5 : 5 < g) (hla : ∀ i, i < 5 → (a i).block < g) :
    Calls Tryd.prog 122 #[.pointer (some ⟨g, 0, none⟩)] w (RR w g a (FV 0 0 0 0 (.slice none 0 0) 0 0) (.sent 4)) := by
  have hgl := h.lt
  go_enter Tryd.func122, Tryd.ntmps122
  go_upto_region 1 with (refine at_alloc rfl 32 rfl _ zeroF ?_; intro w1 L1)
  have R1 := h.below L1.bel (Nat.le_of_lt hgl) hgl
  have q1 := L1.row
  have F1 := Fr.of L1.bel g
  have HS1 := Lib.hid L1.size
  obtain ⟨r2, hr2⟩ : ∃ r, r = w.heap.size := ⟨_, rfl⟩
  have HRW : Hid (w.heap.size ≤ r2) := by unfold Hid; omega
  have HNG : Hid (r2 ≠ g) := by unfold Hid; omega
  have HGR : Hid (g < r2) := by unfold Hid; omega
  rw [← hr2] at q1 ⊢
  clear L1 hr2
  have hdb : ∀ k, ∀ x ∈ xs.drop k, x ≤ 1 := fun k x hx => hb x (List.mem_of_mem_drop hx)
  have C1 := Lib.hid (ftakeC g g 2 xs w1 R1 hb (by omega) (by omega) (by omega))
  have C2 := Lib.hid (fun (W : World) (h : RdB W g g (xs.drop 2)) => ftakeC g g 2 (xs.drop 2) W h (hdb 2) (by omega) (by omega) (by rw [List.length_drop]; omega))
  rw [show List.drop 2 (xs.drop 2) = xs.drop 4 from by rw [List.drop_drop]] at C2
  have C3 := Lib.hid (fun (W : World) (h : RdB W g g (xs.drop 4)) => ftakeC g g 8 (xs.drop 4) W h (hdb 4) (by omega) (by omega) (by rw [List.length_drop]; omega))
  have C4 := Lib.hid (fun (W : World) (h : RdB W g g (xs.drop 12)) => ftakeC g g 16 (xs.drop 12) W h (hdb 12) (by omega) (by omega) (by rw [List.length_drop]; omega))
  have C5 := Lib.hid (fun (W : World) (h : RdB W g g (xs.drop 28)) => ftakeC g g 16 (xs.drop 28) W h (hdb 28) (by omega) (by omega) (by rw [List.length_drop]; omega))
  rw [show List.drop 8 (xs.drop 4) = xs.drop 12 from by rw [List.drop_drop]] at C3
  rw [show List.drop 16 (xs.drop 12) = xs.drop 28 from by rw [List.drop_drop]] at C4
  rw [show List.drop 16 (xs.drop 28) = xs.drop 44 from by rw [List.drop_drop]] at C5
  generalize num (xs.take 2) = ve at *
  rw [hz] at C2
  have y3 := num_take_lt (xs.drop 4) (hdb 4) 8
  have y4 := num_take_lt (xs.drop 12) (hdb 12) 16
  generalize num ((xs.drop 4).take 8) = le at *
  generalize num ((xs.drop 12).take 16) = sq at *
  generalize num ((xs.drop 28).take 16) = su at *
  have e1 : IntKind.u16.wrap (sq : Int) = (sq : Int) := by rw [wrap_u16]; omega
  go_upto_region 2 with (first | (go_at_call 150; refine C1.out.mono ?_; rintro e w2 ⟨rfl, f2, k2⟩) | (refine at_alloc rfl 32 rfl _ zeroF ?_; intro w3 L3) | (refine at_store rfl 32 _ _ rfl w2.heap.size (FV 1 0 ve 0 (.slice none 0 0) 0 0) rfl rfl 32 _ L3.row (infoF _ _ _ _ _ _ _) rfl (FV_all _ _ _ _ _ _ _ _ _) ?_; intro w4 L4))
  have b24 : Below w2.heap.size w2 w4 := L3.bel.trans (L4.below (Nat.le_refl _))
  have k4 := k2.below b24 (by have := k2.lt; omega) k2.lt
  have f4 : Fr w w4 g none := (F1.trans f2).trans (Fr.of b24 g)
  have p4 : Blk w4 w2.heap.size 32 (FV 1 0 ve 0 (.slice none 0 0) 0 0) := L4.row
  have q4 : Blk w4 r2 32 (FV 0 0 0 0 (.slice none 0 0) 0 0) := (f2.trans (Fr.of b24 g)).blk q1 HNG.out
  obtain ⟨g4, hg4⟩ : ∃ g, g = w2.heap.size := ⟨_, rfl⟩
  have HG4 : Hid (g4 ≠ g) := by unfold Hid; have := k2.lt; omega
  have HR4 : Hid (r2 ≠ g4) := by unfold Hid; have h1 := (f2.blk q1 HNG.out).lt; omega
  have HW4 : Hid (w.heap.size ≤ g4) := by unfold Hid; have := f2.size; have := F1.size; omega
  rw [← hg4] at p4 ⊢
  clear L3 L4 hg4 b24 q1 k2 F1 f2 R1 C1
  have HGG : Hid (g ≤ g4) := by unfold Hid; have := HW4.out; omega
  have HGG2 : Hid (g < g4) := by unfold Hid; have := HW4.out; omega
  go_wp2_with fail
  refine (C2.out _ k4).mono ?_; rintro e w5 ⟨rfl, f5, k5⟩
  have p5 := f5.blk p4 HG4.out
  have q5 := f5.blk q4 HNG.out
  have g5 := f4.trans f5
  clear p4 q4 k4 f4 f5
  go_upto_region 5 with (first | (go_at_call 150; refine (C3.out _ k5).mono ?_; rintro e w6 ⟨rfl, f6, k6⟩; have p6 := f6.blk p5 HG4.out) | (refine at_cell rfl 3 _ _ rfl g4 3 (.int .i64 (le : Int)) rfl rfl 32 _ p6 (show 3 < 7 by omega) info3one rfl ?_; intro w7 h7))
  have p7 : Blk w7 g4 32 (FV 1 0 ve le (.slice none 0 0) 0 0) := h7.row
  have k7 := k6.below (h7.below (Nat.le_refl g4)) HGG.out HGG2.out
  have q7 := h7.blk (f6.blk q5 HNG.out) HR4.out
  have g7 := (g5.trans f6).updN h7 HW4.out
  clear p5 q5 k5 g5 f6 k6 p6 h7
  go_upto_region 6 with (first | (go_at_call 150; refine (C4.out _ k7).mono ?_; rintro e w8 ⟨rfl, f8, k8⟩; have p8 := f8.blk p7 HG4.out) | (refine at_cell rfl 28 _ _ rfl g4 1 (.int .u16 (sq : Int)) rfl rfl 32 _ p8 (show 1 < 7 by omega) infoNum1 rfl ?_; intro w9 h9))
  have p9 : Blk w9 g4 32 (FV 1 sq ve le (.slice none 0 0) 0 0) := h9.row
  have k9 := k8.below (h9.below (Nat.le_refl g4)) HGG.out HGG2.out
  have q9 := h9.blk (f8.blk q7 HNG.out) HR4.out
  have g9 := (g7.trans f8).updN h9 HW4.out
  clear p7 q7 k7 g7 f8 k8 p8 h9
  go_wp2_with fail
  refine (C5.out _ k9).mono ?_; rintro e wq ⟨rfl, fq, kq⟩
  have pq := fq.blk p9 HG4.out
  have q2 := fq.blk q9 HNG.out
  have HFR0 : Hid (Fr w wq g none) := g9.trans fq
  have c3 : wq.cell? ⟨g4, 3, none⟩ = some (.int .i64 (le : Int)) := (pq.cell 3).trans rfl
  clear p9 q9 k9 g9 fq
  have C6 := Lib.hid (isLenC (le : Int) wq)
  rw [decide_eq_false (p := (le : Int) ≤ 64) (by omega), Bool.and_false] at C6
  go_upto_region 8 with (go_at_call 42; refine C6.out.mono ?_; rintro e w' ⟨rfl, rfl⟩)
  have HQL : Hid (r2 < wq.heap.size) := q2.lt
  have hEq := hE.fr HFR0.out (Nat.le_of_lt hgl) h5 hla
  have hKeep : ∀ W, Below r2 wq W → W.cell? ⟨4, 0, none⟩ = some (.iface 296 (.pointer (some (a 4)))) := fun W hW => (hW.cell (p := ⟨4, 0, none⟩) (by have := HGR.out; show 4 < r2; omega)).trans (hEq.var 4 (by omega))
  refine wp_region_noPanic ?_
  refine wp_region_held_drew (S := fun W => W.cell? ⟨4, 0, none⟩ = some (.iface 296 (.pointer (some (a 4))))) (by kernel_rfl) (hKeep _ (Below.refl _ _).drew) (fun hHeld => ?_)
  refine wpAnyH_take (i := 0) (oi := ⟨some 31, _, _, _, _, _⟩) (v := ?_) rfl (by kernel_rfl) (by kernel_rfl) (by kernel_rfl) (fun _ _ _ h => h) (Or.inl ⟨by rfl, ?_⟩) hHeld ?_
  rotate_left
  · intro W hSW; have hSW0 := hSW; go_simp; first | done | with_reducible rfl
  (try simp only [Act.put, List.setIfInBounds_toArray, List.set_cons_zero, List.set_cons_succ])
  refine wpAnyH_take (i := 1) (oi := ⟨some 32, _, _, _, _, _⟩) (v := ?_) rfl (by kernel_rfl) (by kernel_rfl) (by kernel_rfl) (fun _ _ _ h => h) (Or.inl ⟨by rfl, ?_⟩) hHeld ?_
  rotate_left
  · intro W hSW; have hSW0 := hSW; go_simp; first | done | with_reducible rfl
  (try simp only [Act.put, List.setIfInBounds_toArray, List.set_cons_zero, List.set_cons_succ])
  refine wpAnyH_take (i := 2) (oi := ⟨some 33, _, _, _, _, _⟩) (v := ?_) rfl (by kernel_rfl) (by kernel_rfl) (by kernel_rfl) (fun _ _ _ h => h) (Or.inl ⟨by rfl, ?_⟩) hHeld ?_
  rotate_left
  · intro W hSW; have hSW0 := hSW; go_simp; first | done | with_reducible rfl
  (try simp only [Act.put, List.setIfInBounds_toArray, List.set_cons_zero, List.set_cons_succ])
  refine wpAnyH_ready (rs := [3, 5]) (by kernel_rfl) (by simp) ?_
  refine AllReadyH.cons (o := ⟨some 34, _, _, _, _, _⟩) rfl (fun K hK => ?_) (AllReadyH.cons (o := ⟨none, _, _, _, _, _⟩) rfl (fun K hK => ?_) (AllReadyH.nil))
  · refine step_box (by rfl) 132 _ (by rfl) #[.string _, .iface 296 (.pointer (some (a 4)))] (by rfl) ?_
    intro WB LB
    clear hHeld
    refine hK.out _ _ ?_ (fun hHeld => ?_)
    · exact hKeep _ ((Below.refl _ _).drew.trans (LB.bel.mono (Nat.le_of_lt HQL.out)))
    clear hK K
    (try simp only [Act.put, List.setIfInBounds_toArray, List.set_cons_zero, List.set_cons_succ])
    refine wpAnyH_take (i := 4) (oi := ⟨some 35, _, _, _, _, _⟩) (v := ?_) rfl (by kernel_rfl) (by kernel_rfl) (by kernel_rfl) (fun _ _ _ h => h) (Or.inl ⟨by rfl, ?_⟩) hHeld ?_
    rotate_left
    · intro W hSW; have hSW0 := hSW; go_simp; first | done | with_reducible rfl
    (try simp only [Act.put, List.setIfInBounds_toArray, List.set_cons_zero, List.set_cons_succ])
    refine wpAnyH_ready (rs := [5]) (by kernel_rfl) (by simp) ?_
    refine AllReadyH.cons (o := ⟨none, _, _, _, _, _⟩) rfl (fun K hK => ?_) (AllReadyH.nil)
    refine step_store (by rfl) 32 _ _ (by rfl) r2 (FV 0 0 0 0 (.slice none 0 0) 0 0) (by rfl) (by rfl) 32 _ (q2.drew.after LB.bel) (infoF _ _ _ _ _ _ _) rfl (FV_all _ _ _ _ _ _ _ _ _) ?_
    intro WS HS
    clear hHeld
    refine hK.out _ _ ?_ (fun hHeld => ?_)
    · exact hKeep _ (((Below.refl _ _).drew.trans (LB.bel.mono (Nat.le_of_lt HQL.out))).trans (HS.below (Nat.le_refl _)))
    clear hK K
    (try simp only [Act.put, List.setIfInBounds_toArray, List.set_cons_zero, List.set_cons_succ])
    refine wpAnyH_take (i := 6) (oi := ⟨some 3, _, _, _, _, _⟩) (v := ?_) rfl (by kernel_rfl) (by kernel_rfl) (by kernel_rfl) (fun _ _ _ h => h) (Or.inl ⟨by rfl, ?_⟩) hHeld ?_
    rotate_left
    · intro W hSW; have hSW0 := hSW; go_simp; first | done | with_reducible rfl
    (try simp only [Act.put, List.setIfInBounds_toArray, List.set_cons_zero, List.set_cons_succ])
    refine wpAnyH_done (by kernel_rfl) ?_ _
    refine NoPanic.normal ?_
    clear hHeld
    have FR : Fr w WS g none := (HFR0.out.trans (Fr.of ((Below.refl _ _).drew.trans LB.bel) g)).updN HS HRW.out
    have QR : Blk WS r2 32 (FV 0 0 0 0 (.slice none 0 0) 0 0) := HS.row
    have ER := HS.blk LB.row (Nat.ne_of_gt HQL.out)
    clear LB HS
    go_wp2
    refine bodyPost_ret (v := .tuple #[.agg (FV 0 0 0 0 (.slice none 0 0) 0 0), _]) (results_row_tmp rfl _ _ r2 32 _ _ rfl _ rfl QR Tryd.underlying32 rfl (infoF _ _ _ _ _ _ _)) rfl ?_
    exact ⟨_, rfl, ⟨by omega, _, _, rfl, ER⟩, FR⟩
  · refine step_store (by rfl) 32 _ _ (by rfl) r2 (FV 0 0 0 0 (.slice none 0 0) 0 0) (by rfl) (by rfl) 32 _ q2.drew (infoF _ _ _ _ _ _ _) rfl (FV_all _ _ _ _ _ _ _ _ _) ?_
    intro WS HS
    clear hHeld
    refine hK.out _ _ ?_ (fun hHeld => ?_)
    · exact hKeep _ ((Below.refl _ _).drew.trans (HS.below (Nat.le_refl _)))
    clear hK K
    (try simp only [Act.put, List.setIfInBounds_toArray, List.set_cons_zero, List.set_cons_succ])
    refine wpAnyH_ready (rs := [3]) (by kernel_rfl) (by simp) ?_
    refine AllReadyH.cons (o := ⟨some 34, _, _, _, _, _⟩) rfl (fun K hK => ?_) (AllReadyH.nil)
    refine step_box (by rfl) 132 _ (by rfl) #[.string _, .iface 296 (.pointer (some (a 4)))] (by rfl) ?_
    intro WB LB
    clear hHeld
    refine hK.out _ _ ?_ (fun hHeld => ?_)
    · exact hKeep _ (((Below.refl _ _).drew.trans (HS.below (Nat.le_refl _))).trans (LB.bel.mono (by rw [HS.size]; exact Nat.le_of_lt HQL.out)))
    clear hK K
    (try simp only [Act.put, List.setIfInBounds_toArray, List.set_cons_zero, List.set_cons_succ])
    refine wpAnyH_take (i := 4) (oi := ⟨some 35, _, _, _, _, _⟩) (v := ?_) rfl (by kernel_rfl) (by kernel_rfl) (by kernel_rfl) (fun _ _ _ h => h) (Or.inl ⟨by rfl, ?_⟩) hHeld ?_
    rotate_left
    · intro W hSW; have hSW0 := hSW; go_simp; first | done | with_reducible rfl
    (try simp only [Act.put, List.setIfInBounds_toArray, List.set_cons_zero, List.set_cons_succ])
    refine wpAnyH_take (i := 6) (oi := ⟨some 3, _, _, _, _, _⟩) (v := ?_) rfl (by kernel_rfl) (by kernel_rfl) (by kernel_rfl) (fun _ _ _ h => h) (Or.inl ⟨by rfl, ?_⟩) hHeld ?_
    rotate_left
    · intro W hSW; have hSW0 := hSW; go_simp; first | done | with_reducible rfl
    (try simp only [Act.put, List.setIfInBounds_toArray, List.set_cons_zero, List.set_cons_succ])
    refine wpAnyH_done (by kernel_rfl) ?_ _
    refine NoPanic.normal ?_
    clear hHeld
    have FR : Fr w WB g none := ((HFR0.out.trans (Fr.of (Below.refl _ _).drew g)).updN HS HRW.out).trans (Fr.of LB.bel g)
    have QR : Blk WB r2 32 (FV 0 0 0 0 (.slice none 0 0) 0 0) := HS.row.after LB.bel
    have ER := LB.row
    clear LB HS
    go_wp2
    refine bodyPost_ret (v := .tuple #[.agg (FV 0 0 0 0 (.slice none 0 0) 0 0), _]) (results_row_tmp rfl _ _ r2 32 _ _ rfl _ rfl QR Tryd.underlying32 rfl (infoF _ _ _ _ _ _ _)) rfl ?_
    exact ⟨_, rfl, ⟨by omega, _, _, rfl, ER⟩, FR⟩
set_option maxHeartbeats 2000000 in
/-- frame.readData: too few bits. -/
theorem readDataShort (g : Nat) (xs : List Nat) (a : Nat → Addr) (w : World) (h : RdB w g g xs) (hb : ∀ x ∈ xs, x ≤ 1) (hl : 44 ≤ xs.length) (hz : num ((xs.drop 2).take 2) = 0) (hle : num ((xs.drop 4).take 8) ≤ 64) (hs : xs.length - 44 < 8 * (num ((xs.drop 4).take 8) + 4) + 6) :
    Calls Tryd.prog 122 #[.pointer (some ⟨g, 0, none⟩)] w (RR w g a (FV 0 0 0 0 (.slice none 0 0) 0 0) (.told 2)) := by
  obtain ⟨ve, hve⟩ : ∃ b, b = num (xs.take 2) := ⟨_, rfl⟩
  obtain ⟨le, hle2⟩ : ∃ b, b = num ((xs.drop 4).take 8) := ⟨_, rfl⟩
  obtain ⟨sq, hsq⟩ : ∃ b, b = num ((xs.drop 12).take 16) := ⟨_, rfl⟩
  rw [← hle2] at hle hs
  have hgl := h.lt
  go_enter Tryd.func122, Tryd.ntmps122
  go_upto_region 1 with (refine at_alloc rfl 32 rfl _ zeroF ?_; intro w1 L1)
  have R1 := h.below L1.bel (Nat.le_of_lt hgl) hgl
  have q1 := L1.row
  have F1 := Fr.of L1.bel g
  have HS1 := Lib.hid L1.size
  obtain ⟨r2, hr2⟩ : ∃ r, r = w.heap.size := ⟨_, rfl⟩
  have HRW : Hid (w.heap.size ≤ r2) := by unfold Hid; omega
  have HNG : Hid (r2 ≠ g) := by unfold Hid; omega
  have HGR : Hid (g < r2) := by unfold Hid; omega
  rw [← hr2] at q1 ⊢
  clear L1 hr2
  have hdb : ∀ k, ∀ x ∈ xs.drop k, x ≤ 1 := fun k x hx => hb x (List.mem_of_mem_drop hx)
  have C1 := Lib.hid (ftakeC g g 2 xs w1 R1 hb (by omega) (by omega) (by omega))
  have C2 := Lib.hid (fun (W : World) (h : RdB W g g (xs.drop 2)) => ftakeC g g 2 (xs.drop 2) W h (hdb 2) (by omega) (by omega) (by rw [List.length_drop]; omega))
  rw [show List.drop 2 (xs.drop 2) = xs.drop 4 from by rw [List.drop_drop]] at C2
  have C3 := Lib.hid (fun (W : World) (h : RdB W g g (xs.drop 4)) => ftakeC g g 8 (xs.drop 4) W h (hdb 4) (by omega) (by omega) (by rw [List.length_drop]; omega))
  have C4 := Lib.hid (fun (W : World) (h : RdB W g g (xs.drop 12)) => ftakeC g g 16 (xs.drop 12) W h (hdb 12) (by omega) (by omega) (by rw [List.length_drop]; omega))
  have C5 := Lib.hid (fun (W : World) (h : RdB W g g (xs.drop 28)) => ftakeC g g 16 (xs.drop 28) W h (hdb 28) (by omega) (by omega) (by rw [List.length_drop]; omega))
  rw [show List.drop 8 (xs.drop 4) = xs.drop 12 from by rw [List.drop_drop]] at C3
  rw [show List.drop 16 (xs.drop 12) = xs.drop 28 from by rw [List.drop_drop]] at C4
  rw [show List.drop 16 (xs.drop 28) = xs.drop 44 from by rw [List.drop_drop]] at C5
  rw [← hve] at C1
  rw [hz] at C2
  have y3 := num_take_lt (xs.drop 4) (hdb 4) 8
  have y4 := num_take_lt (xs.drop 12) (hdb 12) 16
  rw [← hle2] at C3 y3
  rw [← hsq] at C4 y4
  clear hve hle2 hsq
  generalize num ((xs.drop 28).take 16) = su at *
  have e1 : IntKind.u16.wrap (sq : Int) = (sq : Int) := by rw [wrap_u16]; omega
  go_upto_region 2 with (first | (go_at_call 150; refine C1.out.mono ?_; rintro e w2 ⟨rfl, f2, k2⟩) | (refine at_alloc rfl 32 rfl _ zeroF ?_; intro w3 L3) | (refine at_store rfl 32 _ _ rfl w2.heap.size (FV 1 0 ve 0 (.slice none 0 0) 0 0) rfl rfl 32 _ L3.row (infoF _ _ _ _ _ _ _) rfl (FV_all _ _ _ _ _ _ _ _ _) ?_; intro w4 L4))
  have b24 : Below w2.heap.size w2 w4 := L3.bel.trans (L4.below (Nat.le_refl _))
  have k4 := k2.below b24 (by have := k2.lt; omega) k2.lt
  have f4 : Fr w w4 g none := (F1.trans f2).trans (Fr.of b24 g)
  have p4 : Blk w4 w2.heap.size 32 (FV 1 0 ve 0 (.slice none 0 0) 0 0) := L4.row
  have q4 : Blk w4 r2 32 (FV 0 0 0 0 (.slice none 0 0) 0 0) := (f2.trans (Fr.of b24 g)).blk q1 HNG.out
  obtain ⟨g4, hg4⟩ : ∃ g, g = w2.heap.size := ⟨_, rfl⟩
  have HG4 : Hid (g4 ≠ g) := by unfold Hid; have := k2.lt; omega
  have HR4 : Hid (r2 ≠ g4) := by unfold Hid; have h1 := (f2.blk q1 HNG.out).lt; omega
  have HW4 : Hid (w.heap.size ≤ g4) := by unfold Hid; have := f2.size; have := F1.size; omega
  rw [← hg4] at p4 ⊢
  clear L3 L4 hg4 b24 q1 k2 F1 f2 R1 C1
  have HGG : Hid (g ≤ g4) := by unfold Hid; have := HW4.out; omega
  have HGG2 : Hid (g < g4) := by unfold Hid; have := HW4.out; omega
  go_wp2_with fail
  refine (C2.out _ k4).mono ?_; rintro e w5 ⟨rfl, f5, k5⟩
  have p5 := f5.blk p4 HG4.out
  have q5 := f5.blk q4 HNG.out
  have g5 := f4.trans f5
  clear p4 q4 k4 f4 f5
  go_upto_region 5 with (first | (go_at_call 150; refine (C3.out _ k5).mono ?_; rintro e w6 ⟨rfl, f6, k6⟩; have p6 := f6.blk p5 HG4.out) | (refine at_cell rfl 3 _ _ rfl g4 3 (.int .i64 (le : Int)) rfl rfl 32 _ p6 (show 3 < 7 by omega) info3one rfl ?_; intro w7 h7))
  have p7 : Blk w7 g4 32 (FV 1 0 ve le (.slice none 0 0) 0 0) := h7.row
  have k7 := k6.below (h7.below (Nat.le_refl g4)) HGG.out HGG2.out
  have q7 := h7.blk (f6.blk q5 HNG.out) HR4.out
  have g7 := (g5.trans f6).updN h7 HW4.out
  clear p5 q5 k5 g5 f6 k6 p6 h7
  go_upto_region 6 with (first | (go_at_call 150; refine (C4.out _ k7).mono ?_; rintro e w8 ⟨rfl, f8, k8⟩; have p8 := f8.blk p7 HG4.out) | (refine at_cell rfl 28 _ _ rfl g4 1 (.int .u16 (sq : Int)) rfl rfl 32 _ p8 (show 1 < 7 by omega) infoNum1 rfl ?_; intro w9 h9))
  have p9 : Blk w9 g4 32 (FV 1 sq ve le (.slice none 0 0) 0 0) := h9.row
  have k9 := k8.below (h9.below (Nat.le_refl g4)) HGG.out HGG2.out
  have q9 := h9.blk (f8.blk q7 HNG.out) HR4.out
  have g9 := (g7.trans f8).updN h9 HW4.out
  clear p7 q7 k7 g7 f8 k8 p8 h9
  go_wp2_with fail
  refine (C5.out _ k9).mono ?_; rintro e wq ⟨rfl, fq, kq⟩
  have pq := fq.blk p9 HG4.out
  have q2 := fq.blk q9 HNG.out
  have HFR0 : Hid (Fr w wq g none) := g9.trans fq
  have c3 : wq.cell? ⟨g4, 3, none⟩ = some (.int .i64 (le : Int)) := (pq.cell 3).trans rfl
  clear p9 q9 k9 g9 fq
  have C6 := Lib.hid (isLenC (le : Int) wq)
  rw [decide_eq_true (show (0 : Int) ≤ (le : Int) by omega), decide_eq_true (show (le : Int) ≤ 64 by omega)] at C6
  have C7 := Lib.hid (bitsC16 (le : Int) wq)
  rw [show fb (le : Int) = ((8 * (le + 4) + 6 : Nat) : Int) from (if_pos ⟨by omega, by omega⟩).trans (by omega)] at C7
  have C8 := Lib.hid (takeBitsC g g (8 * (le + 4) + 6) (xs.drop 44) wq kq (hdb 44) (by omega) (Nat.le_of_lt kq.lt))
  have hgq := kq.lt
  generalize 8 * (le + 4) + 6 = nb at *
  have hsl : (xs.drop 44).length < nb := by rw [List.length_drop]; exact hs
  go_upto_region 10 with (first | (go_at_call 42; refine C6.out.mono ?_; rintro e w' ⟨rfl, rfl⟩) | (go_at_call 14; refine C7.out.mono ?_; rintro e w' ⟨rfl, rfl⟩) | (go_at_call 151; refine C8.out.mono ?_; rintro e wt ⟨ft, hor⟩; rcases hor with ⟨h1, _⟩ | ⟨_, rfl⟩; exact absurd h1 (by omega)))
  have qt := ft.blk q2 HNG.out
  have HFT : Hid (Fr w wt g none) := HFR0.out.trans ft
  go_wp2_with (first | (refine at_box rfl 132 _ rfl #[.string _, .iface 136 (.int .i64 2)] rfl ?_; intro wb LB) | (refine at_store rfl 32 _ _ rfl r2 (FV 0 0 0 0 (.slice none 0 0) 0 0) rfl rfl 32 _ (qt.after LB.bel) (infoF _ _ _ _ _ _ _) rfl (FV_all _ _ _ _ _ _ _ _ _) ?_; intro ws HS))
  refine bodyPost_ret (v := .tuple #[.agg (FV 0 0 0 0 (.slice none 0 0) 0 0), _]) (results_row_tmp rfl _ _ r2 32 _ _ rfl _ rfl HS.row Tryd.underlying32 rfl (infoF _ _ _ _ _ _ _)) rfl ?_
  exact ⟨_, rfl, ⟨_, _, rfl, HS.blk LB.row (Nat.ne_of_gt qt.lt)⟩, (HFT.out.trans (Fr.of LB.bel g)).updN HS HRW.out⟩
set_option maxHeartbeats 2000000 in
/-- frame.readData. -/
theorem readDataYes (g : Nat) (xs : List Nat) (w : World) (h : RdB w g g xs) (hb : ∀ x ∈ xs, x ≤ 1) (hl : 44 ≤ xs.length) (hz : num ((xs.drop 2).take 2) = 0) (hle : num ((xs.drop 4).take 8) ≤ 64) (hs : 8 * (num ((xs.drop 4).take 8) + 4) + 6 ≤ xs.length - 44) :
    Calls Tryd.prog 122 #[.pointer (some ⟨g, 0, none⟩)] w fun e w' => ∃ A n c, e = .returned (.tuple #[.agg (FV 1 (num ((xs.drop 12).take 16)) (num (xs.take 2)) (num ((xs.drop 4).take 8)) (.slice A n c) 0 0), .nilIface]) ∧ Own w' w.heap.size 5 A n c (U8 ((xs.drop 44).take (8 * (num ((xs.drop 4).take 8) + 4) + 6))) ∧ Fr w w' g none ∧ RdB w' g g (xs.drop (44 + (8 * (num ((xs.drop 4).take 8) + 4) + 6))) := by
  obtain ⟨ve, hve⟩ : ∃ b, b = num (xs.take 2) := ⟨_, rfl⟩
  obtain ⟨le, hle2⟩ : ∃ b, b = num ((xs.drop 4).take 8) := ⟨_, rfl⟩
  obtain ⟨sq, hsq⟩ : ∃ b, b = num ((xs.drop 12).take 16) := ⟨_, rfl⟩
  rw [← hle2] at hle hs
  rw [← hle2, ← hve, ← hsq]
  have hgl := h.lt
  go_enter Tryd.func122, Tryd.ntmps122
  go_upto_region 1 with (refine at_alloc rfl 32 rfl _ zeroF ?_; intro w1 L1)
  have R1 := h.below L1.bel (Nat.le_of_lt hgl) hgl
  have q1 := L1.row
  have F1 := Fr.of L1.bel g
  have HS1 := Lib.hid L1.size
  obtain ⟨r2, hr2⟩ : ∃ r, r = w.heap.size := ⟨_, rfl⟩
  have HRW : Hid (w.heap.size ≤ r2) := by unfold Hid; omega
  have HNG : Hid (r2 ≠ g) := by unfold Hid; omega
  have HGR : Hid (g < r2) := by unfold Hid; omega
  rw [← hr2] at q1 ⊢
  clear L1 hr2
  have hdb : ∀ k, ∀ x ∈ xs.drop k, x ≤ 1 := fun k x hx => hb x (List.mem_of_mem_drop hx)
  have C1 := Lib.hid (ftakeC g g 2 xs w1 R1 hb (by omega) (by omega) (by omega))
  have C2 := Lib.hid (fun (W : World) (h : RdB W g g (xs.drop 2)) => ftakeC g g 2 (xs.drop 2) W h (hdb 2) (by omega) (by omega) (by rw [List.length_drop]; omega))
  rw [show List.drop 2 (xs.drop 2) = xs.drop 4 from by rw [List.drop_drop]] at C2
  have C3 := Lib.hid (fun (W : World) (h : RdB W g g (xs.drop 4)) => ftakeC g g 8 (xs.drop 4) W h (hdb 4) (by omega) (by omega) (by rw [List.length_drop]; omega))
  have C4 := Lib.hid (fun (W : World) (h : RdB W g g (xs.drop 12)) => ftakeC g g 16 (xs.drop 12) W h (hdb 12) (by omega) (by omega) (by rw [List.length_drop]; omega))
  have C5 := Lib.hid (fun (W : World) (h : RdB W g g (xs.drop 28)) => ftakeC g g 16 (xs.drop 28) W h (hdb 28) (by omega) (by omega) (by rw [List.length_drop]; omega))
  rw [show List.drop 8 (xs.drop 4) = xs.drop 12 from by rw [List.drop_drop]] at C3
  rw [show List.drop 16 (xs.drop 12) = xs.drop 28 from by rw [List.drop_drop]] at C4
  rw [show List.drop 16 (xs.drop 28) = xs.drop 44 from by rw [List.drop_drop]] at C5
  rw [← hve] at C1
  rw [hz] at C2
  have y3 := num_take_lt (xs.drop 4) (hdb 4) 8
  have y4 := num_take_lt (xs.drop 12) (hdb 12) 16
  rw [← hle2] at C3 y3
  rw [← hsq] at C4 y4
  clear hve hle2 hsq
  generalize num ((xs.drop 28).take 16) = su at *
  have e1 : IntKind.u16.wrap (sq : Int) = (sq : Int) := by rw [wrap_u16]; omega
  go_upto_region 2 with (first | (go_at_call 150; refine C1.out.mono ?_; rintro e w2 ⟨rfl, f2, k2⟩) | (refine at_alloc rfl 32 rfl _ zeroF ?_; intro w3 L3) | (refine at_store rfl 32 _ _ rfl w2.heap.size (FV 1 0 ve 0 (.slice none 0 0) 0 0) rfl rfl 32 _ L3.row (infoF _ _ _ _ _ _ _) rfl (FV_all _ _ _ _ _ _ _ _ _) ?_; intro w4 L4))
  have b24 : Below w2.heap.size w2 w4 := L3.bel.trans (L4.below (Nat.le_refl _))
  have k4 := k2.below b24 (by have := k2.lt; omega) k2.lt
  have f4 : Fr w w4 g none := (F1.trans f2).trans (Fr.of b24 g)
  have p4 : Blk w4 w2.heap.size 32 (FV 1 0 ve 0 (.slice none 0 0) 0 0) := L4.row
  have q4 : Blk w4 r2 32 (FV 0 0 0 0 (.slice none 0 0) 0 0) := (f2.trans (Fr.of b24 g)).blk q1 HNG.out
  obtain ⟨g4, hg4⟩ : ∃ g, g = w2.heap.size := ⟨_, rfl⟩
  have HG4 : Hid (g4 ≠ g) := by unfold Hid; have := k2.lt; omega
  have HR4 : Hid (r2 ≠ g4) := by unfold Hid; have h1 := (f2.blk q1 HNG.out).lt; omega
  have HW4 : Hid (w.heap.size ≤ g4) := by unfold Hid; have := f2.size; have := F1.size; omega
  rw [← hg4] at p4 ⊢
  clear L3 L4 hg4 b24 q1 k2 F1 f2 R1 C1
  have HGG : Hid (g ≤ g4) := by unfold Hid; have := HW4.out; omega
  have HGG2 : Hid (g < g4) := by unfold Hid; have := HW4.out; omega
  go_wp2_with fail
  refine (C2.out _ k4).mono ?_; rintro e w5 ⟨rfl, f5, k5⟩
  have p5 := f5.blk p4 HG4.out
  have q5 := f5.blk q4 HNG.out
  have g5 := f4.trans f5
  clear p4 q4 k4 f4 f5
  go_upto_region 5 with (first | (go_at_call 150; refine (C3.out _ k5).mono ?_; rintro e w6 ⟨rfl, f6, k6⟩; have p6 := f6.blk p5 HG4.out) | (refine at_cell rfl 3 _ _ rfl g4 3 (.int .i64 (le : Int)) rfl rfl 32 _ p6 (show 3 < 7 by omega) info3one rfl ?_; intro w7 h7))
  have p7 : Blk w7 g4 32 (FV 1 0 ve le (.slice none 0 0) 0 0) := h7.row
  have k7 := k6.below (h7.below (Nat.le_refl g4)) HGG.out HGG2.out
  have q7 := h7.blk (f6.blk q5 HNG.out) HR4.out
  have g7 := (g5.trans f6).updN h7 HW4.out
  clear p5 q5 k5 g5 f6 k6 p6 h7
  go_upto_region 6 with (first | (go_at_call 150; refine (C4.out _ k7).mono ?_; rintro e w8 ⟨rfl, f8, k8⟩; have p8 := f8.blk p7 HG4.out) | (refine at_cell rfl 28 _ _ rfl g4 1 (.int .u16 (sq : Int)) rfl rfl 32 _ p8 (show 1 < 7 by omega) infoNum1 rfl ?_; intro w9 h9))
  have p9 : Blk w9 g4 32 (FV 1 sq ve le (.slice none 0 0) 0 0) := h9.row
  have k9 := k8.below (h9.below (Nat.le_refl g4)) HGG.out HGG2.out
  have q9 := h9.blk (f8.blk q7 HNG.out) HR4.out
  have g9 := (g7.trans f8).updN h9 HW4.out
  clear p7 q7 k7 g7 f8 k8 p8 h9
  go_wp2_with fail
  refine (C5.out _ k9).mono ?_; rintro e wq ⟨rfl, fq, kq⟩
  have pq := fq.blk p9 HG4.out
  have q2 := fq.blk q9 HNG.out
  have HFR0 : Hid (Fr w wq g none) := g9.trans fq
  have c3 : wq.cell? ⟨g4, 3, none⟩ = some (.int .i64 (le : Int)) := (pq.cell 3).trans rfl
  clear p9 q9 k9 g9 fq
  have C6 := Lib.hid (isLenC (le : Int) wq)
  rw [decide_eq_true (show (0 : Int) ≤ (le : Int) by omega), decide_eq_true (show (le : Int) ≤ 64 by omega)] at C6
  have C7 := Lib.hid (bitsC16 (le : Int) wq)
  rw [show fb (le : Int) = ((8 * (le + 4) + 6 : Nat) : Int) from (if_pos ⟨by omega, by omega⟩).trans (by omega)] at C7
  have C8 := Lib.hid (takeBitsC g g (8 * (le + 4) + 6) (xs.drop 44) wq kq (hdb 44) (by omega) (Nat.le_of_lt kq.lt))
  have hgq := kq.lt
  obtain ⟨nb, hnb⟩ : ∃ n, n = 8 * (le + 4) + 6 := ⟨_, rfl⟩
  rw [← hnb] at C7 C8 hs
  have HNB := Lib.hid hnb
  clear hnb
  have hsl : nb ≤ (xs.drop 44).length := by rw [List.length_drop]; exact hs
  go_upto_region 12 with (first | (go_at_call 42; refine C6.out.mono ?_; rintro e w' ⟨rfl, rfl⟩) | (go_at_call 14; refine C7.out.mono ?_; rintro e w' ⟨rfl, rfl⟩) | (go_at_call 151; refine C8.out.mono ?_; rintro e wt ⟨ft, hor⟩; rcases hor with ⟨_, A5, n5, c5, rfl, own5, kt⟩ | ⟨h1, _⟩; rotate_left; exact absurd h1 (by omega)))
  have qt := ft.blk q2 HNG.out
  have pt := ft.blk pq HG4.out
  have HFT : Hid (Fr w wt g none) := HFR0.out.trans ft
  have HOB : Hid (w.heap.size ≤ wq.heap.size) := HFR0.out.size
  have HO4 : Hid (g4 < wq.heap.size) := pq.lt
  have HOR : Hid (r2 < wq.heap.size) := q2.lt
  clear q2 pq c3 C8 kq
  go_upto_region 13 with (refine at_cell rfl 22 _ _ rfl g4 4 (.slice A5 n5 c5) rfl rfl 32 _ pt (show 4 < 7 by omega) infoB1 rfl ?_; intro wc hc)
  have pc : Blk wc g4 32 (FV 1 sq ve le (.slice A5 n5 c5) 0 0) := hc.row
  have qc := hc.blk qt HR4.out
  go_wp2_with (first | (refine at_load rfl 32 _ rfl g4 rfl 32 (FV 1 sq ve le (.slice A5 n5 c5) 0 0) _ pc Tryd.underlying32 rfl (infoF _ _ _ _ _ _ _) ?_) | (refine at_store rfl 32 _ _ rfl r2 (FV 1 sq ve le (.slice A5 n5 c5) 0 0) rfl rfl 32 _ qc (infoF _ _ _ _ _ _ _) rfl (FV_all _ _ _ _ _ _ _ _ _) ?_; intro ws HS))
  refine bodyPost_ret (v := .tuple #[.agg (FV 1 sq ve le (.slice A5 n5 c5) 0 0), .nilIface]) (results_row_tmp rfl _ _ r2 32 _ _ rfl _ rfl HS.row Tryd.underlying32 rfl (infoF _ _ _ _ _ _ _)) rfl ?_
  refine ⟨A5, n5, c5, rfl, ?_, (HFT.out.updN hc HW4.out).updN HS HRW.out, ?_⟩
  · rw [← HNB.out]
    have o1 := own5.upd hc HO4.out
    exact (o1.upd HS HOR.out).down HOB.out
  · have k1 := (kt.below (hc.below (Nat.le_refl g4)) HGG.out HGG2.out).below (HS.below (Nat.le_refl r2)) (Nat.le_of_lt HGR.out) HGR.out
    rw [List.drop_drop, HNB.out] at k1
    exact k1
end Go.Proofs.YtkmacepodomdmaaDoor
