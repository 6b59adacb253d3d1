/-
  Frames of the reference: tame, to.
-/
import Derived.Test.YtkmacepodomdmaaDoorFj
namespace Go.Proofs.YtkmacepodomdmaaDoor
open Go.RowKit
set_option maxRecDepth 100000
set_option linter.unusedVariables false
set_option linter.unusedSimpArgs false

section
variable {P : Program} {ops : Array Oper} {o : Oper} {a : Act} {w : World} {K : Act → World → Prop} {Q : Exit → Act → World → Prop} {E : Prop}
/-- '[]T{}' in a region that draws. -/
theorem step_empty (hgd : o.guard = none) (t e : TypeId) (ho : o.op = .buildSlice t 0 #[]) (i : TypeInfo) (ht : P.underlying t = some (.slice e)) (hi : P.info? e = some i)
    (h : K (a.put o.dst (.slice (some ⟨w.heap.size, 0, none⟩) 0 0)) (w.alloc (.cells #[] e))) : if Region.wanted o (yielded ops a.tmps) = true then Oper.wp P o a w K Q else E := by
  have hw : Region.wanted o (yielded ops a.tmps) = true := by simp [Region.wanted, hgd]
  rw [if_pos hw]
  have hrun : (Instr.buildSlice t 0 #[]).run P w = .ok (.slice (some ⟨w.heap.size, 0, none⟩) 0 0) (w.alloc (.cells #[] e)) := by
    simp [Instr.buildSlice, run_underlying ht, sizeOf, typeInfo, hi, Instr.fill, newRow]
    rw [show Array.map (fun (x : Nat) => (default : Value)) (Array.range 0) = #[] from Array.eq_empty_of_size_eq_zero (by simp)]
  unfold Oper.wp execOp
  simp only [ho, Sem.run_bind, List.map_toArray, List.map_nil, hrun, Result.andThen_ok, Sem.run_pure]
  exact h
/-- append of whatever source, in a region that draws. -/
theorem step_app (hgd : o.guard = none) (s x : Operand) (t : TypeId) (ho : o.op = .call { callee := .builtin .append, args := #[s, x], argTypes := #[t, t] })
    (base : Nat) (e : TypeId) (i : TypeInfo) (z : Value) (bytes : Nat) (ht : P.underlying t = some (.slice e)) (hi : P.info? e = some i) (hz : i.zero = some z)
    (hsize : i.size = 1) (hby : i.bytes = bytes) (hzs : z.cells.size = 1)
    (A : Option Addr) (n c : Nat) (xs : List Value) (hs : a.eval s = .slice A n c) (hown : Own w base e A n c xs)
    (B : Nat) (A2 : Option Addr) (m c2 : Nat) (ys : List Value) (hx : a.eval x = .slice A2 m c2) (hr : Rd w B A2 m ys) (hnone : A2 = none → m = 0 ∧ c2 = 0) (h1 : ∀ u ∈ ys, u.oneCell' = true)
    (hbytes : (n + m) * bytes ≤ 140737488355328) (h63 : n + m ≤ maxLen) (hbase : base ≤ w.heap.size)
    (h : ∀ A' c' w', Own w' base e A' (n + m) c' (xs ++ ys) → w.grownBy w' (Value.slice A n c).ownBlock → K (a.put o.dst (.slice A' (n + m) c')) w') : if Region.wanted o (yielded ops a.tmps) = true then Oper.wp P o a w K Q else E := by
  have hw : Region.wanted o (yielded ops a.tmps) = true := by simp [Region.wanted, hgd]
  rw [if_pos hw]
  obtain ⟨A', c', w', hrun, h2, h3⟩ := run_app (P := P) w base t o.type e i z bytes ht hi hz hsize hby hzs A n c xs hown B A2 m c2 ys hr hnone h1 hbytes h63 hbase
  unfold Oper.wp execOp
  simp only [ho, resolve, invoke, builtin, Sem.run_bind, Sem.run_pure, Result.andThen_ok, List.map_toArray, List.map_cons, List.map_nil, hs, hx, hrun]
  exact h A' c' w' h2 h3
end
/-- A frame of the reference as a value. -/
def RV (kind seq ver len : Int) (B : Value) (base : Int) (more : Nat) : Array Value := #[.int .i64 kind, .int .i64 seq, .int .i64 ver, .int .i64 len, B, .int .i64 base, .int .u32 (more : Int)]
theorem infoR (k q v l : Int) (B : Value) (b : Int) (m : Nat) : (Tryd.prog.info? 25).map (·.size) = some (RV k q v l B b m).size := (show (Tryd.prog.info? 25).map (·.size) = some 7 by kernel_rfl)
theorem zeroR : (Tryd.prog.info? 25).bind (fun i => i.zero.map (fun z => z.cells)) = some (RV 0 0 0 0 (.slice none 0 0) 0 0) := by kernel_rfl
theorem RV_all (k q v l : Int) (A : Option Addr) (n c : Nat) (b : Int) (m : Nat) : (RV k q v l (.slice A n c) b m).all (·.oneCell') = true := by simp [RV, Value.oneCell']
set_option maxHeartbeats 2000000 in
/-- tame. -/
theorem tameC (kind seq ver len : Int) (A : Option Addr) (n c : Nat) (ba : Int) (more : Nat) (body : List Nat) (w : World) (hr : Rd w w.heap.size A n (U8 body)) (hnc : n ≤ c) (hc : c ≤ 9223372036854775807) (hnone : A = none → n = 0 ∧ c = 0) :
    Calls Tryd.prog 9 #[.agg (RV kind seq ver len (.slice A n c) ba more)] w fun e w' => ∃ A' n' c', e = .returned (.agg (RV kind (seq % 65536) ver len (.slice A' n' c') (ba % 65536) more)) ∧ Own w' w.heap.size 5 A' n' c' (U8 (body.take 700)) ∧ Below w.heap.size w w' := by
  obtain ⟨i0, hi0, hz0, hz1, hz2⟩ := info_parts info5
  obtain ⟨k, hk, hk2, hk3⟩ := min_if n 700
  obtain ⟨hm1, hm2⟩ := hk3 700 rfl
  have hl := hr.len8
  have hkt : body.take 700 = body.take k := by
    by_cases h : k = 700
    · rw [h]
    · rw [List.take_of_length_le (by omega), List.take_of_length_le (by omega)]
  clear hk3 hl
  have e1 := wrap_u16 seq
  have e2 := wrap_u16 ba
  obtain ⟨sq, hsq⟩ : ∃ s, s = seq % 65536 := ⟨_, rfl⟩
  obtain ⟨b2, hb2⟩ : ∃ s, s = ba % 65536 := ⟨_, rfl⟩
  have f1 : 0 ≤ sq ∧ sq < 65536 := by omega
  have f2 : 0 ≤ b2 ∧ b2 < 65536 := by omega
  rw [← hsq] at e1 ⊢
  rw [← hb2] at e2 ⊢
  clear hsq hb2
  go_enter Tryd.func9, Tryd.ntmps9
  go_upto_region 1 with (first | (refine at_box rfl 25 _ rfl (RV kind seq ver len (.slice A n c) ba more) rfl ?_; intro w1 L1) | (refine at_alloc rfl 25 rfl _ zeroR ?_; intro w2 L2))
  have p2 := L1.row.after L2.bel
  have q2 := L2.row
  have bel2 := Below.then_ L1.bel L2.bel
  obtain ⟨g1, hg1⟩ : ∃ g, g = w.heap.size := ⟨_, rfl⟩
  obtain ⟨r2, hr2⟩ : ∃ g, g = w1.heap.size := ⟨_, rfl⟩
  have HNE : Hid (g1 ≠ r2) := by unfold Hid; have := L1.size; omega
  have HG1 : Hid (w.heap.size ≤ g1) := by unfold Hid; omega
  have HR2 : Hid (w.heap.size ≤ r2) := by unfold Hid; have := L1.size; omega
  have HGS : Hid (g1 < w2.heap.size) := by unfold Hid; have := p2.lt; omega
  have HRS : Hid (r2 < w2.heap.size) := by unfold Hid; have := q2.lt; omega
  rw [← hg1] at p2 ⊢
  rw [← hr2] at q2 ⊢
  clear L1 L2 hg1 hr2
  have c1 : w2.cell? ⟨g1, 1, none⟩ = some (.int .i64 seq) := (p2.cell 1).trans rfl
  have c5 : w2.cell? ⟨g1, 5, none⟩ = some (.int .i64 ba) := (p2.cell 5).trans rfl
  go_upto_region 2 with (first | (refine at_cell rfl 3 _ _ rfl g1 1 (.int .i64 sq) rfl rfl 25 _ p2 (show 1 < 7 by omega) info3one rfl ?_; intro w3 h3; have p3 : Blk w3 g1 25 (RV kind sq ver len (.slice A n c) ba more) := h3.row) | (refine at_cell rfl 3 _ _ rfl g1 5 (.int .i64 b2) rfl rfl 25 _ p3 (show 5 < 7 by omega) info3one rfl ?_; intro w4 h4))
  have p4 : Blk w4 g1 25 (RV kind sq ver len (.slice A n c) b2 more) := h4.row
  have q4 := h4.blk (h3.blk q2 HNE.out.symm) HNE.out.symm
  have bel4 := (bel2.trans (h3.below HG1.out)).trans (h4.below HG1.out)
  have HS4 : Hid (w2.heap.size = w4.heap.size) := by unfold Hid; rw [h4.size, h3.size]
  clear h3 h4 p2 q2 p3 c1 c5 bel2
  have d4 : w4.cell? ⟨g1, 4, none⟩ = some (.slice A n c) := (p4.cell 4).trans rfl
  have be5 : Below w4.heap.size w4 (w4.alloc (.cells #[] 5)) := (Below.refl _ _).alloc (Nat.le_refl _) _
  have d5 : (w4.alloc (.cells #[] 5)).cell? ⟨g1, 4, none⟩ = some (.slice A n c) := ((p4.after be5).cell 4).trans rfl
  have o5 : Own (w4.alloc (.cells #[] 5)) w4.heap.size 5 (some ⟨w4.heap.size, 0, none⟩) 0 0 [] := ⟨World.ownsRow_made w4 #[] 0 (Nat.le_refl _) (by unfold maxLen; omega) (by simp)⟩
  have r4 : Rd w4 w4.heap.size A n (U8 body) := (hr.below bel4).up bel4.size
  have r5 := (r4.cut8 k hk2).below be5
  have hs5 := be5.size
  have hn2 : A = none → k = 0 ∧ c = 0 := fun h => ⟨by have := (hnone h).1; omega, (hnone h).2⟩
  go_upto_region 3 with (first | (at_builtin; refine wpList_app _ rfl _ _ 22 rfl w4.heap.size 5 i0 _ 1 Tryd.underlying22 hi0 hz0 hz1 hz2 rfl _ 0 0 [] rfl o5 w4.heap.size A k c (U8 (body.take k)) rfl r5 hn2 (U8_one _) (by omega) (by unfold maxLen; omega) hs5 ?_; intro A6 c6 w6 own6' hgr6; have own6 := own6'.to (Nat.zero_add k) (List.nil_append _); have b46 : Below w4.heap.size w4 w6 := be5.grown hgr6 hs5 (fun j hj => by simp [Value.ownBlock] at hj; omega); have p6 := p4.after b46; rw [Nat.zero_add]) | (refine at_cell rfl 22 _ _ rfl g1 4 (.slice A6 k c6) rfl rfl 25 _ p6 (show 4 < 7 by omega) infoB1 rfl ?_; intro w7 h7))
  have p7 : Blk w7 g1 25 (RV kind sq ver len (.slice A6 k c6) b2 more) := h7.row
  have q7 := h7.blk (q4.after b46) HNE.out.symm
  have bel7 := (bel4.trans (b46.mono bel4.size)).trans (h7.below HG1.out)
  have own7 := own6.upd h7 (by rw [← HS4.out]; exact HGS.out)
  go_wp2_with (first | (refine at_load rfl 25 _ rfl g1 rfl 25 (RV kind sq ver len (.slice A6 k c6) b2 more) _ p7 Tryd.underlying25 rfl (infoR _ _ _ _ _ _ _) ?_) | (refine at_store rfl 25 _ _ rfl r2 (RV kind sq ver len (.slice A6 k c6) b2 more) rfl rfl 25 _ q7 (infoR _ _ _ _ _ _ _) rfl (RV_all _ _ _ _ _ _ _ _ _) ?_; intro w8 H8))
  refine bodyPost_ret (v := .agg (RV kind sq ver len (.slice A6 k c6) b2 more)) (results_row rfl _ _ r2 25 _ _ rfl H8.row Tryd.underlying25 rfl (infoR _ _ _ _ _ _ _)) rfl ?_
  refine ⟨A6, k, c6, rfl, ?_, bel7.trans (H8.below HR2.out)⟩
  rw [hkt]
  exact (own7.upd H8 (by rw [← HS4.out]; exact HRS.out)).down bel4.size
set_option maxHeartbeats 2000000 in
/-- to. -/
theorem toC (kind : Int) (sq : Nat) (ver len : Int) (A : Option Addr) (n c : Nat) (ba : Nat) (more : Nat) (body : List Nat) (w : World) (hr : Rd w w.heap.size A n (U8 body)) (hn : n ≤ 65536) (hnone : A = none → n = 0 ∧ c = 0) (hs : sq < 65536) (hb : ba < 65536) :
    Calls Tryd.prog 10 #[.agg (RV kind sq ver len (.slice A n c) ba more)] w fun e w' => ∃ A' n' c', e = .returned (.agg (FV kind sq ver len (.slice A' n' c') ba more)) ∧ Own w' w.heap.size 5 A' n' c' (U8 body) ∧ Below w.heap.size w w' := by
  obtain ⟨i0, hi0, hz0, hz1, hz2⟩ := info_parts info5
  have e1 : IntKind.u16.wrap (sq : Int) = (sq : Int) := by rw [wrap_u16]; omega
  have e2 : IntKind.u16.wrap (ba : Int) = (ba : Int) := by rw [wrap_u16]; omega
  go_enter Tryd.func10, Tryd.ntmps10
  go_upto_region 1 with (first | (refine at_box rfl 25 _ rfl (RV kind sq ver len (.slice A n c) ba more) rfl ?_; intro w1 L1) | (refine at_alloc rfl 32 rfl _ zeroF ?_; intro wq L2))
  obtain ⟨w2, hw2⟩ : ∃ w2, w2 = wq.drew := ⟨_, rfl⟩
  have HW2 := Lib.hid hw2
  clear hw2
  have p2q := L1.row.after L2.bel
  have q2q := L2.row
  have bq := Below.then_ L1.bel L2.bel
  have bq2 : Below wq.heap.size wq w2 := by rw [HW2.out]; exact (Below.refl _ _).drew
  have p2 := p2q.after bq2
  have q2 := q2q.after bq2
  have bel2 := Below.then_ bq bq2
  obtain ⟨g1, hg1⟩ : ∃ g, g = w.heap.size := ⟨_, rfl⟩
  obtain ⟨r2, hr2⟩ : ∃ g, g = w1.heap.size := ⟨_, rfl⟩
  have HNE : Hid (g1 ≠ r2) := by unfold Hid; have := L1.size; omega
  have HR2 : Hid (w.heap.size ≤ r2) := by unfold Hid; have := L1.size; omega
  have HRS : Hid (r2 < w2.heap.size) := by unfold Hid; have := q2.lt; omega
  rw [← hg1] at p2 ⊢
  rw [← hr2] at q2 ⊢
  have hKeep7 : ∀ W, Blk W g1 25 (RV kind sq ver len (.slice A n c) ba more) → W.cell? ⟨g1, 0, none⟩ = some (.int .i64 kind) ∧ W.cell? ⟨g1, 1, none⟩ = some (.int .i64 (sq : Int)) ∧ W.cell? ⟨g1, 2, none⟩ = some (.int .i64 ver) ∧ W.cell? ⟨g1, 3, none⟩ = some (.int .i64 len) ∧ W.cell? ⟨g1, 4, none⟩ = some (.slice A n c) ∧ W.cell? ⟨g1, 5, none⟩ = some (.int .i64 (ba : Int)) ∧ W.cell? ⟨g1, 6, none⟩ = some (.int .u32 (more : Int)) := fun W h => ⟨(h.cell 0).trans rfl, (h.cell 1).trans rfl, (h.cell 2).trans rfl, (h.cell 3).trans rfl, (h.cell 4).trans rfl, (h.cell 5).trans rfl, (h.cell 6).trans rfl⟩
  have hKeep : ∀ W, Below w2.heap.size w2 W → W.cell? ⟨g1, 0, none⟩ = some (.int .i64 kind) ∧ W.cell? ⟨g1, 1, none⟩ = some (.int .i64 (sq : Int)) ∧ W.cell? ⟨g1, 2, none⟩ = some (.int .i64 ver) ∧ W.cell? ⟨g1, 3, none⟩ = some (.int .i64 len) ∧ W.cell? ⟨g1, 4, none⟩ = some (.slice A n c) ∧ W.cell? ⟨g1, 5, none⟩ = some (.int .i64 (ba : Int)) ∧ W.cell? ⟨g1, 6, none⟩ = some (.int .u32 (more : Int)) := fun W hW => hKeep7 W (p2.after hW)
  have bE : Below w2.heap.size w2 (w2.alloc (.cells #[] 5)) := (Below.refl _ _).alloc (Nat.le_refl _) _
  have oE : Own (w2.alloc (.cells #[] 5)) w2.heap.size 5 (some ⟨w2.heap.size, 0, none⟩) 0 0 [] := ⟨World.ownsRow_made w2 #[] 0 (Nat.le_refl _) (by unfold maxLen; omega) (by simp)⟩
  have rE : Rd (w2.alloc (.cells #[] 5)) w2.heap.size A n (U8 body) := ((hr.below bel2).up bel2.size).below bE
  have SR0 := hKeep w2 (Below.refl _ _)
  clear L1 L2 hg1 hr2 p2q q2q bq bq2
  refine wp_region_noPanic ?_
  refine wp_region_held_drew (S := fun W => W.cell? ⟨g1, 0, none⟩ = some (.int .i64 kind) ∧ W.cell? ⟨g1, 1, none⟩ = some (.int .i64 (sq : Int)) ∧ W.cell? ⟨g1, 2, none⟩ = some (.int .i64 ver) ∧ W.cell? ⟨g1, 3, none⟩ = some (.int .i64 len) ∧ W.cell? ⟨g1, 4, none⟩ = some (.slice A n c) ∧ W.cell? ⟨g1, 5, none⟩ = some (.int .i64 (ba : Int)) ∧ W.cell? ⟨g1, 6, none⟩ = some (.int .u32 (more : Int))) (by kernel_rfl) (by rw [← HW2.out]; exact SR0) (fun hHeld => ?_)
  rw [← HW2.out] at hHeld ⊢
  refine wpAnyH_take (i := 0) (oi := ⟨some 3, _, _, _, _, _⟩) (v := ?_) rfl (by kernel_rfl) (by kernel_rfl) (by kernel_rfl) (fun _ _ _ h => h) (Or.inl ⟨by rfl, ?_⟩) hHeld ?_
  rotate_left
  · intro W hSW; obtain ⟨hSW0, hSW1, hSW2, hSW3, hSW4, hSW5, hSW6⟩ := hSW; go_simp; first | done | with_reducible rfl
  (try simp only [Act.put, List.setIfInBounds_toArray, List.set_cons_zero, List.set_cons_succ])
  refine wpAnyH_take (i := 1) (oi := ⟨some 4, _, _, _, _, _⟩) (v := ?_) rfl (by kernel_rfl) (by kernel_rfl) (by kernel_rfl) (fun _ _ _ h => h) (Or.inl ⟨by rfl, ?_⟩) hHeld ?_
  rotate_left
  · intro W hSW; obtain ⟨hSW0, hSW1, hSW2, hSW3, hSW4, hSW5, hSW6⟩ := hSW; go_simp; first | done | with_reducible rfl
  (try simp only [Act.put, List.setIfInBounds_toArray, List.set_cons_zero, List.set_cons_succ])
  refine wpAnyH_take (i := 2) (oi := ⟨some 5, _, _, _, _, _⟩) (v := ?_) rfl (by kernel_rfl) (by kernel_rfl) (by kernel_rfl) (fun _ _ _ h => h) (Or.inl ⟨by rfl, ?_⟩) hHeld ?_
  rotate_left
  · intro W hSW; obtain ⟨hSW0, hSW1, hSW2, hSW3, hSW4, hSW5, hSW6⟩ := hSW; go_simp; first | done | with_reducible rfl
  (try simp only [Act.put, List.setIfInBounds_toArray, List.set_cons_zero, List.set_cons_succ])
  refine wpAnyH_take (i := 3) (oi := ⟨some 6, _, _, _, _, _⟩) (v := ?_) rfl (by kernel_rfl) (by kernel_rfl) (by kernel_rfl) (fun _ _ _ h => h) (Or.inl ⟨by rfl, ?_⟩) hHeld ?_
  rotate_left
  · intro W hSW; obtain ⟨hSW0, hSW1, hSW2, hSW3, hSW4, hSW5, hSW6⟩ := hSW; go_simp; first | done | with_reducible rfl
  (try simp only [Act.put, List.setIfInBounds_toArray, List.set_cons_zero, List.set_cons_succ])
  refine wpAnyH_take (i := 4) (oi := ⟨some 7, _, _, _, _, _⟩) (v := ?_) rfl (by kernel_rfl) (by kernel_rfl) (by kernel_rfl) (fun _ _ _ h => h) (Or.inl ⟨by rfl, ?_⟩) hHeld ?_
  rotate_left
  · intro W hSW; obtain ⟨hSW0, hSW1, hSW2, hSW3, hSW4, hSW5, hSW6⟩ := hSW; go_simp; first | done | with_reducible rfl
  (try simp only [Act.put, List.setIfInBounds_toArray, List.set_cons_zero, List.set_cons_succ])
  refine wpAnyH_take (i := 5) (oi := ⟨some 8, _, _, _, _, _⟩) (v := ?_) rfl (by kernel_rfl) (by kernel_rfl) (by kernel_rfl) (fun _ _ _ h => h) (Or.inl ⟨by rfl, ?_⟩) hHeld ?_
  rotate_left
  · intro W hSW; obtain ⟨hSW0, hSW1, hSW2, hSW3, hSW4, hSW5, hSW6⟩ := hSW; go_simp; first | done | with_reducible rfl
  (try simp only [Act.put, List.setIfInBounds_toArray, List.set_cons_zero, List.set_cons_succ])
  refine wpAnyH_take (i := 6) (oi := ⟨some 9, _, _, _, _, _⟩) (v := ?_) rfl (by kernel_rfl) (by kernel_rfl) (by kernel_rfl) (fun _ _ _ h => h) (Or.inl ⟨by rfl, ?_⟩) hHeld ?_
  rotate_left
  · intro W hSW; obtain ⟨hSW0, hSW1, hSW2, hSW3, hSW4, hSW5, hSW6⟩ := hSW; go_simp; first | done | with_reducible rfl
  (try simp only [Act.put, List.setIfInBounds_toArray, List.set_cons_zero, List.set_cons_succ])
  refine wpAnyH_take (i := 7) (oi := ⟨some 10, _, _, _, _, _⟩) (v := ?_) rfl (by kernel_rfl) (by kernel_rfl) (by kernel_rfl) (fun _ _ _ h => h) (Or.inl ⟨by rfl, ?_⟩) hHeld ?_
  rotate_left
  · intro W hSW; obtain ⟨hSW0, hSW1, hSW2, hSW3, hSW4, hSW5, hSW6⟩ := hSW; go_simp; first | done | with_reducible rfl
  (try simp only [Act.put, List.setIfInBounds_toArray, List.set_cons_zero, List.set_cons_succ])
  refine wpAnyH_take (i := 8) (oi := ⟨some 11, _, _, _, _, _⟩) (v := ?_) rfl (by kernel_rfl) (by kernel_rfl) (by kernel_rfl) (fun _ _ _ h => h) (Or.inl ⟨by rfl, ?_⟩) hHeld ?_
  rotate_left
  · intro W hSW; obtain ⟨hSW0, hSW1, hSW2, hSW3, hSW4, hSW5, hSW6⟩ := hSW; go_simp; first | done | with_reducible rfl
  (try simp only [Act.put, List.setIfInBounds_toArray, List.set_cons_zero, List.set_cons_succ])
  refine wpAnyH_take (i := 10) (oi := ⟨some 13, _, _, _, _, _⟩) (v := ?_) rfl (by kernel_rfl) (by kernel_rfl) (by kernel_rfl) (fun _ _ _ h => h) (Or.inl ⟨by rfl, ?_⟩) hHeld ?_
  rotate_left
  · intro W hSW; obtain ⟨hSW0, hSW1, hSW2, hSW3, hSW4, hSW5, hSW6⟩ := hSW; go_simp; first | done | with_reducible rfl
  (try simp only [Act.put, List.setIfInBounds_toArray, List.set_cons_zero, List.set_cons_succ])
  refine wpAnyH_take (i := 11) (oi := ⟨some 14, _, _, _, _, _⟩) (v := ?_) rfl (by kernel_rfl) (by kernel_rfl) (by kernel_rfl) (fun _ _ _ h => h) (Or.inl ⟨by rfl, ?_⟩) hHeld ?_
  rotate_left
  · intro W hSW; obtain ⟨hSW0, hSW1, hSW2, hSW3, hSW4, hSW5, hSW6⟩ := hSW; go_simp; first | done | with_reducible rfl
  (try simp only [Act.put, List.setIfInBounds_toArray, List.set_cons_zero, List.set_cons_succ])
  refine wpAnyH_take (i := 13) (oi := ⟨some 16, _, _, _, _, _⟩) (v := ?_) rfl (by kernel_rfl) (by kernel_rfl) (by kernel_rfl) (fun _ _ _ h => h) (Or.inl ⟨by rfl, ?_⟩) hHeld ?_
  rotate_left
  · intro W hSW; obtain ⟨hSW0, hSW1, hSW2, hSW3, hSW4, hSW5, hSW6⟩ := hSW; go_simp; first | done | with_reducible rfl
  (try simp only [Act.put, List.setIfInBounds_toArray, List.set_cons_zero, List.set_cons_succ])
  refine wpAnyH_take (i := 14) (oi := ⟨some 17, _, _, _, _, _⟩) (v := ?_) rfl (by kernel_rfl) (by kernel_rfl) (by kernel_rfl) (fun _ _ _ h => h) (Or.inl ⟨by rfl, ?_⟩) hHeld ?_
  rotate_left
  · intro W hSW; obtain ⟨hSW0, hSW1, hSW2, hSW3, hSW4, hSW5, hSW6⟩ := hSW; go_simp; first | done | with_reducible rfl
  (try simp only [Act.put, List.setIfInBounds_toArray, List.set_cons_zero, List.set_cons_succ])
  refine wpAnyH_take (i := 15) (oi := ⟨some 18, _, _, _, _, _⟩) (v := ?_) rfl (by kernel_rfl) (by kernel_rfl) (by kernel_rfl) (fun _ _ _ h => h) (Or.inl ⟨by rfl, ?_⟩) hHeld ?_
  rotate_left
  · intro W hSW; obtain ⟨hSW0, hSW1, hSW2, hSW3, hSW4, hSW5, hSW6⟩ := hSW; go_simp; first | done | with_reducible rfl
  (try simp only [Act.put, List.setIfInBounds_toArray, List.set_cons_zero, List.set_cons_succ])
  refine wpAnyH_take (i := 16) (oi := ⟨some 19, _, _, _, _, _⟩) (v := ?_) rfl (by kernel_rfl) (by kernel_rfl) (by kernel_rfl) (fun _ _ _ h => h) (Or.inl ⟨by rfl, ?_⟩) hHeld ?_
  rotate_left
  · intro W hSW; obtain ⟨hSW0, hSW1, hSW2, hSW3, hSW4, hSW5, hSW6⟩ := hSW; go_simp; first | done | with_reducible rfl
  (try simp only [Act.put, List.setIfInBounds_toArray, List.set_cons_zero, List.set_cons_succ])
  refine wpAnyH_take (i := 17) (oi := ⟨some 20, _, _, _, _, _⟩) (v := ?_) rfl (by kernel_rfl) (by kernel_rfl) (by kernel_rfl) (fun _ _ _ h => h) (Or.inl ⟨by rfl, ?_⟩) hHeld ?_
  rotate_left
  · intro W hSW; obtain ⟨hSW0, hSW1, hSW2, hSW3, hSW4, hSW5, hSW6⟩ := hSW; go_simp; first | done | with_reducible rfl
  (try simp only [Act.put, List.setIfInBounds_toArray, List.set_cons_zero, List.set_cons_succ])
  refine wpAnyH_take (i := 18) (oi := ⟨some 21, _, _, _, _, _⟩) (v := ?_) rfl (by kernel_rfl) (by kernel_rfl) (by kernel_rfl) (fun _ _ _ h => h) (Or.inl ⟨by rfl, ?_⟩) hHeld ?_
  rotate_left
  · intro W hSW; obtain ⟨hSW0, hSW1, hSW2, hSW3, hSW4, hSW5, hSW6⟩ := hSW; go_simp; first | done | with_reducible rfl
  (try simp only [Act.put, List.setIfInBounds_toArray, List.set_cons_zero, List.set_cons_succ])
  refine wpAnyH_ready (rs := [9]) (by kernel_rfl) (by simp) ?_
  refine AllReadyH.cons (o := ⟨some 12, _, _, _, _, _⟩) rfl (fun K hK => ?_) (AllReadyH.nil)
  refine step_empty (by rfl) 22 5 (by rfl) i0 Tryd.underlying22 hi0 ?_
  clear hHeld
  refine hK.out _ _ ?_ (fun hHeld => ?_)
  · exact hKeep _ bE
  clear hK K
  (try simp only [Act.put, List.setIfInBounds_toArray, List.set_cons_zero, List.set_cons_succ])
  refine wpAnyH_ready (rs := [12]) (by kernel_rfl) (by simp) ?_
  refine AllReadyH.cons (o := ⟨some 15, _, _, _, _, _⟩) rfl (fun K hK => ?_) (AllReadyH.nil)
  refine step_app (by rfl) _ _ 22 (by rfl) w2.heap.size 5 i0 _ 1 Tryd.underlying22 hi0 hz0 hz1 hz2 rfl _ 0 0 [] (by rfl) oE _ A n c (U8 body) (by rfl) rE hnone (U8_one _) (by omega) (by unfold maxLen; omega) (by simp) ?_
  intro A6 c6 w6 own6x hgr6
  have own6 := own6x.to (Nat.zero_add n) (List.nil_append _)
  clear hHeld
  have b6 : Below w2.heap.size w2 w6 := bE.grown hgr6 bE.size (fun j hj => by simp [Value.ownBlock] at hj; omega)
  refine hK.out _ _ ?_ (fun hHeld => ?_)
  · exact hKeep _ b6
  clear hK K
  (try simp only [Act.put, List.setIfInBounds_toArray, List.set_cons_zero, List.set_cons_succ])
  refine wpAnyH_take (i := 19) (oi := ⟨some 22, _, _, _, _, _⟩) (v := ?_) rfl (by kernel_rfl) (by kernel_rfl) (by kernel_rfl) (fun _ _ _ h => h) (Or.inl ⟨by rfl, ?_⟩) hHeld ?_
  rotate_left
  · intro W hSW; obtain ⟨hSW0, hSW1, hSW2, hSW3, hSW4, hSW5, hSW6⟩ := hSW; go_simp; first | done | with_reducible rfl
  (try simp only [Act.put, List.setIfInBounds_toArray, List.set_cons_zero, List.set_cons_succ])
  refine wpAnyH_ready (rs := [20]) (by kernel_rfl) (by simp) ?_
  refine AllReadyH.cons (o := ⟨none, _, _, _, _, _⟩) rfl (fun K hK => ?_) (AllReadyH.nil)
  refine step_store (by rfl) 32 _ _ (by rfl) r2 (FV kind sq ver len (.slice A6 n c6) ba more) (by rfl) (by rfl) 32 _ (q2.after b6) (infoF _ _ _ _ _ _ _) rfl (FV_all _ _ _ _ _ _ _ _ _) ?_
  intro w7 H7
  clear hHeld
  refine hK.out _ _ ?_ (fun hHeld => ?_)
  · exact hKeep7 _ (H7.blk (p2.after b6) HNE.out)
  clear hK K
  (try simp only [Act.put, List.setIfInBounds_toArray, List.set_cons_zero, List.set_cons_succ])
  refine wpAnyH_done (by kernel_rfl) ?_ _
  refine NoPanic.normal ?_
  clear hHeld
  have own7 := own6.upd H7 HRS.out
  have bel7 := (bel2.trans (b6.mono bel2.size)).trans (H7.below HR2.out)
  go_wp2
  refine bodyPost_ret (v := .agg (FV kind sq ver len (.slice A6 n c6) ba more)) (results_row rfl _ _ r2 32 _ _ rfl H7.row Tryd.underlying32 rfl (infoF _ _ _ _ _ _ _)) rfl ?_
  exact ⟨A6, n, c6, rfl, own7.down bel2.size, bel7⟩
end Go.Proofs.YtkmacepodomdmaaDoor
