/-
  Layer 26 (datagrams under way): a Channel; New, isFull, Put, Len, Now, has, none.
-/
import Derived.Test.YtkmacepodomdmaaEb
import Derived.Test.YtkmacepodomdmaaRc
namespace Go.Proofs.Ytkmacepodomdmaa
open Go.RowKit
set_option maxRecDepth 100000
set_option linter.unusedVariables false
set_option linter.unusedSimpArgs false
set_option maxRecDepth 100000

section
variable {P : Program} {ops : Array Oper} {o : Oper} {a : Act} {K : Act → World → Prop} {Q : Exit → Act → World → Prop} {E0 : Prop}
/-- '[]T{x}', x of three cells, in a region that draws. -/
theorem step_buildF {w : World} (hgd : o.guard = none) (t e : TypeId) (x : Operand) (ho : o.op = .buildSlice t 1 #[(0, x)]) (i : TypeInfo) (z : Value) (ht : P.underlying t = some (.slice e)) (hi : P.info? e = some i) (hz : i.zero = some z) (hs : i.size = 3)
    (E : Array Value) (hE : E.size = 3) (hx : a.eval x = .agg E)
    (h : ∀ w', Laid w w' e E → K (a.put o.dst (.slice (some ⟨w.heap.size, 0, none⟩) 1 1)) w') : if Region.wanted o (yielded ops a.tmps) = true then Oper.wp P o a w K Q else E0 := by
  have hw : Region.wanted o (yielded ops a.tmps) = true := by simp [Region.wanted, hgd]
  rw [if_pos hw]
  refine wp_buildSlice t e 1 #[(0, x)] ho E i z ht hi hz (by rw [hs]; decide) (by rw [hs]; decide) ?_ (h _ (laid_alloc w e E))
  have key : ∀ (old : Array Value), old.size = 3 → Instr.fill (fun i => some (i * 3, 3)) old [(0, .agg E)] = some E := by
    intro old ho
    obtain ⟨l⟩ := old
    obtain ⟨m⟩ := E
    match l, ho, m, hE with
    | [_, _, _], _, [_, _, _], _ => simp [Instr.fill, Value.cells]
  rw [hs]
  simp only [List.map_toArray, List.map_cons, List.map_nil, hx]
  exact key _ (by simp)
end
theorem infoFl3 : (Try.prog.info? 115).map (fun i => (i.zero, i.size, i.bytes)) = some (some (.agg #[.string ⟨#[]⟩, .string ⟨#[]⟩, .int .i64 0]), 3, 40) := by kernel_rfl
theorem infoFls : (Try.prog.info? 111).map (·.size) = some 1 := by kernel_rfl
theorem nilCh : ∀ W, (binOp .eql 66 (.pointer none) (.pointer none)).run Try.prog W = .ok (.bool true) W := fun _ => by kernel_rfl
/-- A channel's cells. -/
def chl (age now : Nat) (A : Option Addr) (n c : Nat) : Array Value := #[.int .i64 (age : Int), .int .i64 (now : Int), .slice A n c]
/-- A channel, its blocks among P. -/
structure CH (w : World) (P : Nat → Prop) (gC age now : Nat) (L : List Fy) : Prop where
  blk : ∃ A c, Blk w gC 113 (chl age now A L.length c) ∧ OwnR w 0 115 3 A L.length c (D3 L) ∧ ∀ k, blk A = some k → P k ∧ k ≠ gC
  mine : P gC
  lt : ∀ k, P k → k < w.heap.size
theorem CH.of_heap {w w' : World} {P : Nat → Prop} {gC age now : Nat} {L : List Fy} (h : CH w P gC age now L) (hb : ∀ k, P k → w'.heap[k]? = w.heap[k]?) (hs : w.heap.size ≤ w'.heap.size) : CH w' P gC age now L := by
  obtain ⟨A, c, q, o, hA⟩ := h.blk
  exact ⟨⟨A, c, (hb gC h.mine).trans q, o.heap (fun k hk => hb k (hA k hk).1), hA⟩, h.mine, fun k hk => Nat.lt_of_lt_of_le (h.lt k hk) hs⟩
theorem CH.after {w w' : World} {P : Nat → Prop} {gC age now : Nat} {L : List Fy} (h : CH w P gC age now L) (hb : Below w.heap.size w w') : CH w' P gC age now L := h.of_heap (fun k hk => hb.block k (h.lt k hk)) hb.size
theorem CH.kr {w w' : World} {P Q : Nat → Prop} {gC age now : Nat} {L : List Fy} (h : CH w P gC age now L) (hk : Kr w w' Q) (hd : ∀ k, P k → ¬ Q k) : CH w' P gC age now L := h.of_heap (fun k hp => hk.block k (h.lt k hp) (hd k hp)) hk.size
set_option maxHeartbeats 400000 in
theorem chNew (w : World) (age : Nat) (h : 1 ≤ age ∧ age ≤ 1000) : Calls Try.prog 43 #[.int .i64 (age : Int)] w fun e w' => e = .returned (.tuple #[.pointer (some ⟨w.heap.size, 0, none⟩), .int .i64 0]) ∧ CH w' (fun k => k = w.heap.size) w.heap.size age 0 [] ∧ Below w.heap.size w w' := by
  have d1 : decide ((age : Int) < 1) = false := by simp; omega
  have d2 : decide ((age : Int) > 1000) = false := by simp; omega
  have d2' : decide ((1000 : Int) < (age : Int)) = false := by simp; omega
  go_enter Try.func43, Try.ntmps43
  go_wp2_with (refine at_box rfl 113 _ rfl (chl age 0 none 0 0) (by first | rfl | (go_simp; rfl)) ?_; intro w1 L1)
  go_ret2
  exact ⟨rfl, ⟨⟨none, 0, L1.row, OwnR.nil _ _ _ _, fun k hk => by cases hk⟩, rfl, fun k hk => by rw [hk, L1.size]; omega⟩, L1.bel⟩
set_option maxHeartbeats 400000 in
theorem chNewNo (w : World) (age : Int) (h : ¬ (1 ≤ age ∧ age ≤ 1000)) : Calls Try.prog 43 #[.int .i64 age] w fun e w' => e = .returned (.tuple #[.pointer none, .int .i64 1]) ∧ w = w' := by
  by_cases h1 : age < 1
  · have d1 : decide (age < 1) = true := by simp; omega
    clear h
    go_enter Try.func43, Try.ntmps43
    go_wp2
    go_ret2
    exact ⟨rfl, rfl⟩
  · have d1 : decide (age < 1) = false := by simp; omega
    have d2 : decide (age > 1000) = true := by simp; omega
    have d2' : decide ((1000 : Int) < age) = true := by simp; omega
    clear h
    go_enter Try.func43, Try.ntmps43
    go_wp2
    go_ret2
    exact ⟨rfl, rfl⟩
set_option maxHeartbeats 400000 in
theorem chFull (w : World) (P : Nat → Prop) (gC age now : Nat) (L : List Fy) (h : CH w P gC age now L) :
    Calls Try.prog 57 #[.pointer (some ⟨gC, 0, none⟩)] w fun e w' => e = .returned (.bool (decide (4096 ≤ L.length))) ∧ w = w' := by
  obtain ⟨A, c, q, o, hA⟩ := h.blk
  have c2 : w.cell? ⟨gC, 2, none⟩ = some (.slice A L.length c) := (q.cell 2).trans rfl
  obtain ⟨n, hn⟩ : ∃ n, n = L.length := ⟨_, rfl⟩
  rw [← hn] at c2 ⊢
  have e1 : decide ((n : Int) ≥ 4096) = decide (4096 ≤ n) := by
    apply decide_eq_decide.2; omega
  have e1' : decide ((4096 : Int) ≤ (n : Int)) = decide (4096 ≤ n) := by
    apply decide_eq_decide.2; omega
  clear q o hA h hn
  go_enter Try.func57, Try.ntmps57
  go_wp2
  go_ret
  exact ⟨by first | rfl | (simp; omega), rfl⟩
set_option maxHeartbeats 400000 in
theorem chLen (w : World) (P : Nat → Prop) (gC age now : Nat) (L : List Fy) (h : CH w P gC age now L) :
    Calls Try.prog 41 #[.pointer (some ⟨gC, 0, none⟩)] w fun e w' => e = .returned (.int .i64 (L.length : Int)) ∧ w = w' := by
  obtain ⟨A, c, q, o, hA⟩ := h.blk
  have c2 : w.cell? ⟨gC, 2, none⟩ = some (.slice A L.length c) := (q.cell 2).trans rfl
  obtain ⟨n, hn⟩ : ∃ n, n = L.length := ⟨_, rfl⟩
  rw [← hn] at c2 ⊢
  clear q o hA h hn
  go_enter Try.func41, Try.ntmps41
  go_wp2
  go_ret
  exact ⟨rfl, rfl⟩
set_option maxHeartbeats 400000 in
theorem chNow (w : World) (P : Nat → Prop) (gC age now : Nat) (L : List Fy) (h : CH w P gC age now L) :
    Calls Try.prog 42 #[.pointer (some ⟨gC, 0, none⟩)] w fun e w' => e = .returned (.int .i64 (now : Int)) ∧ w = w' := by
  obtain ⟨A, c, q, o, hA⟩ := h.blk
  have c1 : w.cell? ⟨gC, 1, none⟩ = some (.int .i64 (now : Int)) := (q.cell 1).trans rfl
  clear q o hA h
  go_enter Try.func42, Try.ntmps42
  go_wp2
  go_ret
  exact ⟨rfl, rfl⟩
set_option maxHeartbeats 400000 in
theorem chHas (w : World) (P : Nat → Prop) (gC age now : Nat) (L : List Fy) (k : Int) (h : CH w P gC age now L) :
    Calls Try.prog 58 #[.pointer (some ⟨gC, 0, none⟩), .int .i64 k] w fun e w' => e = .returned (.bool (decide (0 ≤ k ∧ k < (L.length : Int)))) ∧ w = w' := by
  obtain ⟨A, c, q, o, hA⟩ := h.blk
  have c2 : w.cell? ⟨gC, 2, none⟩ = some (.slice A L.length c) := (q.cell 2).trans rfl
  obtain ⟨n, hn⟩ : ∃ n, n = L.length := ⟨_, rfl⟩
  rw [← hn] at c2 ⊢
  clear q o hA h hn
  by_cases h1 : 0 ≤ k
  · have d1 : decide (k ≥ 0) = true := by simp; omega
    have d1' : decide (0 ≤ k) = true := by simp; omega
    obtain ⟨b, hb⟩ : ∃ b, decide (k < (n : Int)) = b := ⟨_, rfl⟩
    have HB : Hid (decide (0 ≤ k ∧ k < (n : Int)) = b) := by unfold Hid; rw [← hb]; apply decide_eq_decide.2; omega
    clear h1
    go_enter Try.func58, Try.ntmps58
    go_wp2
    go_ret
    exact ⟨by rw [HB.out]; rfl, rfl⟩
  · have d1 : decide (k ≥ 0) = false := by simp; omega
    have d1' : decide (0 ≤ k) = false := by simp; omega
    have HB : Hid (decide (0 ≤ k ∧ k < (n : Int)) = false) := by unfold Hid; simp; omega
    clear h1
    go_enter Try.func58, Try.ntmps58
    go_wp2
    go_ret
    exact ⟨by rw [HB.out]; rfl, rfl⟩
set_option maxHeartbeats 400000 in
theorem chNone (w : World) (gC : Nat) : Calls Try.prog 59 #[.pointer (some ⟨gC, 0, none⟩)] w fun e w' => e = .returned (.int .i64 9) ∧ w = w' := by
  go_enter Try.func59, Try.ntmps59
  go_wp2
  go_ret
  exact ⟨rfl, rfl⟩
set_option maxHeartbeats 400000 in
/-- Put, where there is no room. -/
theorem chPutNo (w : World) (P : Nat → Prop) (gC age now : Nat) (L : List Fy) (A0 : Option Addr) (n0 c0 : Nat) (h : CH w P gC age now L) (hf : 4096 ≤ L.length) :
    Calls Try.prog 34 #[.pointer (some ⟨gC, 0, none⟩), .slice A0 n0 c0] w fun e w' => e = .returned (.tuple #[]) ∧ w = w' := by
  have CF := Lib.hid (chFull w P gC age now L h)
  rw [decide_eq_true hf] at CF
  clear h hf
  go_enter Try.func34, Try.ntmps34
  go_wp2_with (go_at_call 57; refine CF.out.mono ?_; rintro e w' ⟨rfl, rfl⟩)
  refine bodyPost_ret (v := .tuple #[]) (results_none rfl _ _ _) rfl ?_
  exact ⟨rfl, rfl⟩
set_option maxHeartbeats 1000000 in
/-- Put. -/
theorem chPut (w : World) (P : Nat → Prop) (gC age now : Nat) (L : List Fy) (A0 : Option Addr) (n0 c0 : Nat) (bs : List Nat) (h : CH w P gC age now L) (hf : L.length < 4096) (hr : Rd w w.heap.size A0 n0 (U8 bs)) (hnone : A0 = none → n0 = 0) :
    Calls Try.prog 34 #[.pointer (some ⟨gC, 0, none⟩), .slice A0 n0 c0] w fun e w' =>
      e = .returned (.tuple #[]) ∧ Kr w w' P ∧ ∃ P' : Nat → Prop, CH w' P' gC age now (L ++ [⟨str bs, str bs, now⟩]) ∧ ∀ k, P' k → P k ∨ w.heap.size ≤ k := by
  have CF := Lib.hid (chFull w P gC age now L h)
  rw [decide_eq_false (by omega)] at CF
  obtain ⟨A, c, q, own, hA⟩ := h.blk
  obtain ⟨i3, hi3, hz0, hz1, hz2⟩ := info_parts infoFl3
  have kc : (convert 69 9 (.slice A0 n0 c0)).run Try.prog w = .ok (.string (str bs)) w := hr.conv hnone w (Below.refl _ _)
  obtain ⟨s, hs⟩ : ∃ s, s = str bs := ⟨_, rfl⟩
  rw [← hs] at kc ⊢
  obtain ⟨n, hnL⟩ : ∃ n, n = L.length := ⟨_, rfl⟩
  have HNL := Lib.hid hnL
  have HM := Lib.hid h.mine
  have HLT := Lib.hid h.lt
  have HA := Lib.hid hA
  rw [← hnL] at q own hf
  have HQ := Lib.hid q
  have HO := Lib.hid own
  have HAN : Hid (blk A ≠ some gC) := fun e => (hA gC e).2 rfl
  have HK2 : Hid (∀ W, Below w.heap.size w W → W.cell? ⟨gC, 2, none⟩ = some (.slice A n c)) := fun W hW => ((q.after hW).cell 2).trans rfl
  have HK1 : Hid (∀ W, Below w.heap.size w W → W.cell? ⟨gC, 1, none⟩ = some (.int .i64 (now : Int))) := fun W hW => ((q.after hW).cell 1).trans rfl
  have FIN : Hid (∀ (x1 x3 x4 : World) (A3 : Option Addr) (c3 : Nat), Below w.heap.size w x1 → x1.grownBy x3 (Value.slice A n c).ownBlock → OwnR x3 0 115 3 A3 (n + 1) c3 (D3 L ++ (FE ⟨s, s, now⟩).toList) → (blk A3 = blk A ∨ blk A3 = some x1.heap.size) → Upd x3 x4 gC 113 (chl age now A3 (n + 1) c3) →
      Kr w x4 P ∧ ∃ P' : Nat → Prop, CH x4 P' gC age now (L ++ [⟨s, s, now⟩]) ∧ ∀ k, P' k → P k ∨ w.heap.size ≤ k) := by
    intro x1 x3 x4 A3 c3 b1 g3 o3 l3 u4
    rw [blk_own] at g3
    have hs1 := b1.size
    have hs3 := g3.size
    have hs4 := u4.size
    have hA3 : ∀ k, blk A3 = some k → (P k ∨ w.heap.size ≤ k) ∧ k ≠ gC := fun k hk => by
      rcases l3 with e | e
      · rw [e] at hk
        exact ⟨.inl (HA.out k hk).1, (HA.out k hk).2⟩
      · rw [e] at hk
        injection hk with hk
        have := HLT.out gC HM.out
        exact ⟨.inr (by omega), by omega⟩
    have hkr : Kr w x4 P := by
      refine ⟨?_, ?_, ?_, by omega, fun k hk hp => ?_⟩
      · rw [u4.os, g3.os, b1.os]
      · rw [u4.tape, g3.tape, b1.tape]
      · rw [u4.output, g3.output, b1.output]
      · have hkg : k ≠ gC := fun e => hp (by rw [e]; exact HM.out)
        have hka : blk A ≠ some k := fun e => hp (HA.out k e).1
        exact (u4.oth k hkg).trans ((g3.block k (by omega) (fun e => hka e.symm)).trans (b1.block k hk))
    refine ⟨hkr, fun k => (P k ∨ w.heap.size ≤ k) ∧ k < x4.heap.size, ⟨⟨A3, c3, ?_, ?_, fun k hk => ?_⟩, ⟨.inl HM.out, u4.row.lt⟩, fun k hk => hk.2⟩, fun k hk => hk.1⟩
    · rw [List.length_append, List.length_singleton, ← HNL.out]; exact u4.row
    · rw [List.length_append, List.length_singleton, ← HNL.out, D3_append]
      exact (o3.heap (fun k hk => u4.oth k (hA3 k hk).2))
    · have := (o3.blkLt k hk).2
      exact ⟨⟨(hA3 k hk).1, by omega⟩, (hA3 k hk).2⟩
  clear hs h hr hnone q own hA hnL
  go_enter Try.func34, Try.ntmps34
  go_upto_region 2 with (go_at_call 57; refine CF.out.mono ?_; rintro e w' ⟨rfl, rfl⟩)
  refine wp_region_noPanic ?_
  refine wp_region_held_drew (S := fun W => W.cell? ⟨gC, 1, none⟩ = some (.int .i64 (now : Int))) (by kernel_rfl) (HK1.out w.drew (Below.refl _ _).drew) (fun hHeld => ?_)
  refine wpAnyH_take (i := 0) (oi := ⟨some 13, _, _, _, _, _⟩) (v := ?_) rfl (by kernel_rfl) (by kernel_rfl) (by kernel_rfl) (fun _ _ _ h => h) (Or.inl ⟨by rfl, ?_⟩) hHeld ?_
  rotate_left
  · intro W hSW; have hSW0 := hSW; go_simp; first | done | with_reducible rfl
  (try simp only [Act.put, List.setIfInBounds_toArray, List.set_cons_zero, List.set_cons_succ])
  refine wpAnyH_take (i := 1) (oi := ⟨some 14, _, _, _, _, _⟩) (v := ?_) rfl (by kernel_rfl) (by kernel_rfl) (by kernel_rfl) (fun _ _ _ h => h) (Or.inl ⟨by rfl, ?_⟩) hHeld ?_
  rotate_left
  · intro W hSW; have hSW0 := hSW; go_simp; first | done | with_reducible rfl
  (try simp only [Act.put, List.setIfInBounds_toArray, List.set_cons_zero, List.set_cons_succ])
  refine wpAnyH_take (i := 2) (oi := ⟨some 15, _, _, _, _, _⟩) (v := ?_) rfl (by kernel_rfl) (by kernel_rfl) (by kernel_rfl) (fun _ _ _ h => h) (Or.inl ⟨by rfl, ?_⟩) hHeld ?_
  rotate_left
  · intro W hSW; have hSW0 := hSW; go_simp; first | done | with_reducible rfl
  (try simp only [Act.put, List.setIfInBounds_toArray, List.set_cons_zero, List.set_cons_succ])
  refine wpAnyH_take (i := 3) (oi := ⟨some 16, _, _, _, _, _⟩) (v := ?_) rfl (by kernel_rfl) (by kernel_rfl) (by kernel_rfl) (fun _ _ _ h => h) (Or.inl ⟨by rfl, ?_⟩) hHeld ?_
  rotate_left
  · intro W hSW; have hSW0 := hSW; go_simp; first | done | with_reducible rfl
  (try simp only [Act.put, List.setIfInBounds_toArray, List.set_cons_zero, List.set_cons_succ])
  refine wpAnyH_take (i := 5) (oi := ⟨some 18, _, _, _, _, _⟩) (v := ?_) rfl (by kernel_rfl) (by kernel_rfl) (by kernel_rfl) (fun _ _ _ h => h) (Or.inl ⟨by rfl, ?_⟩) hHeld ?_
  rotate_left
  · intro W hSW; have hSW0 := hSW; go_simp; first | done | with_reducible rfl
  (try simp only [Act.put, List.setIfInBounds_toArray, List.set_cons_zero, List.set_cons_succ])
  refine wpAnyH_take (i := 6) (oi := ⟨some 19, _, _, _, _, _⟩) (v := ?_) rfl (by kernel_rfl) (by kernel_rfl) (by kernel_rfl) (fun _ _ _ h => h) (Or.inl ⟨by rfl, ?_⟩) hHeld ?_
  rotate_left
  · intro W hSW; have hSW0 := hSW; go_simp; first | done | with_reducible rfl
  (try simp only [Act.put, List.setIfInBounds_toArray, List.set_cons_zero, List.set_cons_succ])
  refine wpAnyH_take (i := 7) (oi := ⟨some 20, _, _, _, _, _⟩) (v := ?_) rfl (by kernel_rfl) (by kernel_rfl) (by kernel_rfl) (fun _ _ _ h => h) (Or.inl ⟨by rfl, ?_⟩) hHeld ?_
  rotate_left
  · intro W hSW; have hSW0 := hSW; go_simp; first | done | with_reducible rfl
  (try simp only [Act.put, List.setIfInBounds_toArray, List.set_cons_zero, List.set_cons_succ])
  refine wpAnyH_take (i := 8) (oi := ⟨some 21, _, _, _, _, _⟩) (v := ?_) rfl (by kernel_rfl) (by kernel_rfl) (by kernel_rfl) (fun _ _ _ h => h) (Or.inl ⟨by rfl, ?_⟩) hHeld ?_
  rotate_left
  · intro W hSW; have hSW0 := hSW; go_simp; first | done | with_reducible rfl
  (try simp only [Act.put, List.setIfInBounds_toArray, List.set_cons_zero, List.set_cons_succ])
  refine wpAnyH_take (i := 9) (oi := ⟨some 22, _, _, _, _, _⟩) (v := ?_) rfl (by kernel_rfl) (by kernel_rfl) (by kernel_rfl) (fun _ _ _ h => h) (Or.inl ⟨by rfl, ?_⟩) hHeld ?_
  rotate_left
  · intro W hSW; have hSW0 := hSW; go_simp; first | done | with_reducible rfl
  (try simp only [Act.put, List.setIfInBounds_toArray, List.set_cons_zero, List.set_cons_succ])
  refine wpAnyH_take (i := 10) (oi := ⟨some 23, _, _, _, _, _⟩) (v := ?_) rfl (by kernel_rfl) (by kernel_rfl) (by kernel_rfl) (fun _ _ _ h => h) (Or.inl ⟨by rfl, ?_⟩) hHeld ?_
  rotate_left
  · intro W hSW; have hSW0 := hSW; go_simp; first | done | with_reducible rfl
  (try simp only [Act.put, List.setIfInBounds_toArray, List.set_cons_zero, List.set_cons_succ])
  refine wpAnyH_take (i := 11) (oi := ⟨some 24, _, _, _, _, _⟩) (v := ?_) rfl (by kernel_rfl) (by kernel_rfl) (by kernel_rfl) (fun _ _ _ h => h) (Or.inl ⟨by rfl, ?_⟩) hHeld ?_
  rotate_left
  · intro W hSW; have hSW0 := hSW; go_simp; first | done | with_reducible rfl
  (try simp only [Act.put, List.setIfInBounds_toArray, List.set_cons_zero, List.set_cons_succ])
  refine wpAnyH_ready (rs := [4, 12]) (by kernel_rfl) (by simp) ?_
  refine AllReadyH.cons (o := ⟨some 17, _, _, _, _, _⟩) rfl (fun K hK => ?_) (AllReadyH.cons (o := ⟨some 25, _, _, _, _, _⟩) rfl (fun K hK => ?_) (AllReadyH.nil))
  · have kx := HK2.out w.drew (Below.refl _ _).drew
    go_simp
    clear hHeld kx
    refine hK.out _ _ ?_ (fun hHeld => ?_)
    · exact HK1.out w.drew (Below.refl _ _).drew
    clear hK K
    (try simp only [Act.put, List.setIfInBounds_toArray, List.set_cons_zero, List.set_cons_succ])
    refine wpAnyH_ready (rs := [12]) (by kernel_rfl) (by simp) ?_
    refine AllReadyH.cons (o := ⟨some 25, _, _, _, _, _⟩) rfl (fun K hK => ?_) (AllReadyH.nil)
    refine step_buildF (by rfl) 111 115 _ (by rfl) i3 _ Try.underlying111 hi3 hz0 hz1 (FE ⟨s, s, now⟩) rfl (by first | rfl | (go_simp; rfl)) ?_
    intro x1 L1
    have bS1 : Below w.heap.size w x1 := (Below.refl _ _).drew.trans L1.bel
    clear hHeld
    refine hK.out _ _ ?_ (fun hHeld => ?_)
    · exact HK1.out x1 bS1
    clear hK K
    (try simp only [Act.put, List.setIfInBounds_toArray, List.set_cons_zero, List.set_cons_succ])
    refine wpAnyH_ready (rs := [13]) (by kernel_rfl) (by simp) ?_
    refine AllReadyH.cons (o := ⟨some 26, _, _, _, _, _⟩) rfl (fun K hK => ?_) (AllReadyH.nil)
    refine step_appR (by rfl) _ _ 111 (by rfl) 0 115 i3 _ 3 40 Try.underlying111 hi3 hz0 hz1 hz2 rfl (by decide) A n c _ (by rfl) (HO.out.below bS1 (Nat.le_refl _)) ⟨w.drew.heap.size, 0, none⟩ 1 1 (FE ⟨s, s, now⟩).toList (by rfl) rfl (fun j u hj => by rw [Addr.add_lit, Nat.zero_add, L1.row.cell, ← Array.getElem?_toList]; exact hj) (by simp [FE, Value.oneCell']) (by omega) (by unfold maxLen; omega) (Nat.zero_le _) ?_
    intro A3 c3 x3 o3 g3 l3
    have q3 : Blk x3 gC 113 (chl age now A n c) := (HQ.out.after bS1).grown g3 (by rw [blk_own]; exact HAN.out)
    clear hHeld
    refine hK.out _ _ ?_ (fun hHeld => ?_)
    · exact (q3.cell 1).trans rfl
    clear hK K
    (try simp only [Act.put, List.setIfInBounds_toArray, List.set_cons_zero, List.set_cons_succ])
    refine wpAnyH_take (i := 14) (oi := ⟨some 27, _, _, _, _, _⟩) (v := ?_) rfl (by kernel_rfl) (by kernel_rfl) (by kernel_rfl) (fun _ _ _ h => h) (Or.inl ⟨by rfl, ?_⟩) hHeld ?_
    rotate_left
    · intro W hSW; have hSW0 := hSW; go_simp; first | done | with_reducible rfl
    (try simp only [Act.put, List.setIfInBounds_toArray, List.set_cons_zero, List.set_cons_succ])
    refine wpAnyH_take (i := 15) (oi := ⟨some 28, _, _, _, _, _⟩) (v := ?_) rfl (by kernel_rfl) (by kernel_rfl) (by kernel_rfl) (fun _ _ _ h => h) (Or.inl ⟨by rfl, ?_⟩) hHeld ?_
    rotate_left
    · intro W hSW; have hSW0 := hSW; go_simp; first | done | with_reducible rfl
    (try simp only [Act.put, List.setIfInBounds_toArray, List.set_cons_zero, List.set_cons_succ])
    refine wpAnyH_ready (rs := [16]) (by kernel_rfl) (by simp) ?_
    refine AllReadyH.cons (o := ⟨none, _, _, _, _, _⟩) rfl (fun K hK => ?_) (AllReadyH.nil)
    refine step_cell (by rfl) 111 _ _ (by rfl) gC 2 (.slice A3 (n + 1) c3) (by rfl) (by rfl) 113 _ q3 (show 2 < 3 by omega) infoFls rfl ?_
    intro x4 u4
    clear hHeld
    refine hK.out _ _ ?_ (fun hHeld => ?_)
    · exact (u4.row.cell 1).trans rfl
    clear hK K
    (try simp only [Act.put, List.setIfInBounds_toArray, List.set_cons_zero, List.set_cons_succ])
    refine wpAnyH_done (by kernel_rfl) ?_ _
    refine NoPanic.normal ?_
    clear hHeld
    go_wp2
    refine bodyPost_end (v := .tuple #[]) (results_none rfl _ _ _) rfl ?_
    exact ⟨rfl, FIN.out x1 x3 x4 A3 c3 bS1 g3 o3 l3 u4⟩
  · refine step_buildF (by rfl) 111 115 _ (by rfl) i3 _ Try.underlying111 hi3 hz0 hz1 (FE ⟨s, s, now⟩) rfl (by first | rfl | (go_simp; rfl)) ?_
    intro x1 L1
    have bS1 : Below w.heap.size w x1 := (Below.refl _ _).drew.trans L1.bel
    clear hHeld
    refine hK.out _ _ ?_ (fun hHeld => ?_)
    · exact HK1.out x1 bS1
    clear hK K
    (try simp only [Act.put, List.setIfInBounds_toArray, List.set_cons_zero, List.set_cons_succ])
    refine wpAnyH_ready (rs := [4]) (by kernel_rfl) (by simp) ?_
    refine AllReadyH.cons (o := ⟨some 17, _, _, _, _, _⟩) rfl (fun K hK => ?_) (AllReadyH.nil)
    have kx := HK2.out x1 bS1
    go_simp
    clear hHeld kx
    refine hK.out _ _ ?_ (fun hHeld => ?_)
    · exact HK1.out x1 bS1
    clear hK K
    (try simp only [Act.put, List.setIfInBounds_toArray, List.set_cons_zero, List.set_cons_succ])
    refine wpAnyH_ready (rs := [13]) (by kernel_rfl) (by simp) ?_
    refine AllReadyH.cons (o := ⟨some 26, _, _, _, _, _⟩) rfl (fun K hK => ?_) (AllReadyH.nil)
    refine step_appR (by rfl) _ _ 111 (by rfl) 0 115 i3 _ 3 40 Try.underlying111 hi3 hz0 hz1 hz2 rfl (by decide) A n c _ (by rfl) (HO.out.below bS1 (Nat.le_refl _)) ⟨w.drew.heap.size, 0, none⟩ 1 1 (FE ⟨s, s, now⟩).toList (by rfl) rfl (fun j u hj => by rw [Addr.add_lit, Nat.zero_add, L1.row.cell, ← Array.getElem?_toList]; exact hj) (by simp [FE, Value.oneCell']) (by omega) (by unfold maxLen; omega) (Nat.zero_le _) ?_
    intro A3 c3 x3 o3 g3 l3
    have q3 : Blk x3 gC 113 (chl age now A n c) := (HQ.out.after bS1).grown g3 (by rw [blk_own]; exact HAN.out)
    clear hHeld
    refine hK.out _ _ ?_ (fun hHeld => ?_)
    · exact (q3.cell 1).trans rfl
    clear hK K
    (try simp only [Act.put, List.setIfInBounds_toArray, List.set_cons_zero, List.set_cons_succ])
    refine wpAnyH_take (i := 14) (oi := ⟨some 27, _, _, _, _, _⟩) (v := ?_) rfl (by kernel_rfl) (by kernel_rfl) (by kernel_rfl) (fun _ _ _ h => h) (Or.inl ⟨by rfl, ?_⟩) hHeld ?_
    rotate_left
    · intro W hSW; have hSW0 := hSW; go_simp; first | done | with_reducible rfl
    (try simp only [Act.put, List.setIfInBounds_toArray, List.set_cons_zero, List.set_cons_succ])
    refine wpAnyH_take (i := 15) (oi := ⟨some 28, _, _, _, _, _⟩) (v := ?_) rfl (by kernel_rfl) (by kernel_rfl) (by kernel_rfl) (fun _ _ _ h => h) (Or.inl ⟨by rfl, ?_⟩) hHeld ?_
    rotate_left
    · intro W hSW; have hSW0 := hSW; go_simp; first | done | with_reducible rfl
    (try simp only [Act.put, List.setIfInBounds_toArray, List.set_cons_zero, List.set_cons_succ])
    refine wpAnyH_ready (rs := [16]) (by kernel_rfl) (by simp) ?_
    refine AllReadyH.cons (o := ⟨none, _, _, _, _, _⟩) rfl (fun K hK => ?_) (AllReadyH.nil)
    refine step_cell (by rfl) 111 _ _ (by rfl) gC 2 (.slice A3 (n + 1) c3) (by rfl) (by rfl) 113 _ q3 (show 2 < 3 by omega) infoFls rfl ?_
    intro x4 u4
    clear hHeld
    refine hK.out _ _ ?_ (fun hHeld => ?_)
    · exact (u4.row.cell 1).trans rfl
    clear hK K
    (try simp only [Act.put, List.setIfInBounds_toArray, List.set_cons_zero, List.set_cons_succ])
    refine wpAnyH_done (by kernel_rfl) ?_ _
    refine NoPanic.normal ?_
    clear hHeld
    go_wp2
    refine bodyPost_end (v := .tuple #[]) (results_none rfl _ _ _) rfl ?_
    exact ⟨rfl, FIN.out x1 x3 x4 A3 c3 bS1 g3 o3 l3 u4⟩
end Go.Proofs.Ytkmacepodomdmaa
