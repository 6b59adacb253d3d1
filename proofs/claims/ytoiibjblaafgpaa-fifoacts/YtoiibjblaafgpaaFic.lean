/-
  Layer 28: slices.Clone of bytes; a queue's Send; the calls of none.
-/
import Derived.Test.YtoiibjblaafgpaaFib
import Derived.Lib.SlBytesConst
import Derived.Great.BuildSlice
namespace Go.Proofs.Ytoiibjblaafgpaa
open Go.RowKit
set_option maxRecDepth 100000
set_option linter.unusedVariables false
set_option linter.unusedSimpArgs false
set_option maxRecDepth 100000

section
variable {P : Program} {ops : Array Oper} {o : Oper} {a : Act} {K : Act → World → Prop} {Q : Exit → Act → World → Prop} {E0 : Prop}
/-- '[]T{x}', x of one cell, in a region that draws. -/
theorem step_build1 {w : World} (hgd : o.guard = none) (t e : TypeId) (x : Operand) (ho : o.op = .buildSlice t 1 #[(0, x)]) (i : TypeInfo) (z : Value) (ht : P.underlying t = some (.slice e)) (hi : P.info? e = some i) (hz : i.zero = some z) (hs : i.size = 1)
    (v : Value) (hv : v.oneCell' = true) (hx : a.eval x = v)
    (h : ∀ w', Laid w w' e #[v] → K (a.put o.dst (.slice (some ⟨w.heap.size, 0, none⟩) 1 1)) w') : if Region.wanted o (yielded ops a.tmps) = true then Oper.wp P o a w K Q else E0 := by
  have hw : Region.wanted o (yielded ops a.tmps) = true := by simp [Region.wanted, hgd]
  rw [if_pos hw]
  refine wp_buildSlice t e 1 #[(0, x)] ho #[v] i z ht hi hz (by rw [hs]; decide) (by rw [hs]; decide) ?_ (h _ (laid_alloc w e #[v]))
  have hc : v.cells = #[v] := by cases v <;> first | rfl | cases hv
  have key : ∀ (old : Array Value), old.size = 1 → Instr.fill (fun i => some (i * 1, 1)) old [(0, v)] = some #[v] := by
    intro old ho
    obtain ⟨l⟩ := old
    match l, ho with
    | [_], _ => simp [Instr.fill, hc]
  rw [hs]
  simp only [List.map_toArray, List.map_cons, List.map_nil, hx]
  exact key _ (by simp)
/-- append of one onto a row that begins within its block, in a region that draws. -/
theorem step_appO {w : World} (hgd : o.guard = none) (s x : Operand) (t : TypeId) (ho : o.op = .call { callee := .builtin .append, args := #[s, x], argTypes := #[t, t] })
    (e : TypeId) (i : TypeInfo) (z : Value) (bytes : Nat) (ht : P.underlying t = some (.slice e)) (hi : P.info? e = some i) (hz : i.zero = some z) (hs1 : i.size = 1) (hby : i.bytes = bytes) (hzs : z.cells.size = 1)
    (A : Option Addr) (n c : Nat) (xs : List Value) (hs : a.eval s = .slice A n c) (h : OffR w e A n c xs) (ad : Addr) (c2 : Nat) (v : Value) (hx : a.eval x = .slice (some ad) 1 c2) (hv : w.cell? ad = some v) (h1 : v.oneCell' = true)
    (h63 : n + 1 ≤ maxLen) (hbytes : (n + 1) * bytes ≤ 140737488355328)
    (hK : ∀ A' c' w', OffR w' e A' (n + 1) c' (xs ++ [v]) → w.grownBy w' (blk A) → (blk A' = blk A ∨ blk A' = some w.heap.size) → K (a.put o.dst (.slice A' (n + 1) c')) w') : if Region.wanted o (yielded ops a.tmps) = true then Oper.wp P o a w K Q else E0 := by
  have hw : Region.wanted o (yielded ops a.tmps) = true := by simp [Region.wanted, hgd]
  rw [if_pos hw]
  obtain ⟨A', c', w', hrun, h2, h3, h4⟩ := run_append_off (P := P) w t o.type e i z bytes ht hi hz hs1 hby hzs A n c xs h ad c2 v hv h1 h63 hbytes
  unfold Oper.wp execOp
  simp only [ho, resolve, invoke, builtin, Sem.run_bind, Sem.run_pure, Result.andThen_ok, List.map_toArray, List.map_cons, List.map_nil, hs, hx, hrun]
  exact hK A' c' w' h2 h3 h4
end
theorem nilSl : ∀ W, (binOp .eql 26 (.slice none 0 0) (.slice none 0 0)).run Try.prog W = .ok (.bool true) W := fun _ => by kernel_rfl
theorem someSl (ad : Addr) (n c : Nat) : ∀ W, (binOp .eql 26 (.slice (some ad) n c) (.slice none 0 0)).run Try.prog W = .ok (.bool false) W := fun _ => by kernel_rfl
set_option maxHeartbeats 400000 in
theorem cloneC (A : Option Addr) (n c : Nat) (bs : List Nat) (w : World) (hr : Rd w w.heap.size A n (U8 bs)) (hnone : A = none → n = 0 ∧ c = 0) (hn : n ≤ 1000000) :
    Calls Try.prog 60 #[.slice A n c] w fun e w' => ∃ A' c', e = .returned (.slice A' n c') ∧ Own w' w.heap.size 5 A' n c' (U8 bs) ∧ Below w.heap.size w w' := by
  obtain ⟨i0, hi0, hz0, hz1, hz2⟩ := info_parts info5
  cases A with
  | none =>
    obtain ⟨rfl, rfl⟩ := hnone rfl
    have hb : bs = [] := List.eq_nil_of_length_eq_zero hr.len8.symm
    subst hb
    have ne := nilSl
    clear hr hnone
    go_enter Try.func60, Try.ntmps60
    go_wp2
    go_ret
    exact ⟨none, 0, rfl, Own.nil _ _ _, Below.refl _ _⟩
  | some ad =>
    have ne := someSl ad n c
    have bel0 : Below w.heap.size w (w.alloc (.cells #[] 5)) := (Below.refl _ _).alloc (Nat.le_refl _) _
    have o1 : Own (w.alloc (.cells #[] 5)) w.heap.size 5 (some ⟨w.heap.size, 0, none⟩) 0 0 [] := ⟨World.ownsRow_made w #[] 0 (Nat.le_refl _) (by unfold maxLen; omega) (by simp)⟩
    clear hnone
    go_enter Try.func60, Try.ntmps60
    go_wp2_with (at_builtin; refine wpList_app _ rfl _ _ 26 rfl w.heap.size 5 i0 _ 1 Try.underlying26 hi0 hz0 hz1 hz2 rfl _ 0 0 [] rfl o1 w.heap.size (some ad) n c (U8 bs) rfl (hr.below bel0) (fun e => by cases e) (U8_one bs) (by omega) (by unfold maxLen; omega) bel0.size ?_; intro A5 c5 w5 hown5 hgrow5)
    go_ret
    exact ⟨A5, c5, rfl, hown5.to (Nat.zero_add n) (List.nil_append (U8 bs)), bel0.grown hgrow5 bel0.size (fun j hj => by simp [Value.ownBlock] at hj; omega)⟩
set_option maxHeartbeats 1000000 in
theorem fSendLong (w : World) (g : Nat) (A : Option Addr) (n c : Nat) (hn : 64 < n) : Calls Try.prog 28 #[.pointer (some ⟨g, 0, none⟩), .slice A n c] w fun e w' => e = .returned (.int .i64 7) ∧ w = w' := by
  have d1 : decide ((n : Int) > 64) = true := by simp; omega
  have d1' : decide ((64 : Int) < (n : Int)) = true := by simp; omega
  go_enter Try.func28, Try.ntmps28
  go_wp2
  go_ret
  exact ⟨rfl, rfl⟩
set_option maxHeartbeats 1000000 in
theorem fSendFull (w : World) (P : Nat → Prop) (g most : Nat) (ms : List (List Nat)) (wt kp : Nat) (A : Option Addr) (n c : Nat) (h : QS w P g most ms wt kp) (hn : n ≤ 64) (hk : most ≤ kp) : Calls Try.prog 28 #[.pointer (some ⟨g, 0, none⟩), .slice A n c] w fun e w' => e = .returned (.int .i64 8) ∧ Below w.heap.size w w' := by
  obtain ⟨AL, cL, hs, q, o, hA, hm⟩ := h.blk
  have c3 : w.cell? ⟨g, 3, none⟩ = some (.int .i64 (kp : Int)) := (q.cell 3).trans rfl
  have c0 : w.cell? ⟨g, 0, none⟩ = some (.int .i64 (most : Int)) := (q.cell 0).trans rfl
  have d1 : decide ((n : Int) > 64) = false := by simp; omega
  have d1' : decide ((64 : Int) < (n : Int)) = false := by simp; omega
  have d2 : decide ((kp : Int) ≥ (most : Int)) = true := by simp; omega
  have d2' : decide ((most : Int) ≤ (kp : Int)) = true := by simp; omega
  have d2'' : decide (most ≤ kp) = true := by simp; omega
  clear q o hA hm h
  go_enter Try.func28, Try.ntmps28
  go_upto_region 5 with fail
  go_quiet (fail)
  go_wp2
  go_ret
  exact ⟨rfl, below_drawn _⟩
set_option maxHeartbeats 4000000 in
/-- Send, where there is room. -/
theorem fSend (w : World) (P : Nat → Prop) (g most : Nat) (ms : List (List Nat)) (wt kp : Nat) (A : Option Addr) (n0 c : Nat) (bs : List Nat) (h : QS w P g most ms wt kp) (hr : Rd w w.heap.size A n0 (U8 bs)) (hnone : A = none → n0 = 0 ∧ c = 0) (hn : n0 ≤ 64) (hk : kp < most) (hm0 : most ≤ 1000) (hml : ms.length ≤ 100000) :
    Calls Try.prog 28 #[.pointer (some ⟨g, 0, none⟩), .slice A n0 c] w fun e w' => e = .returned (.int .i64 0) ∧ Kr w w' P ∧ ∃ P' : Nat → Prop, QS w' P' g most (ms ++ [bs]) wt (kp + 1) ∧ ∀ k, P' k → P k ∨ w.heap.size ≤ k := by
  obtain ⟨j0, hj0, hy0, hy1, hy2⟩ := info_parts infoSl8'
  have HBL := Lib.hid hr.len8
  obtain ⟨AL, cL, hs, q, o, hA, hm⟩ := h.blk
  have c3 : w.cell? ⟨g, 3, none⟩ = some (.int .i64 (kp : Int)) := (q.cell 3).trans rfl
  have c0 : w.cell? ⟨g, 0, none⟩ = some (.int .i64 (most : Int)) := (q.cell 0).trans rfl
  have d1 : decide ((n0 : Int) > 64) = false := by simp; omega
  have d1' : decide ((64 : Int) < (n0 : Int)) = false := by simp; omega
  have d2 : decide ((kp : Int) ≥ (most : Int)) = false := by simp; omega
  have d2' : decide ((most : Int) ≤ (kp : Int)) = false := by simp; omega
  have d2'' : decide (most ≤ kp) = false := by simp; omega
  have d2n : ¬ most ≤ kp := by omega
  obtain ⟨kp1, hkp⟩ : ∃ k, k = kp + 1 := ⟨_, rfl⟩
  have ek : (kp : Int) + 1 = (kp1 : Int) := by omega
  have hkb : kp1 ≤ 10000 := by omega
  rw [← hkp]
  obtain ⟨n, hnl⟩ : ∃ n, n = ms.length := ⟨_, rfl⟩
  have HNL := Lib.hid hnl
  rw [← hnl] at q o
  have hn2 : n ≤ 100000 := by omega
  have HMI := Lib.hid h.mine
  have HLT := Lib.hid h.lt
  have HA := Lib.hid hA
  have HQ0 := Lib.hid q
  have HO0 := Lib.hid o
  have HM := Lib.hid hm
  have HNE : Hid (blk AL ≠ some g) := o.ne_blk q (by decide)
  clear h hA hm hnl hkp hml q o hk
  go_enter Try.func28, Try.ntmps28
  go_upto_region 5 with fail
  go_quiet (fail)
  obtain ⟨v, hv⟩ : ∃ v, v = w.drewN nq := ⟨_, rfl⟩
  have HV := Lib.hid hv
  have bv : Hid (Below w.heap.size w v) := by rw [hv]; exact below_drawn _
  have hvs : Hid (v.heap = w.heap) := by rw [hv]; rfl
  rw [← hv]
  clear hv c3 c0
  go_upto_region 7 with fail
  have CC := Lib.hid (fun (W : World) (hW : Below v.heap.size v W) => cloneC A n0 c bs W (((hr.below bv.out).up bv.out.size).below hW |>.up hW.size) hnone (by omega))
  have HQ : Hid (Blk v g 93 (qf most AL n cL wt kp)) := by unfold Hid Blk; rw [hvs.out]; exact HQ0.out
  have HO : Hid (OffR v 26 AL n cL hs) := HO0.out.heap (fun k hk => by rw [hvs.out])
  have HK1 : Hid (∀ W, Below v.heap.size v W → W.cell? ⟨g, 1, none⟩ = some (.slice AL n cL)) := fun W hW => ((HQ.out.after hW).cell 1).trans rfl
  have hsz : Hid (v.heap.size = w.heap.size) := by rw [hvs.out]; exact rfl
  have FIN : Hid (∀ (x1 x2 x3 x4 x5 : World) (B1 A3 : Option Addr) (d1 c3 : Nat), Own x1 v.heap.size 5 B1 n0 d1 (U8 bs) → Below v.heap.size v x1 → Laid x1 x2 26 #[.slice B1 n0 d1] → OffR x3 26 A3 (n + 1) c3 (hs ++ [.slice B1 n0 d1]) → x2.grownBy x3 (blk AL) → (blk A3 = blk AL ∨ blk A3 = some x2.heap.size) →
      Upd x3 x4 g 93 (qf most A3 (n + 1) c3 wt kp) → Upd x4 x5 g 93 (qf most A3 (n + 1) c3 wt kp1) → Kr w x5 P ∧ ∃ P' : Nat → Prop, QS x5 P' g most (ms ++ [bs]) wt kp1 ∧ ∀ k, P' k → P k ∨ w.heap.size ≤ k) := by
    intro x1 x2 x3 x4 x5 B1 A3 d1 c3 oB b1 L2 o3 g3 l3 u4 u5
    have s1 := b1.size
    have s2 := L2.size
    have s3 := g3.size
    have s4 := u4.size
    have s5 := u5.size
    rw [hsz.out] at s1 b1 oB
    have hoth : ∀ k, k < x1.heap.size → blk AL ≠ some k → k ≠ g → x5.heap[k]? = x1.heap[k]? := fun k hk h1 h2 => (u5.oth k h2).trans ((u4.oth k h2).trans ((g3.block k (by omega) (fun e => h1 e.symm)).trans (L2.bel.block k hk)))
    have hold : ∀ k, k < w.heap.size → blk AL ≠ some k → k ≠ g → x5.heap[k]? = w.heap[k]? := fun k hk h1 h2 => (hoth k (by omega) h1 h2).trans ((b1.block k hk).trans (by rw [hvs.out]))
    have hos : x5.os = w.os := by rw [u5.os, u4.os, g3.os, L2.bel.os, b1.os, bv.out.os]
    have hta : x5.tape = w.tape := by rw [u5.tape, u4.tape, g3.tape, L2.bel.tape, b1.tape, bv.out.tape]
    have hou : x5.output = w.output := by rw [u5.output, u4.output, g3.output, L2.bel.output, b1.output, bv.out.output]
    have hgw := HLT.out g HMI.out
    have hB1 : ∀ k, blk B1 = some k → w.heap.size ≤ k ∧ k < x1.heap.size := fun k hk => oB.blkLt k hk
    have hAL : ∀ k, blk AL = some k → k < w.heap.size := fun k hk => HLT.out k (HA.out k hk)
    refine ⟨⟨hos, hta, hou, by omega, fun k hk hp => hold k hk (fun e => hp (HA.out k e)) (fun e => hp (by rw [e]; exact HMI.out))⟩, fun k => (P k ∨ w.heap.size ≤ k) ∧ k < x5.heap.size, ⟨⟨A3, c3, hs ++ [.slice B1 n0 d1], ?_, ?_, fun k hk => ?_, fun i hi => ?_⟩, ⟨.inl HMI.out, by omega⟩, fun k hk => hk.2⟩, fun k hk => hk.1⟩
    · rw [List.length_append, List.length_singleton, ← HNL.out]; exact u5.row
    · rw [List.length_append, List.length_singleton, ← HNL.out]
      have hn3 : blk A3 ≠ some g := by
        rcases l3 with e | e
        · rw [e]; exact HNE.out
        · rw [e]; intro h; injection h with h; omega
      exact o3.heap (fun k hk => (u5.oth k (fun e => hn3 (by rw [← e]; exact hk))).trans (u4.oth k (fun e => hn3 (by rw [← e]; exact hk))))
    · have := o3.lt k hk
      refine ⟨?_, by omega⟩
      rcases l3 with e | e
      · rw [e] at hk; exact .inl (HA.out k hk)
      · rw [e] at hk; injection hk with hk; exact .inr (by omega)
    · have hhl := HO0.out.len
      have hnn : hs.length = ms.length := hhl.trans HNL.out
      rw [List.length_append, List.length_singleton] at hi
      by_cases hin : i < ms.length
      · rw [Bm.getD_lt _ _ _ (by rw [List.length_append]; omega), Bm.getD_lt _ _ _ (by rw [List.length_append]; omega), List.getElem_append_left (by rw [hhl, HNL.out]; exact hin), List.getElem_append_left hin, ← Bm.getD_lt hs undef i (by rw [hhl, HNL.out]; exact hin), ← Bm.getD_lt ms [] i hin]
        obtain ⟨C, e', he, oc, hC⟩ := (HM.out i hin).at_
        refine ⟨⟨C, e', he, oc.heap (fun k hk => hold k (oc.blkLt k hk).2 (HO0.out.ne_own oc (by decide) k hk) (fun e => oc.ne_blk HQ0.out (by decide) (by rw [← e]; exact hk))), fun k hk => ⟨.inl (hC k hk), by have := (oc.blkLt k hk).2; omega⟩⟩⟩
      · have hie : i = ms.length := by omega
        subst hie
        rw [Bm.getD_lt _ _ _ (by rw [List.length_append, List.length_singleton, hhl, HNL.out]; omega), Bm.getD_lt _ _ _ (by rw [List.length_append, List.length_singleton]; omega), List.getElem_append_right (by rw [hhl, HNL.out]; exact Nat.le_refl _), List.getElem_append_right (Nat.le_refl _)]
        have e1 : ([Value.slice B1 n0 d1])[ms.length - hs.length]'(by rw [hhl, HNL.out]; simp) = .slice B1 n0 d1 := by simp
        have e2 : ([bs])[ms.length - ms.length]'(by simp) = bs := by simp
        rw [e1, e2]
        have ob2 : Own x1 0 5 B1 bs.length d1 (U8 bs) := by rw [← HBL.out]; exact oB.down (Nat.zero_le _)
        refine ⟨⟨B1, d1, by rw [HBL.out], ob2.heap (fun k hk => hoth k (hB1 k hk).2 (fun e => by have := hAL k e; have := (hB1 k hk).1; omega) (fun e => by have := (hB1 k hk).1; omega)), fun k hk => ⟨.inr (hB1 k hk).1, by have := (hB1 k hk).2; omega⟩⟩⟩
  clear HM HA HLT HMI HBL hr
  refine wp_region_noPanic ?_
  refine wp_region_held_drew (S := fun _ => True) (by kernel_rfl) trivial (fun hHeld => ?_)
  refine wpAnyH_take (i := 0) (oi := ⟨some 22, _, _, _, _, _⟩) (v := ?_) rfl (by kernel_rfl) (by kernel_rfl) (by kernel_rfl) (fun _ _ _ h => h) (Or.inl ⟨by rfl, ?_⟩) hHeld ?_
  rotate_left
  · intro W hSW; have hSW0 := hSW; go_simp; first | done | with_reducible rfl
  (try simp only [Act.put, List.setIfInBounds_toArray, List.set_cons_zero, List.set_cons_succ])
  refine wpAnyH_take (i := 1) (oi := ⟨some 23, _, _, _, _, _⟩) (v := ?_) rfl (by kernel_rfl) (by kernel_rfl) (by kernel_rfl) (fun _ _ _ h => h) (Or.inl ⟨by rfl, ?_⟩) hHeld ?_
  rotate_left
  · intro W hSW; have hSW0 := hSW; go_simp; first | done | with_reducible rfl
  (try simp only [Act.put, List.setIfInBounds_toArray, List.set_cons_zero, List.set_cons_succ])
  refine wpAnyH_take (i := 2) (oi := ⟨some 24, _, _, _, _, _⟩) (v := ?_) rfl (by kernel_rfl) (by kernel_rfl) (by kernel_rfl) (fun _ _ _ h => h) (Or.inl ⟨by rfl, ?_⟩) hHeld ?_
  rotate_left
  · intro W hSW; have hSW0 := hSW; go_simp; first | done | with_reducible rfl
  (try simp only [Act.put, List.setIfInBounds_toArray, List.set_cons_zero, List.set_cons_succ])
  refine wpAnyH_take (i := 3) (oi := ⟨some 25, _, _, _, _, _⟩) (v := ?_) rfl (by kernel_rfl) (by kernel_rfl) (by kernel_rfl) (fun _ _ _ h => h) (Or.inl ⟨by rfl, ?_⟩) hHeld ?_
  rotate_left
  · intro W hSW; have hSW0 := hSW; go_simp; first | done | with_reducible rfl
  (try simp only [Act.put, List.setIfInBounds_toArray, List.set_cons_zero, List.set_cons_succ])
  refine wpAnyH_take (i := 5) (oi := ⟨some 27, _, _, _, _, _⟩) (v := ?_) rfl (by kernel_rfl) (by kernel_rfl) (by kernel_rfl) (fun _ _ _ h => h) (Or.inl ⟨by rfl, ?_⟩) hHeld ?_
  rotate_left
  · intro W hSW; have hSW0 := hSW; go_simp; first | done | with_reducible rfl
  (try simp only [Act.put, List.setIfInBounds_toArray, List.set_cons_zero, List.set_cons_succ])
  refine wpAnyH_ready (rs := [4, 6]) (by kernel_rfl) (by simp) ?_
  refine AllReadyH.cons (o := ⟨some 26, _, _, _, _, _⟩) rfl (fun K hK => ?_) (AllReadyH.cons (o := ⟨some 28, _, _, _, _, _⟩) rfl (fun K hK => ?_) (AllReadyH.nil))
  · have kx := HK1.out v.drew (Below.refl v.heap.size v).drew
    go_simp
    clear hHeld kx
    refine hK.out _ _ ?_ (fun hHeld => ?_)
    · trivial
    clear hK K
    (try simp only [Act.put, List.setIfInBounds_toArray, List.set_cons_zero, List.set_cons_succ])
    refine wpAnyH_ready (rs := [6]) (by kernel_rfl) (by simp) ?_
    refine AllReadyH.cons (o := ⟨some 28, _, _, _, _, _⟩) rfl (fun K hK => ?_) (AllReadyH.nil)
    go_simp
    go_at_call 60
    refine (CC.out v.drew (Below.refl v.heap.size v).drew).mono ?_
    rintro e x1 ⟨B1, d1, rfl, oB, bB⟩
    have bS1 : Below v.heap.size v x1 := ((Below.refl v.heap.size v).drew).trans (bB.mono ((Below.refl v.heap.size v).drew).size)
    clear hHeld
    refine hK.out _ _ ?_ (fun hHeld => ?_)
    · trivial
    clear hK K
    (try simp only [Act.put, List.setIfInBounds_toArray, List.set_cons_zero, List.set_cons_succ])
    refine wpAnyH_ready (rs := [7]) (by kernel_rfl) (by simp) ?_
    refine AllReadyH.cons (o := ⟨some 29, _, _, _, _, _⟩) rfl (fun K hK => ?_) (AllReadyH.nil)
    refine step_build1 (by rfl) 61 26 _ (by rfl) j0 _ Try.underlying61 hj0 hy0 hy1 (.slice B1 n0 d1) rfl (by first | rfl | (go_simp; rfl)) ?_
    intro x2 L2
    have bS2 : Below v.heap.size v x2 := bS1.trans (L2.bel.mono bS1.size)
    clear hHeld
    refine hK.out _ _ ?_ (fun hHeld => ?_)
    · trivial
    clear hK K
    (try simp only [Act.put, List.setIfInBounds_toArray, List.set_cons_zero, List.set_cons_succ])
    refine wpAnyH_ready (rs := [8]) (by kernel_rfl) (by simp) ?_
    refine AllReadyH.cons (o := ⟨some 30, _, _, _, _, _⟩) rfl (fun K hK => ?_) (AllReadyH.nil)
    refine step_appO (by rfl) _ _ 61 (by rfl) 26 j0 _ 24 Try.underlying61 hj0 hy0 hy1 hy2 rfl AL n cL hs (by rfl) (HO.out.heap (fun k hk => bS2.block k (HO.out.lt k hk))) ⟨x1.heap.size, 0, none⟩ 1 (.slice B1 n0 d1) (by rfl) ((L2.row.cell 0).trans rfl) rfl (by unfold maxLen; omega) (by omega) ?_
    intro A3 c3 x3 o3 g3 l3
    have q3 : Blk x3 g 93 (qf most AL n cL wt kp) := (HQ.out.after bS2).grown g3 HNE.out
    clear hHeld
    refine hK.out _ _ ?_ (fun hHeld => ?_)
    · trivial
    clear hK K
    (try simp only [Act.put, List.setIfInBounds_toArray, List.set_cons_zero, List.set_cons_succ])
    refine wpAnyH_take (i := 9) (oi := ⟨some 31, _, _, _, _, _⟩) (v := ?_) rfl (by kernel_rfl) (by kernel_rfl) (by kernel_rfl) (fun _ _ _ h => h) (Or.inl ⟨by rfl, ?_⟩) hHeld ?_
    rotate_left
    · intro W hSW; have hSW0 := hSW; go_simp; first | done | with_reducible rfl
    (try simp only [Act.put, List.setIfInBounds_toArray, List.set_cons_zero, List.set_cons_succ])
    refine wpAnyH_take (i := 10) (oi := ⟨some 32, _, _, _, _, _⟩) (v := ?_) rfl (by kernel_rfl) (by kernel_rfl) (by kernel_rfl) (fun _ _ _ h => h) (Or.inl ⟨by rfl, ?_⟩) hHeld ?_
    rotate_left
    · intro W hSW; have hSW0 := hSW; go_simp; first | done | with_reducible rfl
    (try simp only [Act.put, List.setIfInBounds_toArray, List.set_cons_zero, List.set_cons_succ])
    refine wpAnyH_ready (rs := [11]) (by kernel_rfl) (by simp) ?_
    refine AllReadyH.cons (o := ⟨none, _, _, _, _, _⟩) rfl (fun K hK => ?_) (AllReadyH.nil)
    refine step_cell (by rfl) 61 _ _ (by rfl) g 1 (.slice A3 (n + 1) c3) (by rfl) (by rfl) 93 _ q3 (show 1 < 4 by omega) infoSls8one rfl ?_
    intro x4 u4
    clear hHeld
    refine hK.out _ _ ?_ (fun hHeld => ?_)
    · trivial
    clear hK K
    (try simp only [Act.put, List.setIfInBounds_toArray, List.set_cons_zero, List.set_cons_succ])
    refine wpAnyH_done (by kernel_rfl) ?_ _
    refine NoPanic.normal ?_
    clear hHeld
    rw [qf_set1] at u4
    have q4 := u4.row
    have c43 : x4.cell? ⟨g, 3, none⟩ = some (.int .i64 (kp : Int)) := (q4.cell 3).trans rfl
    go_wp2_with (refine at_cell rfl 3 _ _ rfl g 3 (.int .i64 (kp1 : Int)) rfl rfl 93 _ q4 (show 3 < 4 by omega) info3s rfl ?_; intro x5 u5)
    rw [qf_set3] at u5
    go_ret
    exact ⟨rfl, FIN.out x1 x2 x3 x4 x5 B1 A3 d1 c3 oB bS1 L2 o3 g3 l3 u4 u5⟩
  · go_simp
    go_at_call 60
    refine (CC.out v.drew (Below.refl v.heap.size v).drew).mono ?_
    rintro e x1 ⟨B1, d1, rfl, oB, bB⟩
    have bS1 : Below v.heap.size v x1 := ((Below.refl v.heap.size v).drew).trans (bB.mono ((Below.refl v.heap.size v).drew).size)
    clear hHeld
    refine hK.out _ _ ?_ (fun hHeld => ?_)
    · trivial
    clear hK K
    (try simp only [Act.put, List.setIfInBounds_toArray, List.set_cons_zero, List.set_cons_succ])
    refine wpAnyH_ready (rs := [4, 7]) (by kernel_rfl) (by simp) ?_
    refine AllReadyH.cons (o := ⟨some 26, _, _, _, _, _⟩) rfl (fun K hK => ?_) (AllReadyH.cons (o := ⟨some 29, _, _, _, _, _⟩) rfl (fun K hK => ?_) (AllReadyH.nil))
    · have kx := HK1.out x1 bS1
      go_simp
      clear hHeld kx
      refine hK.out _ _ ?_ (fun hHeld => ?_)
      · trivial
      clear hK K
      (try simp only [Act.put, List.setIfInBounds_toArray, List.set_cons_zero, List.set_cons_succ])
      refine wpAnyH_ready (rs := [7]) (by kernel_rfl) (by simp) ?_
      refine AllReadyH.cons (o := ⟨some 29, _, _, _, _, _⟩) rfl (fun K hK => ?_) (AllReadyH.nil)
      refine step_build1 (by rfl) 61 26 _ (by rfl) j0 _ Try.underlying61 hj0 hy0 hy1 (.slice B1 n0 d1) rfl (by first | rfl | (go_simp; rfl)) ?_
      intro x2 L2
      have bS2 : Below v.heap.size v x2 := bS1.trans (L2.bel.mono bS1.size)
      clear hHeld
      refine hK.out _ _ ?_ (fun hHeld => ?_)
      · trivial
      clear hK K
      (try simp only [Act.put, List.setIfInBounds_toArray, List.set_cons_zero, List.set_cons_succ])
      refine wpAnyH_ready (rs := [8]) (by kernel_rfl) (by simp) ?_
      refine AllReadyH.cons (o := ⟨some 30, _, _, _, _, _⟩) rfl (fun K hK => ?_) (AllReadyH.nil)
      refine step_appO (by rfl) _ _ 61 (by rfl) 26 j0 _ 24 Try.underlying61 hj0 hy0 hy1 hy2 rfl AL n cL hs (by rfl) (HO.out.heap (fun k hk => bS2.block k (HO.out.lt k hk))) ⟨x1.heap.size, 0, none⟩ 1 (.slice B1 n0 d1) (by rfl) ((L2.row.cell 0).trans rfl) rfl (by unfold maxLen; omega) (by omega) ?_
      intro A3 c3 x3 o3 g3 l3
      have q3 : Blk x3 g 93 (qf most AL n cL wt kp) := (HQ.out.after bS2).grown g3 HNE.out
      clear hHeld
      refine hK.out _ _ ?_ (fun hHeld => ?_)
      · trivial
      clear hK K
      (try simp only [Act.put, List.setIfInBounds_toArray, List.set_cons_zero, List.set_cons_succ])
      refine wpAnyH_take (i := 9) (oi := ⟨some 31, _, _, _, _, _⟩) (v := ?_) rfl (by kernel_rfl) (by kernel_rfl) (by kernel_rfl) (fun _ _ _ h => h) (Or.inl ⟨by rfl, ?_⟩) hHeld ?_
      rotate_left
      · intro W hSW; have hSW0 := hSW; go_simp; first | done | with_reducible rfl
      (try simp only [Act.put, List.setIfInBounds_toArray, List.set_cons_zero, List.set_cons_succ])
      refine wpAnyH_take (i := 10) (oi := ⟨some 32, _, _, _, _, _⟩) (v := ?_) rfl (by kernel_rfl) (by kernel_rfl) (by kernel_rfl) (fun _ _ _ h => h) (Or.inl ⟨by rfl, ?_⟩) hHeld ?_
      rotate_left
      · intro W hSW; have hSW0 := hSW; go_simp; first | done | with_reducible rfl
      (try simp only [Act.put, List.setIfInBounds_toArray, List.set_cons_zero, List.set_cons_succ])
      refine wpAnyH_ready (rs := [11]) (by kernel_rfl) (by simp) ?_
      refine AllReadyH.cons (o := ⟨none, _, _, _, _, _⟩) rfl (fun K hK => ?_) (AllReadyH.nil)
      refine step_cell (by rfl) 61 _ _ (by rfl) g 1 (.slice A3 (n + 1) c3) (by rfl) (by rfl) 93 _ q3 (show 1 < 4 by omega) infoSls8one rfl ?_
      intro x4 u4
      clear hHeld
      refine hK.out _ _ ?_ (fun hHeld => ?_)
      · trivial
      clear hK K
      (try simp only [Act.put, List.setIfInBounds_toArray, List.set_cons_zero, List.set_cons_succ])
      refine wpAnyH_done (by kernel_rfl) ?_ _
      refine NoPanic.normal ?_
      clear hHeld
      rw [qf_set1] at u4
      have q4 := u4.row
      have c43 : x4.cell? ⟨g, 3, none⟩ = some (.int .i64 (kp : Int)) := (q4.cell 3).trans rfl
      go_wp2_with (refine at_cell rfl 3 _ _ rfl g 3 (.int .i64 (kp1 : Int)) rfl rfl 93 _ q4 (show 3 < 4 by omega) info3s rfl ?_; intro x5 u5)
      rw [qf_set3] at u5
      go_ret
      exact ⟨rfl, FIN.out x1 x2 x3 x4 x5 B1 A3 d1 c3 oB bS1 L2 o3 g3 l3 u4 u5⟩
    · refine step_build1 (by rfl) 61 26 _ (by rfl) j0 _ Try.underlying61 hj0 hy0 hy1 (.slice B1 n0 d1) rfl (by first | rfl | (go_simp; rfl)) ?_
      intro x2 L2
      have bS2 : Below v.heap.size v x2 := bS1.trans (L2.bel.mono bS1.size)
      clear hHeld
      refine hK.out _ _ ?_ (fun hHeld => ?_)
      · trivial
      clear hK K
      (try simp only [Act.put, List.setIfInBounds_toArray, List.set_cons_zero, List.set_cons_succ])
      refine wpAnyH_ready (rs := [4]) (by kernel_rfl) (by simp) ?_
      refine AllReadyH.cons (o := ⟨some 26, _, _, _, _, _⟩) rfl (fun K hK => ?_) (AllReadyH.nil)
      have kx := HK1.out x2 bS2
      go_simp
      clear hHeld kx
      refine hK.out _ _ ?_ (fun hHeld => ?_)
      · trivial
      clear hK K
      (try simp only [Act.put, List.setIfInBounds_toArray, List.set_cons_zero, List.set_cons_succ])
      refine wpAnyH_ready (rs := [8]) (by kernel_rfl) (by simp) ?_
      refine AllReadyH.cons (o := ⟨some 30, _, _, _, _, _⟩) rfl (fun K hK => ?_) (AllReadyH.nil)
      refine step_appO (by rfl) _ _ 61 (by rfl) 26 j0 _ 24 Try.underlying61 hj0 hy0 hy1 hy2 rfl AL n cL hs (by rfl) (HO.out.heap (fun k hk => bS2.block k (HO.out.lt k hk))) ⟨x1.heap.size, 0, none⟩ 1 (.slice B1 n0 d1) (by rfl) ((L2.row.cell 0).trans rfl) rfl (by unfold maxLen; omega) (by omega) ?_
      intro A3 c3 x3 o3 g3 l3
      have q3 : Blk x3 g 93 (qf most AL n cL wt kp) := (HQ.out.after bS2).grown g3 HNE.out
      clear hHeld
      refine hK.out _ _ ?_ (fun hHeld => ?_)
      · trivial
      clear hK K
      (try simp only [Act.put, List.setIfInBounds_toArray, List.set_cons_zero, List.set_cons_succ])
      refine wpAnyH_take (i := 9) (oi := ⟨some 31, _, _, _, _, _⟩) (v := ?_) rfl (by kernel_rfl) (by kernel_rfl) (by kernel_rfl) (fun _ _ _ h => h) (Or.inl ⟨by rfl, ?_⟩) hHeld ?_
      rotate_left
      · intro W hSW; have hSW0 := hSW; go_simp; first | done | with_reducible rfl
      (try simp only [Act.put, List.setIfInBounds_toArray, List.set_cons_zero, List.set_cons_succ])
      refine wpAnyH_take (i := 10) (oi := ⟨some 32, _, _, _, _, _⟩) (v := ?_) rfl (by kernel_rfl) (by kernel_rfl) (by kernel_rfl) (fun _ _ _ h => h) (Or.inl ⟨by rfl, ?_⟩) hHeld ?_
      rotate_left
      · intro W hSW; have hSW0 := hSW; go_simp; first | done | with_reducible rfl
      (try simp only [Act.put, List.setIfInBounds_toArray, List.set_cons_zero, List.set_cons_succ])
      refine wpAnyH_ready (rs := [11]) (by kernel_rfl) (by simp) ?_
      refine AllReadyH.cons (o := ⟨none, _, _, _, _, _⟩) rfl (fun K hK => ?_) (AllReadyH.nil)
      refine step_cell (by rfl) 61 _ _ (by rfl) g 1 (.slice A3 (n + 1) c3) (by rfl) (by rfl) 93 _ q3 (show 1 < 4 by omega) infoSls8one rfl ?_
      intro x4 u4
      clear hHeld
      refine hK.out _ _ ?_ (fun hHeld => ?_)
      · trivial
      clear hK K
      (try simp only [Act.put, List.setIfInBounds_toArray, List.set_cons_zero, List.set_cons_succ])
      refine wpAnyH_done (by kernel_rfl) ?_ _
      refine NoPanic.normal ?_
      clear hHeld
      rw [qf_set1] at u4
      have q4 := u4.row
      have c43 : x4.cell? ⟨g, 3, none⟩ = some (.int .i64 (kp : Int)) := (q4.cell 3).trans rfl
      go_wp2_with (refine at_cell rfl 3 _ _ rfl g 3 (.int .i64 (kp1 : Int)) rfl rfl 93 _ q4 (show 3 < 4 by omega) info3s rfl ?_; intro x5 u5)
      rw [qf_set3] at u5
      go_ret
      exact ⟨rfl, FIN.out x1 x2 x3 x4 x5 B1 A3 d1 c3 oB bS1 L2 o3 g3 l3 u4 u5⟩
end Go.Proofs.Ytoiibjblaafgpaa
