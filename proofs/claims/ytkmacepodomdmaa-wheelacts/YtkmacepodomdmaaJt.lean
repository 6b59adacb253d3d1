/-
  Layer 19 (what is due at which tick): the reference's wheel: DocSet.
-/
import Derived.Test.YtkmacepodomdmaaJs
namespace Go.Proofs.Ytkmacepodomdmaa
open Go.RowKit
set_option maxRecDepth 100000
set_option linter.unusedVariables false
set_option linter.unusedSimpArgs false

section
variable {P : Program} {ops : Array Oper} {rest : List Oper} {o : Oper} {a : Act} {K : Act → World → Prop} {Q : Exit → Act → World → Prop} {E' : Prop}
theorem fill2 (old E : Array Value) (ho : old.size = 2) (hE : E.size = 2) : Instr.fill (fun i => some (i * 2, 2)) old [(0, .agg E)] = some E := by
  obtain ⟨l⟩ := old
  obtain ⟨m⟩ := E
  match l, ho, m, hE with
  | [_, _], _, [_, _], _ => simp [Instr.fill, Value.cells]
/-- '[]T{x}', x of two cells. -/
theorem at_build2 {w : World} (hgd : o.guard = none) (t e : TypeId) (x : Operand) (ho : o.op = .buildSlice t 1 #[(0, x)]) (i : TypeInfo) (z : Value) (ht : P.underlying t = some (.slice e)) (hi : P.info? e = some i) (hz : i.zero = some z) (hs : i.size = 2)
    (E : Array Value) (hE : E.size = 2) (hx : a.eval x = .agg E)
    (h : wpList P ops Q rest (a.put o.dst (.slice (some ⟨w.heap.size, 0, none⟩) 1 1)) (w.alloc (.cells E e))) : wpList P ops Q (o :: rest) a w := by
  refine wpList_buildSlice hgd t e 1 #[(0, x)] ho E i z ht hi hz (by rw [hs]; decide) (by rw [hs]; decide) ?_ h
  rw [hs]
  simp only [List.map_toArray, List.map_cons, List.map_nil, hx]
  exact fill2 _ _ (by simp) hE
/-- The same, in a region that draws. -/
theorem step_build2 {w : World} (hgd : o.guard = none) (t e : TypeId) (x : Operand) (ho : o.op = .buildSlice t 1 #[(0, x)]) (i : TypeInfo) (z : Value) (ht : P.underlying t = some (.slice e)) (hi : P.info? e = some i) (hz : i.zero = some z) (hs : i.size = 2)
    (E : Array Value) (hE : E.size = 2) (hx : a.eval x = .agg E)
    (h : ∀ w', Laid w w' e E → K (a.put o.dst (.slice (some ⟨w.heap.size, 0, none⟩) 1 1)) w') : if Region.wanted o (yielded ops a.tmps) = true then Oper.wp P o a w K Q else E' := by
  have hw : Region.wanted o (yielded ops a.tmps) = true := by simp [Region.wanted, hgd]
  rw [if_pos hw]
  refine wp_buildSlice t e 1 #[(0, x)] ho E i z ht hi hz (by rw [hs]; decide) (by rw [hs]; decide) ?_ (h _ (laid_alloc w e E))
  rw [hs]
  simp only [List.map_toArray, List.map_cons, List.map_nil, hx]
  exact fill2 _ _ (by simp) hE
end
theorem D2_snoc (L : List (Nat × Nat)) (a t : Nat) : D2 L ++ (#[.int .i64 (a : Int), .int .i64 (t : Int)] : Array Value).toList = D2 (L ++ [(a, t)]) := by rw [D2_append]; rfl

set_option maxHeartbeats 1000000 in
set_option maxRecDepth 100000 in
/-- (*Wheel).DocSet. -/
theorem docSet (w : World) (P : Nat → Prop) (gR now a inn : Nat) (L : List (Nat × Nat)) (h : RW w P gR now L) (hn : (L.map Prod.fst).Nodup) (hnum : ∀ p ∈ L, p.1 < 65536) (ha : a < 65536) (hL : L.length ≤ 100000) (hin : inn ≤ 1000) (hnow : now ≤ 1000000) :
    Calls Try.prog 30 #[.pointer (some ⟨gR, 0, none⟩), .int .i64 (a : Int), .int .i64 (inn : Int)] w fun e w' =>
      e = .returned (.tuple #[]) ∧ Kr w w' P ∧ ∃ P' : Nat → Prop, RW w' P' gR now (setL L a (now + inn)) ∧ ∀ k, P' k → P k ∨ w.heap.size ≤ k := by
  have CD := Lib.hid (docDrop w P gR now a L h hn hnum ha hL)
  obtain ⟨i2, hi2, hz0, hz1, hz2⟩ := info_parts infoDue
  have hdl : (dropL L a).length ≤ 100000 := Nat.le_trans (List.length_filter_le _ _) hL
  have HLT0 := Lib.hid h.lt
  have HM0 := Lib.hid h.mine
  obtain ⟨at_, hat⟩ : ∃ at_, at_ = now + inn := ⟨_, rfl⟩
  have eat : (now : Int) + (inn : Int) = (at_ : Int) := by omega
  have ewr : IntKind.i64.wrap ((at_ : Nat) : Int) = (at_ : Int) := IntWalk.i64_in _ (by omega)
  have HS : Hid (setL L a (now + inn) = dropL L a ++ [(a, at_)]) := by unfold Hid; rw [hat]; rfl
  clear hn hnum hL hat h
  obtain ⟨L', hL'⟩ : ∃ L', L' = dropL L a := ⟨_, rfl⟩
  have HL' := Lib.hid hL'
  rw [← hL'] at CD HS hdl
  go_enter Try.func30, Try.ntmps30
  go_upto_region 1 with (go_at_call 31; refine CD.out.mono ?_; rintro e w1 ⟨rfl, K1, P1, R1, HP1⟩)
  obtain ⟨A, c, q, own, hA⟩ := R1.blk
  have HA := Lib.hid hA
  have HM1 := Lib.hid R1.mine
  have HLT1 := Lib.hid R1.lt
  have HP1' := Lib.hid HP1
  have HK1 := Lib.hid K1
  obtain ⟨n, hnL⟩ : ∃ n, n = L'.length := ⟨_, rfl⟩
  have HNL := Lib.hid hnL
  rw [← hnL] at q own hdl
  have HO := Lib.hid own
  have HQ := Lib.hid q
  have HAN : Hid (blk A ≠ some gR) := fun e => (hA gR e).2 rfl
  have HK0c : Hid (∀ W, Below w1.heap.size w1 W → W.cell? ⟨gR, 0, none⟩ = some (.int .i64 (now : Int))) := fun W hW => ((q.after hW).cell 0).trans rfl
  have HK1c : Hid (∀ W, Below w1.heap.size w1 W → W.cell? ⟨gR, 1, none⟩ = some (.slice A n c)) := fun W hW => ((q.after hW).cell 1).trans rfl
  have hgl := q.lt
  have FIN : Hid (∀ (x1 x3 x4 : World) (A3 : Option Addr) (c3 : Nat), Below w1.heap.size w1 x1 → x1.grownBy x3 (Value.slice A n c).ownBlock → OwnR x3 0 110 2 A3 (n + 1) c3 (D2 L' ++ (#[.int .i64 (a : Int), .int .i64 (at_ : Int)] : Array Value).toList) → (blk A3 = blk A ∨ blk A3 = some x1.heap.size) →
      Upd x3 x4 gR 58 ((rwl now A n c).setIfInBounds 1 (.slice A3 (n + 1) c3)) →
      Ending.returned (.tuple #[]) = .returned (.tuple #[]) ∧ Kr w x4 P ∧ ∃ P' : Nat → Prop, RW x4 P' gR now (setL L a (now + inn)) ∧ ∀ k, P' k → P k ∨ w.heap.size ≤ k) := by
    intro x1 x3 x4 A3 c3 b1 g3 o3 l3 u4
    have ho3 := o3.blkLt
    have hne : ∀ j, blk A3 = some j → j ≠ gR := fun j hj => by
      rcases l3 with l3 | l3
      · exact (HA.out j (by rw [← l3]; exact hj)).2
      · have h1 : x1.heap.size = j := by rw [l3] at hj; injection hj
        have := b1.size
        omega
    have hs1 := b1.size
    have hs3 := g3.size
    have hk1 := HK1.out.size
    have hlen : (L' ++ [(a, at_)]).length = n + 1 := by rw [HNL.out]; simp
    refine ⟨rfl, ⟨u4.os.trans (g3.os.trans (b1.os.trans HK1.out.os)), u4.tape.trans (g3.tape.trans (b1.tape.trans HK1.out.tape)), u4.output.trans (g3.output.trans (b1.output.trans HK1.out.output)), by rw [u4.size]; omega, fun j hj hp => ?_⟩, (fun j => P1 j ∨ blk A3 = some j), ?_, fun j hj => ?_⟩
    · rw [u4.oth j (fun e => hp (by rw [e]; exact HM0.out)), g3.block j (by omega) (fun e => ?_), b1.block j (by omega)]
      · exact HK1.out.block j hj hp
      · rw [blk_own] at e
        rcases HP1'.out j (HA.out j (by first | exact e | exact e.symm)).1 with h1 | h1
        · exact hp h1
        · omega
    · rw [HS.out]
      refine ⟨⟨A3, c3, by rw [hlen]; exact u4.row, ?_, fun j hj => ⟨.inr hj, hne j hj⟩⟩, .inl HM1.out, fun j hj => ?_⟩
      · rw [hlen, ← D2_snoc]
        exact o3.heap (fun j hj => u4.oth j (hne j hj))
      · rw [u4.size]
        rcases hj with hj | hj
        · have := HLT1.out j hj; omega
        · exact (ho3 j hj).2
    · rcases hj with hj | hj
      · exact HP1'.out j hj
      · rcases l3 with l3 | l3
        · exact HP1'.out j (HA.out j (by rw [← l3]; exact hj)).1
        · have h1 : x1.heap.size = j := by rw [l3] at hj; injection hj
          right; omega
  clear CD K1 HP1 R1 hA hnL hL' own q
  refine wp_region_noPanic ?_
  refine wp_region_held_drew (S := fun W => True) (by kernel_rfl) trivial (fun hHeld => ?_)
  refine wpAnyH_take (i := 0) (oi := ⟨some 9, _, _, _, _, _⟩) (v := ?_) rfl (by kernel_rfl) (by kernel_rfl) (by kernel_rfl) (fun _ _ _ h => h) (Or.inl ⟨by rfl, ?_⟩) hHeld ?_
  rotate_left
  · intro W hSW; have hSW0 := hSW; go_simp; first | done | with_reducible rfl
  (try simp only [Act.put, List.setIfInBounds_toArray, List.set_cons_zero, List.set_cons_succ])
  refine wpAnyH_take (i := 1) (oi := ⟨some 10, _, _, _, _, _⟩) (v := ?_) rfl (by kernel_rfl) (by kernel_rfl) (by kernel_rfl) (fun _ _ _ h => h) (Or.inl ⟨by rfl, ?_⟩) hHeld ?_
  rotate_left
  · intro W hSW; have hSW0 := hSW; go_simp; first | done | with_reducible rfl
  (try simp only [Act.put, List.setIfInBounds_toArray, List.set_cons_zero, List.set_cons_succ])
  refine wpAnyH_take (i := 2) (oi := ⟨some 11, _, _, _, _, _⟩) (v := ?_) rfl (by kernel_rfl) (by kernel_rfl) (by kernel_rfl) (fun _ _ _ h => h) (Or.inl ⟨by rfl, ?_⟩) hHeld ?_
  rotate_left
  · intro W hSW; have hSW0 := hSW; go_simp; first | done | with_reducible rfl
  (try simp only [Act.put, List.setIfInBounds_toArray, List.set_cons_zero, List.set_cons_succ])
  refine wpAnyH_take (i := 3) (oi := ⟨some 12, _, _, _, _, _⟩) (v := ?_) rfl (by kernel_rfl) (by kernel_rfl) (by kernel_rfl) (fun _ _ _ h => h) (Or.inl ⟨by rfl, ?_⟩) hHeld ?_
  rotate_left
  · intro W hSW; have hSW0 := hSW; go_simp; first | done | with_reducible rfl
  (try simp only [Act.put, List.setIfInBounds_toArray, List.set_cons_zero, List.set_cons_succ])
  refine wpAnyH_take (i := 5) (oi := ⟨some 14, _, _, _, _, _⟩) (v := ?_) rfl (by kernel_rfl) (by kernel_rfl) (by kernel_rfl) (fun _ _ _ h => h) (Or.inl ⟨by rfl, ?_⟩) hHeld ?_
  rotate_left
  · intro W hSW; have hSW0 := hSW; go_simp; first | done | with_reducible rfl
  (try simp only [Act.put, List.setIfInBounds_toArray, List.set_cons_zero, List.set_cons_succ])
  refine wpAnyH_take (i := 6) (oi := ⟨some 15, _, _, _, _, _⟩) (v := ?_) rfl (by kernel_rfl) (by kernel_rfl) (by kernel_rfl) (fun _ _ _ h => h) (Or.inl ⟨by rfl, ?_⟩) hHeld ?_
  rotate_left
  · intro W hSW; have hSW0 := hSW; go_simp; first | done | with_reducible rfl
  (try simp only [Act.put, List.setIfInBounds_toArray, List.set_cons_zero, List.set_cons_succ])
  refine wpAnyH_take (i := 7) (oi := ⟨some 16, _, _, _, _, _⟩) (v := ?_) rfl (by kernel_rfl) (by kernel_rfl) (by kernel_rfl) (fun _ _ _ h => h) (Or.inl ⟨by rfl, ?_⟩) hHeld ?_
  rotate_left
  · intro W hSW; have hSW0 := hSW; go_simp; first | done | with_reducible rfl
  (try simp only [Act.put, List.setIfInBounds_toArray, List.set_cons_zero, List.set_cons_succ])
  refine wpAnyH_take (i := 8) (oi := ⟨some 17, _, _, _, _, _⟩) (v := ?_) rfl (by kernel_rfl) (by kernel_rfl) (by kernel_rfl) (fun _ _ _ h => h) (Or.inl ⟨by rfl, ?_⟩) hHeld ?_
  rotate_left
  · intro W hSW; have hSW0 := hSW; go_simp; first | done | with_reducible rfl
  (try simp only [Act.put, List.setIfInBounds_toArray, List.set_cons_zero, List.set_cons_succ])
  refine wpAnyH_take (i := 10) (oi := ⟨some 19, _, _, _, _, _⟩) (v := ?_) rfl (by kernel_rfl) (by kernel_rfl) (by kernel_rfl) (fun _ _ _ h => h) (Or.inl ⟨by rfl, ?_⟩) hHeld ?_
  rotate_left
  · intro W hSW; have hSW0 := hSW; go_simp; first | done | with_reducible rfl
  (try simp only [Act.put, List.setIfInBounds_toArray, List.set_cons_zero, List.set_cons_succ])
  refine wpAnyH_ready (rs := [4, 9]) (by kernel_rfl) (by simp) ?_
  refine AllReadyH.cons (o := ⟨some 13, _, _, _, _, _⟩) rfl (fun K hK => ?_) (AllReadyH.cons (o := ⟨some 18, _, _, _, _, _⟩) rfl (fun K hK => ?_) (AllReadyH.nil))
  · have kx := HK1c.out w1.drew (Below.refl _ _).drew
    go_simp
    clear hHeld kx
    refine hK.out _ _ ?_ (fun hHeld => ?_)
    · trivial
    clear hK K
    (try simp only [Act.put, List.setIfInBounds_toArray, List.set_cons_zero, List.set_cons_succ])
    refine wpAnyH_ready (rs := [9]) (by kernel_rfl) (by simp) ?_
    refine AllReadyH.cons (o := ⟨some 18, _, _, _, _, _⟩) rfl (fun K hK => ?_) (AllReadyH.nil)
    have kx := HK0c.out w1.drew (Below.refl _ _).drew
    go_simp
    clear hHeld kx
    refine hK.out _ _ ?_ (fun hHeld => ?_)
    · trivial
    clear hK K
    (try simp only [Act.put, List.setIfInBounds_toArray, List.set_cons_zero, List.set_cons_succ])
    refine wpAnyH_take (i := 11) (oi := ⟨some 20, _, _, _, _, _⟩) (v := ?_) rfl (by kernel_rfl) (by kernel_rfl) (by kernel_rfl) (fun _ _ _ h => h) (Or.inl ⟨by rfl, ?_⟩) hHeld ?_
    rotate_left
    · intro W hSW; have hSW0 := hSW; go_simp; first | done | with_reducible rfl
    (try simp only [Act.put, List.setIfInBounds_toArray, List.set_cons_zero, List.set_cons_succ])
    refine wpAnyH_take (i := 12) (oi := ⟨some 21, _, _, _, _, _⟩) (v := ?_) rfl (by kernel_rfl) (by kernel_rfl) (by kernel_rfl) (fun _ _ _ h => h) (Or.inl ⟨by rfl, ?_⟩) hHeld ?_
    rotate_left
    · intro W hSW; have hSW0 := hSW; go_simp; first | done | with_reducible rfl
    (try simp only [Act.put, List.setIfInBounds_toArray, List.set_cons_zero, List.set_cons_succ])
    refine wpAnyH_ready (rs := [13]) (by kernel_rfl) (by simp) ?_
    refine AllReadyH.cons (o := ⟨some 22, _, _, _, _, _⟩) rfl (fun K hK => ?_) (AllReadyH.nil)
    refine step_build2 (by rfl) 56 110 _ (by rfl) i2 _ Try.underlying56 hi2 hz0 hz1 #[.int .i64 (a : Int), .int .i64 (at_ : Int)] rfl (by first | rfl | (go_simp; rfl)) ?_
    intro x1 L1
    have bS1 : Below w1.heap.size w1 x1 := (Below.refl _ _).drew.trans L1.bel
    clear hHeld
    refine hK.out _ _ ?_ (fun hHeld => ?_)
    · trivial
    clear hK K
    (try simp only [Act.put, List.setIfInBounds_toArray, List.set_cons_zero, List.set_cons_succ])
    refine wpAnyH_ready (rs := [14]) (by kernel_rfl) (by simp) ?_
    refine AllReadyH.cons (o := ⟨some 23, _, _, _, _, _⟩) rfl (fun K hK => ?_) (AllReadyH.nil)
    refine step_appR (by rfl) _ _ 56 (by rfl) 0 110 i2 _ 2 16 Try.underlying56 hi2 hz0 hz1 hz2 rfl (by decide) A n c _ (by rfl) (HO.out.below bS1 (Nat.le_refl _)) ⟨w1.drew.heap.size, 0, none⟩ 1 1 (#[.int .i64 (a : Int), .int .i64 (at_ : Int)] : Array Value).toList (by rfl) rfl (fun j u hj => by rw [Addr.add_lit, Nat.zero_add, L1.row.cell, ← Array.getElem?_toList]; exact hj) (by simp [Value.oneCell']) (by omega) (by unfold maxLen; omega) (Nat.zero_le _) ?_
    intro A3 c3 x3 o3 g3 l3
    have q3 : Blk x3 gR 58 (rwl now A n c) := (HQ.out.after bS1).grown g3 (by rw [blk_own]; exact HAN.out)
    clear hHeld
    refine hK.out _ _ ?_ (fun hHeld => ?_)
    · trivial
    clear hK K
    (try simp only [Act.put, List.setIfInBounds_toArray, List.set_cons_zero, List.set_cons_succ])
    refine wpAnyH_take (i := 15) (oi := ⟨some 24, _, _, _, _, _⟩) (v := ?_) rfl (by kernel_rfl) (by kernel_rfl) (by kernel_rfl) (fun _ _ _ h => h) (Or.inl ⟨by rfl, ?_⟩) hHeld ?_
    rotate_left
    · intro W hSW; have hSW0 := hSW; go_simp; first | done | with_reducible rfl
    (try simp only [Act.put, List.setIfInBounds_toArray, List.set_cons_zero, List.set_cons_succ])
    refine wpAnyH_take (i := 16) (oi := ⟨some 25, _, _, _, _, _⟩) (v := ?_) rfl (by kernel_rfl) (by kernel_rfl) (by kernel_rfl) (fun _ _ _ h => h) (Or.inl ⟨by rfl, ?_⟩) hHeld ?_
    rotate_left
    · intro W hSW; have hSW0 := hSW; go_simp; first | done | with_reducible rfl
    (try simp only [Act.put, List.setIfInBounds_toArray, List.set_cons_zero, List.set_cons_succ])
    refine wpAnyH_ready (rs := [17]) (by kernel_rfl) (by simp) ?_
    refine AllReadyH.cons (o := ⟨none, _, _, _, _, _⟩) rfl (fun K hK => ?_) (AllReadyH.nil)
    refine step_cell (by rfl) 56 _ _ (by rfl) gR 1 (.slice A3 (n + 1) c3) (by rfl) (by rfl) 58 _ q3 (show 1 < 2 by omega) infoDues rfl ?_
    intro x4 u4
    clear hHeld
    refine hK.out _ _ ?_ (fun hHeld => ?_)
    · trivial
    clear hK K
    (try simp only [Act.put, List.setIfInBounds_toArray, List.set_cons_zero, List.set_cons_succ])
    refine wpAnyH_done (by kernel_rfl) ?_ _
    refine NoPanic.normal ?_
    clear hHeld
    go_wp2
    refine bodyPost_end (v := .tuple #[]) (results_none rfl _ _ _) rfl ?_
    exact ⟨rfl, (FIN.out x1 x3 x4 A3 c3 bS1 g3 o3 l3 u4).2⟩
  · have kx := HK0c.out w1.drew (Below.refl _ _).drew
    go_simp
    clear hHeld kx
    refine hK.out _ _ ?_ (fun hHeld => ?_)
    · trivial
    clear hK K
    (try simp only [Act.put, List.setIfInBounds_toArray, List.set_cons_zero, List.set_cons_succ])
    refine wpAnyH_take (i := 11) (oi := ⟨some 20, _, _, _, _, _⟩) (v := ?_) rfl (by kernel_rfl) (by kernel_rfl) (by kernel_rfl) (fun _ _ _ h => h) (Or.inl ⟨by rfl, ?_⟩) hHeld ?_
    rotate_left
    · intro W hSW; have hSW0 := hSW; go_simp; first | done | with_reducible rfl
    (try simp only [Act.put, List.setIfInBounds_toArray, List.set_cons_zero, List.set_cons_succ])
    refine wpAnyH_take (i := 12) (oi := ⟨some 21, _, _, _, _, _⟩) (v := ?_) rfl (by kernel_rfl) (by kernel_rfl) (by kernel_rfl) (fun _ _ _ h => h) (Or.inl ⟨by rfl, ?_⟩) hHeld ?_
    rotate_left
    · intro W hSW; have hSW0 := hSW; go_simp; first | done | with_reducible rfl
    (try simp only [Act.put, List.setIfInBounds_toArray, List.set_cons_zero, List.set_cons_succ])
    refine wpAnyH_ready (rs := [4, 13]) (by kernel_rfl) (by simp) ?_
    refine AllReadyH.cons (o := ⟨some 13, _, _, _, _, _⟩) rfl (fun K hK => ?_) (AllReadyH.cons (o := ⟨some 22, _, _, _, _, _⟩) rfl (fun K hK => ?_) (AllReadyH.nil))
    · have kx := HK1c.out w1.drew (Below.refl _ _).drew
      go_simp
      clear hHeld kx
      refine hK.out _ _ ?_ (fun hHeld => ?_)
      · trivial
      clear hK K
      (try simp only [Act.put, List.setIfInBounds_toArray, List.set_cons_zero, List.set_cons_succ])
      refine wpAnyH_ready (rs := [13]) (by kernel_rfl) (by simp) ?_
      refine AllReadyH.cons (o := ⟨some 22, _, _, _, _, _⟩) rfl (fun K hK => ?_) (AllReadyH.nil)
      refine step_build2 (by rfl) 56 110 _ (by rfl) i2 _ Try.underlying56 hi2 hz0 hz1 #[.int .i64 (a : Int), .int .i64 (at_ : Int)] rfl (by first | rfl | (go_simp; rfl)) ?_
      intro x1 L1
      have bS1 : Below w1.heap.size w1 x1 := (Below.refl _ _).drew.trans L1.bel
      clear hHeld
      refine hK.out _ _ ?_ (fun hHeld => ?_)
      · trivial
      clear hK K
      (try simp only [Act.put, List.setIfInBounds_toArray, List.set_cons_zero, List.set_cons_succ])
      refine wpAnyH_ready (rs := [14]) (by kernel_rfl) (by simp) ?_
      refine AllReadyH.cons (o := ⟨some 23, _, _, _, _, _⟩) rfl (fun K hK => ?_) (AllReadyH.nil)
      refine step_appR (by rfl) _ _ 56 (by rfl) 0 110 i2 _ 2 16 Try.underlying56 hi2 hz0 hz1 hz2 rfl (by decide) A n c _ (by rfl) (HO.out.below bS1 (Nat.le_refl _)) ⟨w1.drew.heap.size, 0, none⟩ 1 1 (#[.int .i64 (a : Int), .int .i64 (at_ : Int)] : Array Value).toList (by rfl) rfl (fun j u hj => by rw [Addr.add_lit, Nat.zero_add, L1.row.cell, ← Array.getElem?_toList]; exact hj) (by simp [Value.oneCell']) (by omega) (by unfold maxLen; omega) (Nat.zero_le _) ?_
      intro A3 c3 x3 o3 g3 l3
      have q3 : Blk x3 gR 58 (rwl now A n c) := (HQ.out.after bS1).grown g3 (by rw [blk_own]; exact HAN.out)
      clear hHeld
      refine hK.out _ _ ?_ (fun hHeld => ?_)
      · trivial
      clear hK K
      (try simp only [Act.put, List.setIfInBounds_toArray, List.set_cons_zero, List.set_cons_succ])
      refine wpAnyH_take (i := 15) (oi := ⟨some 24, _, _, _, _, _⟩) (v := ?_) rfl (by kernel_rfl) (by kernel_rfl) (by kernel_rfl) (fun _ _ _ h => h) (Or.inl ⟨by rfl, ?_⟩) hHeld ?_
      rotate_left
      · intro W hSW; have hSW0 := hSW; go_simp; first | done | with_reducible rfl
      (try simp only [Act.put, List.setIfInBounds_toArray, List.set_cons_zero, List.set_cons_succ])
      refine wpAnyH_take (i := 16) (oi := ⟨some 25, _, _, _, _, _⟩) (v := ?_) rfl (by kernel_rfl) (by kernel_rfl) (by kernel_rfl) (fun _ _ _ h => h) (Or.inl ⟨by rfl, ?_⟩) hHeld ?_
      rotate_left
      · intro W hSW; have hSW0 := hSW; go_simp; first | done | with_reducible rfl
      (try simp only [Act.put, List.setIfInBounds_toArray, List.set_cons_zero, List.set_cons_succ])
      refine wpAnyH_ready (rs := [17]) (by kernel_rfl) (by simp) ?_
      refine AllReadyH.cons (o := ⟨none, _, _, _, _, _⟩) rfl (fun K hK => ?_) (AllReadyH.nil)
      refine step_cell (by rfl) 56 _ _ (by rfl) gR 1 (.slice A3 (n + 1) c3) (by rfl) (by rfl) 58 _ q3 (show 1 < 2 by omega) infoDues rfl ?_
      intro x4 u4
      clear hHeld
      refine hK.out _ _ ?_ (fun hHeld => ?_)
      · trivial
      clear hK K
      (try simp only [Act.put, List.setIfInBounds_toArray, List.set_cons_zero, List.set_cons_succ])
      refine wpAnyH_done (by kernel_rfl) ?_ _
      refine NoPanic.normal ?_
      clear hHeld
      go_wp2
      refine bodyPost_end (v := .tuple #[]) (results_none rfl _ _ _) rfl ?_
      exact ⟨rfl, (FIN.out x1 x3 x4 A3 c3 bS1 g3 o3 l3 u4).2⟩
    · refine step_build2 (by rfl) 56 110 _ (by rfl) i2 _ Try.underlying56 hi2 hz0 hz1 #[.int .i64 (a : Int), .int .i64 (at_ : Int)] rfl (by first | rfl | (go_simp; rfl)) ?_
      intro x1 L1
      have bS1 : Below w1.heap.size w1 x1 := (Below.refl _ _).drew.trans L1.bel
      clear hHeld
      refine hK.out _ _ ?_ (fun hHeld => ?_)
      · trivial
      clear hK K
      (try simp only [Act.put, List.setIfInBounds_toArray, List.set_cons_zero, List.set_cons_succ])
      refine wpAnyH_ready (rs := [4]) (by kernel_rfl) (by simp) ?_
      refine AllReadyH.cons (o := ⟨some 13, _, _, _, _, _⟩) rfl (fun K hK => ?_) (AllReadyH.nil)
      have kx := HK1c.out x1 bS1
      go_simp
      clear hHeld kx
      refine hK.out _ _ ?_ (fun hHeld => ?_)
      · trivial
      clear hK K
      (try simp only [Act.put, List.setIfInBounds_toArray, List.set_cons_zero, List.set_cons_succ])
      refine wpAnyH_ready (rs := [14]) (by kernel_rfl) (by simp) ?_
      refine AllReadyH.cons (o := ⟨some 23, _, _, _, _, _⟩) rfl (fun K hK => ?_) (AllReadyH.nil)
      refine step_appR (by rfl) _ _ 56 (by rfl) 0 110 i2 _ 2 16 Try.underlying56 hi2 hz0 hz1 hz2 rfl (by decide) A n c _ (by rfl) (HO.out.below bS1 (Nat.le_refl _)) ⟨w1.drew.heap.size, 0, none⟩ 1 1 (#[.int .i64 (a : Int), .int .i64 (at_ : Int)] : Array Value).toList (by rfl) rfl (fun j u hj => by rw [Addr.add_lit, Nat.zero_add, L1.row.cell, ← Array.getElem?_toList]; exact hj) (by simp [Value.oneCell']) (by omega) (by unfold maxLen; omega) (Nat.zero_le _) ?_
      intro A3 c3 x3 o3 g3 l3
      have q3 : Blk x3 gR 58 (rwl now A n c) := (HQ.out.after bS1).grown g3 (by rw [blk_own]; exact HAN.out)
      clear hHeld
      refine hK.out _ _ ?_ (fun hHeld => ?_)
      · trivial
      clear hK K
      (try simp only [Act.put, List.setIfInBounds_toArray, List.set_cons_zero, List.set_cons_succ])
      refine wpAnyH_take (i := 15) (oi := ⟨some 24, _, _, _, _, _⟩) (v := ?_) rfl (by kernel_rfl) (by kernel_rfl) (by kernel_rfl) (fun _ _ _ h => h) (Or.inl ⟨by rfl, ?_⟩) hHeld ?_
      rotate_left
      · intro W hSW; have hSW0 := hSW; go_simp; first | done | with_reducible rfl
      (try simp only [Act.put, List.setIfInBounds_toArray, List.set_cons_zero, List.set_cons_succ])
      refine wpAnyH_take (i := 16) (oi := ⟨some 25, _, _, _, _, _⟩) (v := ?_) rfl (by kernel_rfl) (by kernel_rfl) (by kernel_rfl) (fun _ _ _ h => h) (Or.inl ⟨by rfl, ?_⟩) hHeld ?_
      rotate_left
      · intro W hSW; have hSW0 := hSW; go_simp; first | done | with_reducible rfl
      (try simp only [Act.put, List.setIfInBounds_toArray, List.set_cons_zero, List.set_cons_succ])
      refine wpAnyH_ready (rs := [17]) (by kernel_rfl) (by simp) ?_
      refine AllReadyH.cons (o := ⟨none, _, _, _, _, _⟩) rfl (fun K hK => ?_) (AllReadyH.nil)
      refine step_cell (by rfl) 56 _ _ (by rfl) gR 1 (.slice A3 (n + 1) c3) (by rfl) (by rfl) 58 _ q3 (show 1 < 2 by omega) infoDues rfl ?_
      intro x4 u4
      clear hHeld
      refine hK.out _ _ ?_ (fun hHeld => ?_)
      · trivial
      clear hK K
      (try simp only [Act.put, List.setIfInBounds_toArray, List.set_cons_zero, List.set_cons_succ])
      refine wpAnyH_done (by kernel_rfl) ?_ _
      refine NoPanic.normal ?_
      clear hHeld
      go_wp2
      refine bodyPost_end (v := .tuple #[]) (results_none rfl _ _ _) rfl ?_
      exact ⟨rfl, (FIN.out x1 x3 x4 A3 c3 bS1 g3 o3 l3 u4).2⟩
end Go.Proofs.Ytkmacepodomdmaa
