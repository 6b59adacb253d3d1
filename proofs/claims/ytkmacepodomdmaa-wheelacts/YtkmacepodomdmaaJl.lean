/-
  Layer 19 (what is due at which tick): a Wheel; New, Set, Drop, Now, Len.
-/
import Derived.Test.YtkmacepodomdmaaJk
import Derived.Test.YtkmacepodomdmaaNu
import Derived.Test.YtkmacepodomdmaaKr
import Derived.Test.YtkmacepodomdmaaMc
import Derived.Maps.OwnSet
import Derived.Deep.DeepCutAuto
import Derived.StillTailTactics
namespace Go.Proofs.Ytkmacepodomdmaa
open Go.RowKit
set_option maxRecDepth 100000
set_option linter.unusedVariables false
set_option linter.unusedSimpArgs false

theorem kNum : Maps.Keyed Try.prog 30 := Maps.int_keyed Try.underlying30
theorem zeroInt (w : World) : (zeroValue 3).run Try.prog w = .ok (.int .i64 0) w := by kernel_rfl
/-- A map of numbers to ticks. -/
def MpL (w : World) (b : Nat) (L : List (Nat × Nat)) : Prop := ∃ D : DataW Unit, MapL D L ∧ w.ownsMap Try.prog 30 (plainElem Try.prog 3) b L.length D
theorem owns_tight {H : Type} {w : World} {P : Program} {k : TypeId} {R : Value → Option (DataW H × List MemPlace)} {b n : Nat} {D : DataW H} (h : w.ownsMap P k R b n D) : w.ownsMap P k R b (Maps.size D) D := by
  obtain ⟨es, clock, hb, F, hs, rfl⟩ := h
  refine ⟨es, clock, hb, F, ?_, rfl⟩
  rw [Maps.size_eq, length_sorted]; simp
theorem MpL.of {w : World} {b n : Nat} {D : DataW Unit} {L : List (Nat × Nat)} (h : MapL D L) (ho : w.ownsMap Try.prog 30 (plainElem Try.prog 3) b n D) : MpL w b L := ⟨D, h, by
  rw [← h.size]; exact owns_tight ho⟩
theorem MpL.kept {w w' : World} {b : Nat} {L : List (Nat × Nat)} (h : MpL w b L) (hb : w'.heap[b]? = w.heap[b]?) : MpL w' b L := by
  obtain ⟨D, h1, es, clock, h2, h3⟩ := h
  exact ⟨D, h1, es, clock, hb.trans h2, h3⟩
theorem MpL.lt {w : World} {b : Nat} {L : List (Nat × Nat)} (h : MpL w b L) : b < w.heap.size := by
  obtain ⟨D, _, h⟩ := h
  exact h.lt
/-- A wheel's cells. -/
def wl (now : Nat) (m : Option Nat) : Array Value := #[.int .i64 (now : Int), .map m]
/-- A wheel, all of whose blocks are among P: its tick, what is set. -/
structure WS (w : World) (P : Nat → Prop) (gW now : Nat) (L : List (Nat × Nat)) : Prop where
  blk : ∃ m, Blk w gW 106 (wl now m) ∧ (m = none ∧ L = [] ∨ ∃ gM, m = some gM ∧ P gM ∧ gM ≠ gW ∧ MpL w gM L)
  mine : P gW
  lt : ∀ k, P k → k < w.heap.size
theorem WS.of_heap {w w' : World} {P : Nat → Prop} {gW now : Nat} {L : List (Nat × Nat)} (h : WS w P gW now L) (hb : ∀ k, P k → w'.heap[k]? = w.heap[k]?) (hs : w.heap.size ≤ w'.heap.size) : WS w' P gW now L := by
  obtain ⟨m, q, hm⟩ := h.blk
  refine ⟨⟨m, (hb gW h.mine).trans q, ?_⟩, h.mine, fun k hk => Nat.lt_of_lt_of_le (h.lt k hk) hs⟩
  rcases hm with hm | ⟨gM, e, h1, h2, h3⟩
  · exact .inl hm
  · exact .inr ⟨gM, e, h1, h2, h3.kept (hb gM h1)⟩
theorem WS.after {w w' : World} {P : Nat → Prop} {gW now : Nat} {L : List (Nat × Nat)} (h : WS w P gW now L) (hb : Below w.heap.size w w') : WS w' P gW now L := h.of_heap (fun k hk => hb.block k (h.lt k hk)) hb.size
theorem WS.kr {w w' : World} {P Q : Nat → Prop} {gW now : Nat} {L : List (Nat × Nat)} (h : WS w P gW now L) (hk : Kr w w' Q) (hd : ∀ k, P k → ¬ Q k) : WS w' P gW now L := h.of_heap (fun k hp => hk.block k (h.lt k hp) (hd k hp)) hk.size

section
variable {ops : Array Oper} {o : Oper} {a : Act} {K : Act → World → Prop} {Q : Exit → Act → World → Prop} {E : Prop}
/-- 'm[k] = v' in a region that draws. -/
theorem step_put {H : Type} {P : Program} (w : World) (hgd : o.guard = none) (m x v : Operand) (t : TypeId) (ho : o.op = Op.mapUpdate t m x v)
    (k e : TypeId) (Kd : Maps.Keyed P k) (ht : P.underlying t = some (.map k e)) (R : Value → Option (DataW H × List MemPlace)) (b n : Nat) (D : DataW H)
    (hm : a.eval m = .map (some b)) (hown : w.ownsMap P k R b n D) (hn : n < maxLen) (key val : Value) (kl : Lit) (hx : a.eval x = key) (hv : a.eval v = val) (hkey : keyOf P k key = some kl)
    (d : DataW H) (ps : List MemPlace) (hval : R val = some (d, ps))
    (h : ∀ w', w'.ownsMap P k R b (n + 1) (D.put kl d) → w.grownBy w' (some b) → K (a.put o.dst undef) w') :
    if Region.wanted o (yielded ops a.tmps) = true then Oper.wp P o a w K Q else E := by
  have hw : Region.wanted o (yielded ops a.tmps) = true := by simp [Region.wanted, hgd]
  rw [if_pos hw]
  obtain ⟨w', hrun, r1, r2⟩ := hown.update Kd ht hn hkey hval
  unfold Oper.wp
  simp [execOp, ho, hm, hx, hv, hrun, Result.andThen]
  exact h w' r1 r2
end
theorem wf16 {a : Nat} (ha : a < 65536) : (Lit.int .u16 (a : Int)).wf = true := by simp [Lit.wf, IntKind.min, IntKind.max, IntKind.bits, IntKind.signed]; omega
theorem wf64 {t : Nat} (ht : t < 1000000000) : (Lit.int .i64 (t : Int)).wf = true := WalkArith.wf_i64 (by omega)
theorem nilWheel : ∀ W, (binOp .eql 51 (.pointer none) (.pointer none)).run Try.prog W = .ok (.bool true) W := fun _ => by kernel_rfl

set_option maxHeartbeats 400000 in
theorem wNew (w : World) : Calls Try.prog 29 #[] w fun e w' => e = .returned (.pointer (some ⟨w.heap.size, 0, none⟩)) ∧ WS w' (fun k => k = w.heap.size) w.heap.size 0 [] ∧ Below w.heap.size w w' := by
  go_enter Try.func29, Try.ntmps29
  go_wp2
  go_ret
  have L1 := laid_alloc w 106 (wl 0 none)
  exact ⟨rfl, ⟨⟨none, L1.row, .inl ⟨rfl, rfl⟩⟩, rfl, fun k hk => by rw [hk]; simp⟩, L1.bel⟩

theorem grown_drew {w w' : World} {row : Option Nat} (h : w.drew.grownBy w' row) : w.grownBy w' row := ⟨h.os, h.tape, h.output, h.size, h.block⟩
set_option maxHeartbeats 1000000 in
set_option maxRecDepth 100000 in
/-- (*Wheel).Set. -/
theorem wSet (w : World) (P : Nat → Prop) (gW now a inn : Nat) (L : List (Nat × Nat)) (h : WS w P gW now L) (hin : 1 ≤ inn ∧ inn ≤ 1000) (ha : a < 65536) (hL : L.length ≤ 100000) (hn : now ≤ 1000000) :
    Calls Try.prog 24 #[.pointer (some ⟨gW, 0, none⟩), .int .u16 (a : Int), .int .i64 (inn : Int)] w fun e w' =>
      e = .returned (.int .i64 0) ∧ Kr w w' P ∧ ∃ P' : Nat → Prop, WS w' P' gW now (setL L a (now + inn)) ∧ ∀ k, P' k → P k ∨ w.heap.size ≤ k := by
  obtain ⟨m, q, hm⟩ := h.blk
  have HM := Lib.hid h.mine
  have HLT := Lib.hid h.lt
  have d1 : decide ((inn : Int) < 1) = false := by simp; omega
  have d2 : decide ((1000 : Int) < (inn : Int)) = false := by simp; omega
  have d2' : decide ((inn : Int) > 1000) = false := by simp; omega
  have c0 : w.cell? ⟨gW, 0, none⟩ = some (.int .i64 (now : Int)) := (q.cell 0).trans rfl
  have c1 : w.cell? ⟨gW, 1, none⟩ = some (.map m) := (q.cell 1).trans rfl
  have hgl := q.lt
  obtain ⟨at_, hat⟩ : ∃ at_, at_ = now + inn := ⟨_, rfl⟩
  have eat : (now : Int) + (inn : Int) = (at_ : Int) := by omega
  have hatl : at_ < 1000000000 := by omega
  have ewr : IntKind.i64.wrap (at_ : Int) = (at_ : Int) := IntWalk.i64_in _ (by omega)
  have HAT := Lib.hid hat
  have WFK := Lib.hid (show keyOf Try.prog 30 (.int .u16 (a : Int)) = some (ky a) from Maps.keyOf_int_mk Try.underlying30 (wf16 ha))
  clear hat h
  rcases hm with ⟨rfl, rfl⟩ | ⟨gM, rfl, hPM, hne, hMp⟩
  · have hmm := @run_makeMap Try.prog
    have heq0 : ∀ W, (binOp .eql 104 (.map none) (.map none)).run Try.prog W = .ok (.bool true) W := fun _ => by kernel_rfl
    have hown0 : (w.alloc (.map #[] 0)).ownsMap Try.prog 30 (plainElem (H := Unit) Try.prog 3) w.heap.size 0 (.map []) := World.ownsMap_made _ _ _ _
    have q1 : Blk (w.alloc (.map #[] 0)) gW 106 (wl now none) := q.after ((Below.refl _ _).alloc (Nat.le_refl _) _)
    have HNE := Lib.hid (show w.heap.size ≠ gW by omega)
    go_enter Try.func24, Try.ntmps24
    go_upto_region 5 with (refine at_cell rfl 104 _ _ rfl gW 1 (.map (some w.heap.size)) rfl rfl 106 (wl now none) q1 (show 1 < 2 by omega) (show (Try.prog.info? 104).map (·.size) = some 1 by kernel_rfl) rfl ?_; intro w2 U2)
    have hownW : w2.ownsMap Try.prog 30 (plainElem (H := Unit) Try.prog 3) w.heap.size 0 (.map []) := hown0.kept U2.grown (fun e => HNE.out (by injection e))
    have hownd : w2.drew.ownsMap Try.prog 30 (plainElem (H := Unit) Try.prog 3) w.heap.size 0 (.map []) := hownW
    have k0 : w2.cell? ⟨gW, 0, none⟩ = some (.int .i64 (now : Int)) := (U2.row.cell 0).trans rfl
    have k1 : w2.cell? ⟨gW, 1, none⟩ = some (.map (some w.heap.size)) := (U2.row.cell 1).trans rfl
    have HU2 := Lib.hid U2
    obtain ⟨gM, hgM⟩ : ∃ gM, gM = w.heap.size := ⟨_, rfl⟩
    have HGM := Lib.hid hgM
    rw [← hgM] at hownd k1 ⊢
    clear hownW U2 q1 hown0 hmm c0 c1 q hgM
    go_still_tail 11, (by kernel_rfl)
    change wpList _ _ _ _ _ w2.drew
    go_wp2_with (at_mapUpdate; refine wpList_mapUpdate_own _ rfl _ _ _ 104 rfl 30 3 kNum Try.underlying104 _ gM _ _ rfl hownd (by unfold maxLen; omega) _ _ _ rfl rfl WFK.out (tk at_) [] (by first | exact plainElem_int Try.underlying3 (wf64 hatl) | (rw [ewr]; exact plainElem_int Try.underlying3 (wf64 hatl))) ?_; intro w5 hown5 hgrow5)
    all_goals
      go_ret
      replace hgrow5 := grown_drew hgrow5
      have hs2 : w.heap.size + 1 ≤ w5.heap.size := Nat.le_trans (by rw [HU2.out.size]; simp) hgrow5.size
      have hne2 : gM ≠ gW := by rw [HGM.out]; exact HNE.out
      refine ⟨rfl, ⟨hgrow5.os.trans HU2.out.os, hgrow5.tape.trans HU2.out.tape, hgrow5.output.trans HU2.out.output, by omega, fun k hk hp => ?_⟩, (fun k => P k ∨ k = gM), ⟨⟨some gM, (by have := HU2.out.row.grown hgrow5 (fun e => hne2 (by injection e)); rw [← HGM.out] at this; exact this), .inr ⟨gM, rfl, .inr rfl, hne2, ?_⟩⟩, .inl HM.out, fun k hk => ?_⟩, fun k hk => ?_⟩
      · have hkW : k ≠ gW := fun e => hp (by rw [e]; exact HM.out)
        rw [hgrow5.block k (by rw [HU2.out.size]; simp; omega) (fun e => by injection e with e; rw [HGM.out] at e; omega), HU2.out.oth k hkW]
        exact Below.heap_alloc _ _ _ hk
      · rw [← HAT.out]
        exact MpL.of (MapL.start.put at_ ha) hown5
      · rcases hk with hk | hk
        · have := HLT.out k hk; omega
        · rw [hk, HGM.out]; omega
      · rcases hk with hk | hk
        · exact .inl hk
        · exact .inr (by rw [hk, HGM.out]; exact Nat.le_refl _)
  · obtain ⟨D, hD, hown⟩ := hMp
    have HD := Lib.hid hD
    have HNE := Lib.hid hne
    have HPM := Lib.hid hPM
    have HQ := Lib.hid q
    have hownd : w.drew.ownsMap Try.prog 30 (plainElem Try.prog 3) gM L.length D := hown
    clear hD hne hPM q
    have heq : ∀ W, (binOp .eql 104 (.map (some gM)) (.map none)).run Try.prog W = .ok (.bool false) W := fun _ => by kernel_rfl
    go_enter Try.func24, Try.ntmps24
    go_upto_region 5 with fail
    go_still_tail 11, (by kernel_rfl)
    change wpList _ _ _ _ _ w.drew
    go_wp2_with (at_mapUpdate; refine wpList_mapUpdate_own _ rfl _ _ _ 104 rfl 30 3 kNum Try.underlying104 _ gM _ D rfl hownd (by unfold maxLen; omega) _ _ _ rfl rfl WFK.out (tk at_) [] (by first | exact plainElem_int Try.underlying3 (wf64 hatl) | (rw [ewr]; exact plainElem_int Try.underlying3 (wf64 hatl))) ?_; intro w5 hown5 hgrow5)
    all_goals
      go_ret
      replace hgrow5 := grown_drew hgrow5
      refine ⟨rfl, ⟨hgrow5.os, hgrow5.tape, hgrow5.output, hgrow5.size, fun k hk hp => hgrow5.block k hk (fun e => hp (by injection e with e; rw [e]; exact HPM.out))⟩, P, ⟨⟨some gM, HQ.out.grown hgrow5 (fun e => HNE.out (by injection e)), .inr ⟨gM, rfl, HPM.out, HNE.out, ?_⟩⟩, HM.out, fun k hk => Nat.lt_of_lt_of_le (HLT.out k hk) hgrow5.size⟩, fun k hk => .inl hk⟩
      rw [← HAT.out]
      exact MpL.of (HD.out.put at_ ha) hown5
end Go.Proofs.Ytkmacepodomdmaa
