/-
  The walk of CombineOrder.
-/
import Derived.Test.YtknfpdlomgllhaaDoorUe
import Derived.Test.YtknfpdlomgllhaaDoorOw
import Derived.Test.YtknfpdlomgllhaaDoorSx
import Derived.Test.YtknfpdlomgllhaaDoorMo
import Derived.Test.YtknfpdlomgllhaaDoorMq
import Derived.Deep.DeepCutAuto
namespace Go.Proofs.YtknfpdlomgllhaaDoor
open Go.RowKit
set_option maxRecDepth 100000
set_option linter.unusedVariables false
set_option linter.unusedSimpArgs false

/-- A slice's length. -/
def lenOf : Value → Nat
  | .slice _ n _ => n
  | _ => 0
/-- An index into a row of what came. -/
theorem idxCameO (b off n c i : Nat) (hi : i < n) (W : World) : (Instr.indexAt 33 (.slice (some ⟨b, off, none⟩) n c) (.int .i64 (i : Int))).run Tryd.prog W = .ok (.pointer (some ⟨b, off + 4 * i, none⟩)) W :=
  run_idxR (P := Tryd.prog) (sz := 4) Tryd.underlying33 (by kernel_rfl) b off n c i hi .i64 W
theorem zeroCame : (Tryd.prog.info? 48).bind (fun i => i.zero.map (fun z => z.cells)) = some #[.bool false, .int .i64 0, .slice none 0 0, .slice none 0 0] := by kernel_rfl
theorem part3i (cs : Array Value) (off : Nat) (v : Value) (h : cs[off]? = some v) (w : World) : (part 3 cs off).run Tryd.prog w = .ok v w := by
  simp [part, isAgg, run_underlying Tryd.underlying3, h]
theorem size3i (w : World) : (sizeOf 3).run Tryd.prog w = .ok 1 w := by
  obtain ⟨i0, hi0, hz0, hz1, hz2⟩ := info_parts info3
  simp [sizeOf, typeInfo, hi0, hz1]
theorem eqI4 (a b c e : Int) (w : World) : (binOp .eql 22 (.agg #[.int .i64 a, .int .i64 b, .int .i64 c, .int .i64 e]) (.agg #[.int .i64 a, .int .i64 b, .int .i64 c, .int .i64 e])).run Tryd.prog w = .ok (.bool true) w := by
  rw [run_eql_struct, show (10000 : Nat) = 9999 + 1 from rfl, Op.equalIn]
  simp [run_underlying Tryd.underlying22, size3i, Std.Legacy.Range.forIn_eq_forIn_range', List.range', part3i, run_equalIn_int]
theorem eqCl (row : List (Nat × List Nat)) (w : World) : (binOp .eql 22 (.agg (W4 (nw (cl row)))) (.agg (W4 (nw (cl row))))).run Tryd.prog w = .ok (.bool true) w := eqI4 _ _ _ _ w
theorem guard4 : Tryd.prog.eqGuardType Tryd.prog.depth 22 = false := by kernel_rfl
section
variable {P : Program} {ops : Array Oper} {rest : List Oper} {o : Oper} {a : Act} {w : World} {Q : Exit → Act → World → Prop}
/-- '==' or '!=' of arrays. -/
theorem at_eqA (hw : Region.wanted o (yielded ops a.tmps) = true) (op : BinOp) (t : TypeId) (x y : Operand) (t2 : TypeId) (ho : o.op = .binOp op t x y t2) (xs ys : Array Value) (hx : a.eval x = .agg xs) (hy : a.eval y = .agg ys)
    (hm : P.eqGuardType P.depth t = false) (r : Value) (h : ∀ W, (binOp op t (.agg xs) (.agg ys)).run P W = .ok r W)
    (k : wpList P ops Q rest (a.put o.dst r) w) : wpList P ops Q (o :: rest) a w := by
  refine wpList_step fun K hK => ?_
  rw [if_pos hw]
  unfold Oper.wp execOp
  simp only [ho, hx, hy, Sem.run_bind, run_eqGuard_agg w op t x y xs ys hm, h, Result.andThen_ok, Sem.run_pure]
  exact hK _ _ k
end
theorem Rd.from64y {w : World} {B : Nat} {b off n : Nat} {zs : List Int} (h : Rd w B (some ⟨b, off, none⟩) n (I64 zs)) (m : Nat) (hm : m ≤ n) (hn : 0 < n) : Rd w B (some ⟨b, off + m, none⟩) (n - m) (I64 (zs.drop m)) := by
  obtain ⟨b', off', e, hlt, hc⟩ := h.at_ hn
  injection e with e
  injection e with e1 e2
  subst e1 e2
  refine ⟨by rw [I64_length, List.length_drop, ← h.len64], fun _ => ⟨b, off + m, rfl, hlt, fun i u hu => ?_⟩⟩
  rw [Nat.add_assoc]
  refine hc (m + i) u ?_
  rw [← hu]
  simp [I64]
theorem Own.same {w w' : World} {base : Nat} {e : TypeId} {A : Option Addr} {n c : Nat} {xs : List Value} (h : Own w base e A n c xs) (hb : ∀ k, blk A = some k → w'.heap[k]? = w.heap[k]?) : Own w' base e A n c xs := by
  refine ⟨h.row.1, ?_⟩
  rcases h.row.2 with h1 | ⟨g, cap, cur, hv, hbg, hg, rest⟩
  · exact .inl h1
  · refine .inr ⟨g, cap, cur, hv, hbg, ?_, rest⟩
    injection hv with h1 _ _
    exact (hb g (by rw [h1]; rfl)).trans hg
theorem BufS.same {w w' : World} {gB n : Nat} {row : List (Nat × List Nat)} {S : Value} (h : BufS w gB n row S) (h1 : w'.heap[gB]? = w.heap[gB]?) (h2 : ∀ k, S.ownBlock = some k → w'.heap[k]? = w.heap[k]?) : BufS w' gB n row S :=
  ⟨h1.trans h.blk, by
    rcases h.sums with h3 | ⟨gs, h3, h4, h5⟩
    · exact .inl h3
    · exact .inr ⟨gs, h3, h4, (h2 gs (by rw [h3]; rfl)).trans h5⟩⟩

/-- Two buffers, and a row of the call's own, apart from each other. -/
structure Two (w : World) (gA gB k B0 : Nat) (rowA rowB : List (Nat × List Nat)) (SA SB : Value) (A : Option Addr) (m c : Nat) (L : List Int) (w5 : World) : Prop where
  a : BufS w gA k rowA SA
  b : BufS w gB k rowB SB
  l : Own w B0 3 A m c (I64 L)
  g1 : gA < gB
  g2 : gB < B0
  ba : ∀ j, SA.ownBlock = some j → B0 ≤ j
  bb : ∀ j, SB.ownBlock = some j → B0 ≤ j
  ab : ∀ j, SA.ownBlock = some j → SB.ownBlock ≠ some j
  la : ∀ j, blk A = some j → SA.ownBlock ≠ some j
  lb : ∀ j, blk A = some j → SB.ownBlock ≠ some j
  bw : Below gA w5 w
  sz : B0 ≤ w.heap.size
section
variable {w w' w5 : World} {gA gB k B0 : Nat} {rowA rowB rowC : List (Nat × List Nat)} {SA SB S' : Value} {A A' : Option Addr} {m c m' c' : Nat} {L L' : List Int}
theorem Two.after (h : Two w gA gB k B0 rowA rowB SA SB A m c L w5) (hb : Below w.heap.size w w') : Two w' gA gB k B0 rowA rowB SA SB A m c L w5 :=
  ⟨h.a.after hb, h.b.after hb, h.l.below hb (Nat.le_refl _), h.g1, h.g2, h.ba, h.bb, h.ab, h.la, h.lb, h.bw.trans (hb.mono (by have := h.sz; have := h.g1; have := h.g2; omega)), Nat.le_trans h.sz hb.size⟩
theorem Two.addA (h : Two w gA gB k B0 rowA rowB SA SB A m c L w5) (h1 : BufS w' gA k rowC S') (hk : Kp w w' gA SA.ownBlock) (ho : S'.ownBlock = SA.ownBlock ∨ ∃ j, S'.ownBlock = some j ∧ w.heap.size ≤ j) : Two w' gA gB k B0 rowC rowB S' SB A m c L w5 := by
  have hs := h.sz
  have hg1 := h.g1
  have hg2 := h.g2
  refine ⟨h1, h.b.same (hk.block gB (by omega) (by omega) (fun e => by have := h.ba gB e; omega)) (fun j hj => hk.block j (h.b.lt j hj) (by have := h.bb j hj; omega) (fun e => h.ab j e hj)), h.l.same (fun j hj => hk.block j (h.l.blkLt j hj).2 (by have := (h.l.blkLt j hj).1; omega) (h.la j hj)), hg1, hg2, ?_, h.bb, ?_, ?_, h.lb, h.bw.trans (hk.below (Nat.le_refl _) (fun j hj => by have := h.ba j hj; omega) (by omega)), Nat.le_trans hs hk.size⟩
  · intro j hj
    rcases ho with e | ⟨i, e, hi⟩
    · exact h.ba j (by rw [← e]; exact hj)
    · rw [e] at hj; injection hj with hj; omega
  · intro j hj hb
    rcases ho with e | ⟨i, e, hi⟩
    · exact h.ab j (by rw [← e]; exact hj) hb
    · rw [e] at hj; injection hj with hj
      have := h.b.lt j hb
      omega
  · intro j hj hb
    rcases ho with e | ⟨i, e, hi⟩
    · exact h.la j hj (by rw [← e]; exact hb)
    · rw [e] at hb; injection hb with hb
      have := (h.l.blkLt j hj).2
      omega
theorem Two.addB (h : Two w gA gB k B0 rowA rowB SA SB A m c L w5) (h1 : BufS w' gB k rowC S') (hk : Kp w w' gB SB.ownBlock) (ho : S'.ownBlock = SB.ownBlock ∨ ∃ j, S'.ownBlock = some j ∧ w.heap.size ≤ j) : Two w' gA gB k B0 rowA rowC SA S' A m c L w5 := by
  have hs := h.sz
  have hg1 := h.g1
  have hg2 := h.g2
  refine ⟨h.a.same (hk.block gA (by omega) (by omega) (fun e => by have := h.bb gA e; omega)) (fun j hj => hk.block j (h.a.lt j hj) (by have := h.ba j hj; omega) (h.ab j hj)), h1, h.l.same (fun j hj => hk.block j (h.l.blkLt j hj).2 (by have := (h.l.blkLt j hj).1; omega) (h.lb j hj)), hg1, hg2, h.ba, ?_, ?_, h.la, ?_, h.bw.trans (hk.below (by omega) (fun j hj => by have := h.bb j hj; omega) (by omega)), Nat.le_trans hs hk.size⟩
  · intro j hj
    rcases ho with e | ⟨i, e, hi⟩
    · exact h.bb j (by rw [← e]; exact hj)
    · rw [e] at hj; injection hj with hj; omega
  · intro j hj hb
    rcases ho with e | ⟨i, e, hi⟩
    · exact h.ab j hj (by rw [← e]; exact hb)
    · rw [e] at hb; injection hb with hb
      have := h.a.lt j hj
      omega
  · intro j hj hb
    rcases ho with e | ⟨i, e, hi⟩
    · exact h.lb j hj (by rw [← e]; exact hb)
    · rw [e] at hb; injection hb with hb
      have := (h.l.blkLt j hj).2
      omega
/-- The row is appended to. -/
theorem Two.push (h : Two w gA gB k B0 rowA rowB SA SB A m c L w5) (h1 : Own w' B0 3 A' m' c' (I64 L')) (hg : w.grownBy w' (Value.slice A m c).ownBlock) (ho : blk A' = blk A ∨ ∃ j, blk A' = some j ∧ w.heap.size ≤ j) : Two w' gA gB k B0 rowA rowB SA SB A' m' c' L' w5 := by
  have hs := h.sz
  have hg1 := h.g1
  have hg2 := h.g2
  have hr : ∀ j, (Value.slice A m c).ownBlock = some j → blk A = some j := fun j hj => by rw [← blk_own A m c]; exact hj
  have hl : ∀ j, blk A = some j → B0 ≤ j := fun j hj => (h.l.blkLt j hj).1
  refine ⟨h.a.same (hg.block gA (by omega) (fun e => by have := hl gA (hr gA e.symm); omega)) (fun j hj => hg.block j (h.a.lt j hj) (fun e => h.la j (hr j e.symm) hj)), h.b.same (hg.block gB (by omega) (fun e => by have := hl gB (hr gB e.symm); omega)) (fun j hj => hg.block j (h.b.lt j hj) (fun e => h.lb j (hr j e.symm) hj)), h1, hg1, hg2, h.ba, h.bb, h.ab, ?_, ?_, ?_, Nat.le_trans hs hg.size⟩
  · intro j hj hb
    rcases ho with e | ⟨i, e, hi⟩
    · exact h.la j (by rw [← e]; exact hj) hb
    · rw [e] at hj; injection hj with hj
      have := h.a.lt j hb
      omega
  · intro j hj hb
    rcases ho with e | ⟨i, e, hi⟩
    · exact h.lb j (by rw [← e]; exact hj) hb
    · rw [e] at hj; injection hj with hj
      have := h.b.lt j hb
      omega
  · exact h.bw.grown hg (by omega) (fun j hj => by have := hl j (hr j hj); omega)
/-- Another row, that is new. -/
theorem Two.fresh {B : Nat} {xs : List Value} (h : Two w gA gB k B0 rowA rowB SA SB A m c L w5) (hb : Below w.heap.size w w') (h1 : Own w' B 3 A' m' c' xs) (hB : w.heap.size ≤ B) (hx : xs = I64 L') : Two w' gA gB k B0 rowA rowB SA SB A' m' c' L' w5 := by
  subst hx
  have t := h.after hb
  refine ⟨t.a, t.b, h1.down (Nat.le_trans h.sz hB), t.g1, t.g2, t.ba, t.bb, t.ab, ?_, ?_, t.bw, t.sz⟩
  · intro j hj hc
    have := h.a.lt j hc
    have := (h1.blkLt j hj).1
    omega
  · intro j hj hc
    have := h.b.lt j hc
    have := (h1.blkLt j hj).1
    omega
end
/-- Which version an element tells, and its bits. -/
def vj (e : CE) : Nat := (e.v % 18446744073709551616).toNat % 4
def rF (ls : List Nat) (es : Nat → CE) (j : Nat) : Nat × List Nat := (vj (es j), ptU ls (vj (es j)) (es j))
theorem range_map_succ {α : Type} (f : Nat → α) (i : Nat) : (List.range (i + 1)).map f = (List.range i).map f ++ [f i] := by rw [List.range_succ, List.map_append]; rfl
theorem getD_cast (L : List Nat) (q : Nat) (h : q < L.length) : (L.map fun (j : Nat) => (j : Int)).getD q 0 = ((L.getD q 0 : Nat) : Int) := by simp [List.getD, h]
theorem getD_mem (L : List Nat) (q : Nat) (h : q < L.length) : L.getD q 0 ∈ L := by simp [List.getD, h]

set_option maxHeartbeats 8000000 in
set_option maxRecDepth 100000 in
/-- CombineOrder. -/
theorem walkCombineOrder (A : Option Addr) (n c : Nat) (xs : List Nat) (A1 : Option Addr) (n1 c1 : Nat) (es : Nat → CE) (A2 : Option Addr) (n2 c2 : Nat) (zs : List Int) (w : World) (h1 : Rd w w.heap.size A n (U8 xs)) (b1 : ∀ b ∈ xs, b < 256) (hn2 : n ≤ 9223372036854775807) (hR : CRow w w.heap.size A1 n1 es) (hn1 : n1 ≤ 9223372036854775807) (hz : Rd w w.heap.size A2 n2 (I64 zs)) (hn3 : n2 ≤ 9223372036854775807) (hT : Taps w) :
    Calls Tryd.prog 5 #[.slice A n c, .slice A1 n1 c1, .slice A2 n2 c2] w fun e w' => e = .returned (.bool true) ∧ Below w.heap.size w w' := by
  have CF : Hid (Calls Tryd.prog 9 #[.slice A n c, .int .i64 30] w (Made w (Bm.few xs 30))) := fewC A n c 30 xs w h1 b1 (by omega) hn2
  have hlen := Bm.few_length xs 30
  have hbits := Bm.few_bit xs 30
  generalize Bm.few xs 30 = ls at *
  have HL := Lib.hid hbits
  have CCo := Lib.hid combinesC
  have hpos := hT.pos
  clear h1 b1 hbits
  go_enter Tryd.func5, Tryd.ntmps5
  go_upto_region 2 with (go_at_call 9; refine CF.out.mono ?_; rintro e w5 ⟨A5, k, c5, rfl, own, bel⟩)
  have rl := own.rd
  have HN := Lib.hid rl.len8
  have hk : k ≤ 30 := by rw [HN.out]; omega
  have CN := Lib.hid (fun W => newC k W (by omega))
  have hT5 := hT.after bel
  clear CF hlen
  go_upto_region 3 with (go_at_call 22; refine (CN.out w5).mono ?_; rintro e w6 ⟨rfl, hA, b6, s6⟩; have S6 := Lib.hid s6; clear s6)
  go_upto_region 4 with (go_at_call 22; refine (CN.out w6).mono ?_; rintro e w7 ⟨rfl, hB, b7, s7⟩; have S7 := Lib.hid s7; clear s7)
  go_upto_region 5 with (go_at_call 17; refine (CCo.out w7 ((hT5.after b6).after b7)).mono ?_; rintro e w8 ⟨rfl, b8⟩)
  replace hA := (hA.after b7).after b8
  replace hB := hB.after b8
  have bel8 : Below w5.heap.size w5 w8 := Below.then_ (Below.then_ b6 b7) b8
  have hs8 : w6.heap.size + 1 ≤ w8.heap.size := by have := b8.size; have := S7.out; omega
  have hs6 : w5.heap.size < w6.heap.size := by have := S6.out; omega
  obtain ⟨gA, hgA⟩ : ∃ g, g = w5.heap.size := ⟨_, rfl⟩
  rw [← hgA] at hA bel8 hs6
  rw [← hgA]
  obtain ⟨gB, hgB⟩ : ∃ g, g = w6.heap.size := ⟨_, rfl⟩
  rw [← hgB] at hB hs6 hs8
  rw [← hgB]
  obtain ⟨B0, hB0⟩ : ∃ g, g = w8.heap.size := ⟨_, rfl⟩
  rw [← hB0] at hs8
  have HGA := Lib.hid hgA
  have hwA : w.heap.size ≤ gA := by rw [hgA]; exact bel.size
  have T0 : Two w8 gA gB k B0 [] [] (.slice none 0 0) (.slice none 0 0) none 0 0 [] w5 := ⟨hA, hB, Own.nil _ _ _, by omega, by omega, (fun j hj => by cases hj), (fun j hj => by cases hj), (fun j hj => by cases hj), (fun j hj => by cases hj), (fun j hj => by cases hj), bel8, Nat.le_of_eq hB0⟩
  clear b6 b7 b8 S6 S7 CN CCo hA hB bel8 hs8 hB0 hgA hgB
  go_upto_region 7 with fail
  go_wp2
  go_loopw [11, 12] (fun s x wr => ∃ i : Nat, i ≤ n1 ∧ i ≤ 12 ∧ x = .int .i64 i ∧ ∃ SA A c, s = .slice A i c ∧ Two wr gA gB k B0 ((List.range i).map (rF ls es)) [] SA (.slice none 0 0) A i c ((List.range i).map fun (j : Nat) => (j : Int)) w5) (fun _ x _ => 12 - (intOf x).toNat)
  case atStart => exact ⟨0, by omega, by omega, rfl, _, _, _, rfl, T0⟩
  case round =>
    clear T0
    obtain ⟨i, hi1, hi2, rfl, SA, A, c, rfl, T⟩ := hrel
    have hgl : B0 ≤ wr.heap.size := T.sz
    have hgA5 := HGA.out
    have hTr : Taps wr := hT5.low T.bw (by have := hT5.pos; omega)
    have rlr : Rd wr wr.heap.size A5 k (U8 ls) := by
      have h0 := rl
      rw [← HGA.out] at h0
      exact (h0.below T.bw).up (by have := T.g1; have := T.g2; omega)
    have hRr := (hR.below bel).below (T.bw.mono hwA)
    clear hgA5
    have hwr0 : w.heap.size ≤ wr.heap.size := by have := T.g1; have := T.g2; omega
    by_cases hlt : i < n1 ∧ i < 12
    · obtain ⟨hlt1, hlt2⟩ := hlt
      obtain ⟨b, off, hA1, hb, hcell⟩ := hRr.at_ (by omega)
      subst hA1
      have hok := hRr.ok i hlt1
      have ic := idxCameO b off n1 c1 i hlt1
      have kv : wr.cell? ⟨b, off + 4 * i + 1, none⟩ = some (.int .i64 (es i).v) := hcell i hlt1 1 _ rfl
      have HRA : Hid (wr.rangeAt b (off + 4 * i) (es i).cells.toList) := fun j u hu => hcell i hlt1 j u (by rw [← Array.getElem?_toList]; exact hu)
      have iE : Hid ((Tryd.prog.info? 48).map (·.size) = some (es i).cells.size) := infoCame
      have hu := wrap_u64_of (es i).v
      obtain ⟨uu, huu⟩ : ∃ uu, uu = ((es i).v % 18446744073709551616).toNat := ⟨_, rfl⟩
      rw [← huu] at hu
      have hu2 : uu < 18446744073709551616 := by omega
      obtain ⟨v, hvd⟩ : ∃ v, v = uu % 4 := ⟨_, rfl⟩
      have hv : v < 4 := by omega
      have hv2 : (uu : Int) % 4 = (v : Int) := by omega
      have HF : Hid (rF ls es i = (v, ptU ls v (es i))) := by
        have e : vj (es i) = v := by rw [hvd, huu]; rfl
        unfold Hid rF
        rw [e]
      have CP := Lib.hid (partC (es i) A5 k c5 v ls wr ⟨hok.at_.up (by omega), hok.ab, hok.raw.up (by omega), hok.r256, hok.rc, hok.rc2, hok.rnone⟩ rlr HL.out (by omega) hv)
      have HPL : Hid ((ptU ls v (es i)).length = k + 6) := by unfold Hid; rw [ptU_length, ← HN.out]
      have HPB := Lib.hid (ptU_bit ls HL.out v (es i))
      have d1 : decide ((i : Int) < (n1 : Int)) = true := by simp; omega
      have d2 : decide ((i : Int) < 12) = true := by simp; omega
      have HS1 : Hid ((List.range (i + 1)).map (rF ls es) = (List.range i).map (rF ls es) ++ [(v, ptU ls v (es i))]) := by unfold Hid; rw [range_map_succ, HF.out]
      have HS2 := Lib.hid (range_map_succ (fun (j : Nat) => (j : Int)) i)
      have HRL : Hid (((List.range i).map (rF ls es)).length = i) := by unfold Hid; simp
      clear hcell hok huu hvd
      generalize (es i).cells = E at *
      generalize (es i).v = z at *
      generalize ptU ls v (es i) = p at *
      generalize (List.range i).map (rF ls es) = row at *
      generalize ((List.range i).map fun (j : Nat) => (j : Int)) = LI at *
      obtain ⟨TT, hTT⟩ : ∃ TT, TT = k + 6 := ⟨_, rfl⟩
      have HTT := Lib.hid hTT
      have HPT : Hid (p.length = TT) := by unfold Hid; rw [HPL.out, HTT.out]
      have hT6 : 6 ≤ TT := by omega
      have hT7 : TT ≤ 36 := by omega
      clear hTT HPL
      go_upto_region 11 with fail
      go_wp2_with (refine at_load_mid rfl 48 _ rfl b (off + 4 * i) rfl E _ HRA.out Tryd.underlying48 rfl iE.out ?_)
      refine CP.out.mono ?_
      rintro e w9 ⟨A9, n9, c9, rfl, own9, b9⟩
      have hn9 : n9 = TT := by rw [own9.rd.len8, HPT.out]
      subst hn9
      obtain ⟨g9, rfl, hg9, hg9l⟩ := own9.at0 (by omega)
      have T9 := T.after b9
      have CA := Lib.hid (addC gA k v n9 c9 g9 0 row p SA w9 T9.a (by omega) (by rw [HRL.out]; omega) hv HTT.out own9.rd HPB.out (by have := T.g1; have := T.g2; omega) hg9l (fun e => by have := T.a.lt g9 e; omega))
      clear CP own9 b9 T hu2 hv2
      go_wp2_with fail
      refine CA.out.mono ?_
      rintro e w10 ⟨rfl, S', hB10, hK, hO⟩
      have T10 := T9.addA hB10 hK hO
      have hsz10 := T10.sz
      clear hO hB10 hK CA T9 hRr hTr rlr
      go_wp2_with (at_builtin; refine app64At _ rfl _ _ rfl B0 _ _ _ _ (i : Int) rfl T10.l rfl (by omega) hsz10 ?_; intro A8 c8 w11 own8 gr8 hl8)
      have T11 := T10.push own8 gr8 hl8
      clear own8 gr8 hl8 T10
      go_wp2
      go_roundw
      case rel => exact ⟨i + 1, by omega, by omega, by go_num, S', A8, c8, rfl, by rw [HS1.out, HS2.out]; exact T11⟩
      case measure => simp [intOf] <;> omega
    · obtain ⟨M, hM⟩ : ∃ M, M = i := ⟨_, rfl⟩
      have hM1 : M ≤ n1 := by omega
      have hM2 : M ≤ 12 := by omega
      have HMI := Lib.hid hM
      obtain ⟨R, hRd⟩ : ∃ R, R = (List.range M).map (rF ls es) := ⟨_, rfl⟩
      have HRd := Lib.hid hRd
      rw [← hM, ← hRd] at T
      clear hM hRd
      by_cases hi12 : i < n1
      · have d1 : decide ((i : Int) < (n1 : Int)) = true := by simp; omega
        have d2 : decide ((i : Int) < 12) = false := by simp; omega
        clear hlt
        go_upto_region 14 with fail
        go_wp2
        have HIM : Hid (Value.slice A i c = .slice A M c) := by unfold Hid; rw [HMI.out]
        rw [HIM.out]
        obtain ⟨wo, rfl⟩ : ∃ wo : World, wo = wr := ⟨_, rfl⟩
        go_loopw [11, 14] (fun s x wr => ∃ i : Nat, x = .int .i64 i ∧ ∃ (L : List Nat) (rowB : List (Nat × List Nat)) (SB SA : Value) (A : Option Addr) (m c : Nat), s = .slice A m c ∧ Hid (L.length = m) ∧ i + m = M ∧ Two wr gA gB k B0 R rowB SA SB A m c (L.map fun (j : Nat) => (j : Int)) w5 ∧ Hid ((rowB ++ L.map (rF ls es)).Perm R) ∧ Hid (∀ j ∈ L, j < M)) (fun s _ _ => lenOf s)
        case atStart => exact ⟨0, rfl, List.range M, [], _, _, _, _, _, rfl, (by unfold Hid; simp), by omega, T, (by unfold Hid; rw [HRd.out]; exact List.Perm.refl _), (fun j hj => List.mem_range.1 hj)⟩
        case round =>
          clear T rlr hRr hTr hgl hwr0
          obtain ⟨i, rfl, L, rowB, SB, SA, A, m, c, rfl, HM, him, T, HP, HJ⟩ := hrel
          have hgl : B0 ≤ wr.heap.size := T.sz
          have rlr : Rd wr wr.heap.size A5 k (U8 ls) := by
            have h0 := rl
            rw [← HGA.out] at h0
            exact (h0.below T.bw).up (by have := T.g1; have := T.g2; omega)
          by_cases hm : 0 < m
          · have hRr := (hR.below bel).below (T.bw.mono hwA)
            have hzr := (hz.below bel).below (T.bw.mono hwA)
            obtain ⟨b, off, hA1, hb, hcell⟩ := hRr.at_ (by omega)
            subst hA1
            have hm12 : m ≤ 12 := by omega
            have hwr0 : w.heap.size ≤ wr.heap.size := by have := T.g1; have := T.g2; omega
            go_upto_if 83 with fail
            go_cut [15] from 75 to 123 (fun s15 wc => ∃ q : Nat, q < m ∧ s15 = .int .i64 (q : Int) ∧ wc = wr)
            case first =>
              by_cases hi2 : i < n2
              · obtain ⟨bz, oz, hA2, _, kz⟩ := hzr.cell64 i hi2
                subst hA2
                have hu := wrap_u64_of (zs.getD i 0)
                obtain ⟨uu, huu⟩ : ∃ uu, uu = ((zs.getD i 0) % 18446744073709551616).toNat := ⟨_, rfl⟩
                rw [← huu] at hu
                have hu2 : uu < 18446744073709551616 := by omega
                have hum := wrap_u64_of (m : Int)
                have hum2 : (((m : Int) % 18446744073709551616).toNat : Int) = (m : Int) := by omega
                rw [hum2] at hum
                have hq : uu % m < m := Nat.mod_lt _ hm
                have e1 : (uu : Int) % (m : Int) = ((uu % m : Nat) : Int) := by simp
                have e2 : (uu : Int).tmod (m : Int) = ((uu % m : Nat) : Int) := by rw [Int.tmod_eq_emod_of_nonneg (by omega)]; exact e1
                obtain ⟨q, hqd⟩ : ∃ q, q = uu % m := ⟨_, rfl⟩
                rw [← hqd] at hq e1 e2
                have m0 : ((m : Int) == 0) = false := by simp; omega
                have m1 : ¬ ((m : Int) = 0) := by omega
                clear huu hum2 hqd
                generalize zs.getD i 0 = zz at *
                go_wp2_with fail
                go_meet
                case rel => exact ⟨q, hq, rfl, rfl⟩
              · go_wp2_with fail
                go_meet
                case rel => exact ⟨0, hm, rfl, rfl⟩
            case rest =>
              obtain ⟨q, hq, rfl, hwc⟩ := hcut
              subst hwc
              have hqL : q < L.length := by rw [HM.out]; exact hq
              obtain ⟨gl, ol, hAl, _, kl⟩ := T.l.rd.cell64 q hq
              rw [getD_cast L q hqL] at kl
              obtain ⟨x, hx⟩ : ∃ x, x = L.getD q 0 := ⟨_, rfl⟩
              have hxM : x < M := by rw [hx]; exact HJ.out _ (getD_mem L q hqL)
              rw [← hx] at kl
              have HXX := Lib.hid hx
              subst hAl
              have hxn : x < n1 := by omega
              have hok := hRr.ok x hxn
              have ic := idxCameO b off n1 c1 x hxn
              have HRA : Hid (wc.rangeAt b (off + 4 * x) (es x).cells.toList) := fun j u hu => hcell x hxn j u (by rw [← Array.getElem?_toList]; exact hu)
              have iE : Hid ((Tryd.prog.info? 48).map (·.size) = some (es x).cells.size) := infoCame
              have HE1 : Hid ((es x).cells[1]? = some (.int .i64 (es x).v)) := rfl
              have HEs : Hid ((#[Value.bool false, .int .i64 0, .slice none 0 0, .slice none 0 0] : Array Value).size = (es x).cells.size) := rfl
              have HEo := Lib.hid (es x).one
              have hu := wrap_u64_of (es x).v
              obtain ⟨uu, huu⟩ : ∃ uu, uu = ((es x).v % 18446744073709551616).toNat := ⟨_, rfl⟩
              rw [← huu] at hu
              have hu2 : uu < 18446744073709551616 := by omega
              obtain ⟨v, hvd⟩ : ∃ v, v = uu % 4 := ⟨_, rfl⟩
              have hv : v < 4 := by omega
              have hv2 : (uu : Int) % 4 = (v : Int) := by omega
              have HF : Hid (rF ls es x = (v, ptU ls v (es x))) := by
                have e : vj (es x) = v := by rw [hvd, huu]; rfl
                unfold Hid rF
                rw [e]
              have hstep := Cv.order_step (rF ls es) rowB L q hqL
              rw [← hx, HF.out] at hstep
              have HP2 : Hid ((rowB ++ [(v, ptU ls v (es x))] ++ (L.take q ++ L.drop (q + 1)).map (rF ls es)).Perm R) := hstep.trans HP.out
              have HJ2 : Hid (∀ j ∈ L.take q ++ L.drop (q + 1), j < M) := fun j hj => by
                rcases List.mem_append.1 hj with h | h
                · exact HJ.out j (List.mem_of_mem_take h)
                · exact HJ.out j (List.mem_of_mem_drop h)
              have HLL : Hid ((L.take q ++ L.drop (q + 1)).length = q + (m - (q + 1))) := by unfold Hid; rw [List.length_append, List.length_take, List.length_drop, HM.out]; omega
              have HLC : Hid ([] ++ I64 ((L.map fun (j : Nat) => (j : Int)).take q) ++ I64 ((L.map fun (j : Nat) => (j : Int)).drop (q + 1)) = I64 ((L.take q ++ L.drop (q + 1)).map fun (j : Nat) => (j : Int))) := by unfold Hid; rw [List.nil_append, ← I64_append, List.map_append, List.map_take, List.map_drop]
              have HRB : Hid (rowB.length ≤ 12) := by
                have := HP.out.length_eq
                unfold Hid
                rw [List.length_append, HRd.out] at this
                simp at this
                omega
              have HPL : Hid ((ptU ls v (es x)).length = k + 6) := by unfold Hid; rw [ptU_length, ← HN.out]
              have HPB := Lib.hid (ptU_bit ls HL.out v (es x))
              have CP : Hid (∀ W, Below wc.heap.size wc W → Calls Tryd.prog 24 #[.agg (es x).cells, .slice A5 k c5, .int .i64 (v : Int)] W (Made W (ptU ls v (es x)))) := fun W hW => partC (es x) A5 k c5 v ls W ⟨(hok.at_.below (hW.mono (by omega))).up (by have := hW.size; omega), hok.ab, (hok.raw.below (hW.mono (by omega))).up (by have := hW.size; omega), hok.r256, hok.rc, hok.rc2, hok.rnone⟩ ((rlr.below hW).up hW.size) HL.out (by omega) hv
              have hc0 := T.l.bounds
              unfold maxLen at hc0
              have hqc : q ≤ c := by omega
              have hqm : q + 1 ≤ m := by omega
              have hmc : m ≤ c := by omega
              obtain ⟨q1, hq1⟩ : ∃ q1, q1 = q + 1 := ⟨_, rfl⟩
              have eq1 : IntKind.i64.wrap ((q : Int) + 1) = (q1 : Int) := by rw [IntWalk.i64_in _ (by omega)]; omega
              have hq1m : q1 ≤ m := by omega
              have hq1c : q1 ≤ c := by omega
              have hqq : q < q1 := by omega
              rw [← hq1] at HP2 HJ2 HLL HLC
              have HQ1 := Lib.hid hq1
              clear hcell hok huu hvd hstep hqL hx hq1 hqm
              generalize (es x).cells = E at *
              generalize (es x).v = z at *
              generalize ptU ls v (es x) = p at *
              obtain ⟨TT, hTT⟩ : ∃ TT, TT = k + 6 := ⟨_, rfl⟩
              have HTT := Lib.hid hTT
              have HPT : Hid (p.length = TT) := by unfold Hid; rw [HPL.out, HTT.out]
              have hT6 : 6 ≤ TT := by omega
              have hT7 : TT ≤ 36 := by omega
              clear hTT HPL
              go_upto_region 21 with (first | (refine at_load_mid rfl 48 _ rfl b (off + 4 * x) rfl E _ HRA.out Tryd.underlying48 rfl iE.out ?_) | (refine at_alloc rfl 48 rfl _ zeroCame ?_; intro wq1 Lq) | (refine at_store rfl 48 _ _ rfl wc.heap.size E rfl rfl 48 _ Lq.row iE.out HEs.out HEo.out ?_; intro wq2 Uq))
              have beq : Below wc.heap.size wc wq2 := Lq.bel.trans (Uq.below (Nat.le_refl _))
              have qE := Uq.row
              have TQ := T.after beq
              have CPQ := Lib.hid (CP.out wq2 beq)
              have kE := (qE.cell 1).trans HE1.out
              have hgc : wc.heap.size < wq2.heap.size := by rw [Uq.size, Lq.size]; omega
              clear Lq Uq HRA ic kl T CP rlr hRr beq
              generalize wc.heap.size = gc at *
              go_upto_region 22 with fail
              go_wp2_with (refine at_load rfl 48 _ rfl gc rfl 48 E _ qE Tryd.underlying48 rfl iE.out ?_)
              refine CPQ.out.mono ?_
              rintro e w9 ⟨A9, n9, c9, rfl, own9, b9⟩
              have hn9 : n9 = TT := by rw [own9.rd.len8, HPT.out]
              subst hn9
              obtain ⟨g9, rfl, hg9, hg9l⟩ := own9.at0 (by omega)
              have T9 := TQ.after b9
              have CA := Lib.hid (addC gB k v n9 c9 g9 0 rowB p SB w9 T9.b (by omega) (by have := HRB.out; omega) hv HTT.out own9.rd HPB.out (by have := TQ.g2; have := TQ.sz; omega) hg9l (fun e => by have := TQ.b.lt g9 e; omega))
              clear CPQ own9 b9 TQ hu2 hv2 kE qE
              go_wp2_with fail
              refine CA.out.mono ?_
              rintro e w10 ⟨rfl, SB', hB10, hK, hO⟩
              have T10 := T9.addB hB10 hK hO
              have HR1 : Hid (∀ W, Below w10.heap.size w10 W → Rd W W.heap.size (some ⟨gl, ol, none⟩) q (I64 ((L.map fun (j : Nat) => (j : Int)).take q))) := fun W hW => ((T10.l.rd.below hW).up hW.size).cut64 q (by omega)
              have HR2 : Hid (∀ W, Below w10.heap.size w10 W → Rd W W.heap.size (some ⟨gl, ol + q1, none⟩) (m - q1) (I64 ((L.map fun (j : Nat) => (j : Int)).drop q1))) := fun W hW => ((T10.l.rd.below hW).up hW.size).from64y q1 hq1m hm
              obtain ⟨o2', hif, HR3⟩ : ∃ o2', (if c = q1 then some (⟨gl, ol, none⟩ : Addr) else some ⟨gl, ol + q1, none⟩) = some ⟨gl, o2', none⟩ ∧ Hid (∀ W, Below w10.heap.size w10 W → Rd W W.heap.size (some ⟨gl, o2', none⟩) (m - q1) (I64 ((L.map fun (j : Nat) => (j : Int)).drop q1))) := by
                by_cases hcq : c = q1
                · refine ⟨ol, if_pos hcq, fun W hW => ⟨(HR2.out W hW).len, fun h0 => absurd h0 (by omega)⟩⟩
                · exact ⟨ol + q1, if_neg hcq, HR2.out⟩
              obtain ⟨i0, hi0, hz0, hz1, hz2⟩ := info_parts info3
              clear hO hB10 hK CA T9
              go_upto_region 24 with fail
              refine wp_region_noPanic ?_
              refine wp_region_held_drew (S := fun W => Below w10.heap.size w10 W) (by kernel_rfl) ((Below.refl _ _).drew) (fun hHeld => ?_)
              refine wpAnyH_take (i := 1) (oi := ⟨some 115, _, _, _, _, _⟩) (v := ?_) rfl (by kernel_rfl) (by kernel_rfl) (by kernel_rfl) (fun _ _ _ h => h) (Or.inl ⟨by rfl, ?_⟩) hHeld ?_
              rotate_left
              · intro W hSW; have hSW0 := hSW; go_simp; first | done | with_reducible rfl
              (try simp only [Act.put, List.setIfInBounds_toArray, List.set_cons_zero, List.set_cons_succ])
              refine wpAnyH_take (i := 2) (oi := ⟨some 116, _, _, _, _, _⟩) (v := ?_) rfl (by kernel_rfl) (by kernel_rfl) (by kernel_rfl) (fun _ _ _ h => h) (Or.inl ⟨by rfl, ?_⟩) hHeld ?_
              rotate_left
              · intro W hSW; have hSW0 := hSW; go_simp; first | done | with_reducible rfl
              (try simp only [Act.put, List.setIfInBounds_toArray, List.set_cons_zero, List.set_cons_succ])
              refine wpAnyH_take (i := 3) (oi := ⟨some 117, _, _, _, _, _⟩) (v := ?_) rfl (by kernel_rfl) (by kernel_rfl) (by kernel_rfl) (fun _ _ _ h => h) (Or.inl ⟨by rfl, ?_⟩) hHeld ?_
              rotate_left
              · intro W hSW; have hSW0 := hSW; go_simp; first | done | with_reducible rfl
              (try simp only [Act.put, List.setIfInBounds_toArray, List.set_cons_zero, List.set_cons_succ])
              refine wpAnyH_take (i := 5) (oi := ⟨some 119, _, _, _, _, _⟩) (v := ?_) rfl (by kernel_rfl) (by kernel_rfl) (by kernel_rfl) (fun _ _ _ h => h) (Or.inl ⟨by rfl, ?_⟩) hHeld ?_
              rotate_left
              · intro W hSW; have hSW0 := hSW; go_simp; first | done | with_reducible rfl
              (try simp only [Act.put, List.setIfInBounds_toArray, List.set_cons_zero, List.set_cons_succ])
              refine wpAnyH_take (i := 6) (oi := ⟨some 120, _, _, _, _, _⟩) (v := ?_) rfl (by kernel_rfl) (by kernel_rfl) (by kernel_rfl) (fun _ _ _ h => h) (Or.inl ⟨by rfl, ?_⟩) hHeld ?_
              rotate_left
              · intro W hSW; have hSW0 := hSW; go_simp; first | done | with_reducible rfl
              (try simp only [Act.put, List.setIfInBounds_toArray, List.set_cons_zero, List.set_cons_succ])
              refine wpAnyH_take (i := 7) (oi := ⟨some 121, _, _, _, _, _⟩) (v := ?_) rfl (by kernel_rfl) (by kernel_rfl) (by kernel_rfl) (fun _ _ _ h => h) (Or.inl ⟨by rfl, ?_⟩) hHeld ?_
              rotate_left
              · intro W hSW; have hSW0 := hSW; go_simp; first | done | with_reducible rfl
              (try simp only [Act.put, List.setIfInBounds_toArray, List.set_cons_zero, List.set_cons_succ])
              refine wpAnyH_take (i := 8) (oi := ⟨some 122, _, _, _, _, _⟩) (v := ?_) rfl (by kernel_rfl) (by kernel_rfl) (by kernel_rfl) (fun _ _ _ h => h) (Or.inl ⟨by rfl, ?_⟩) hHeld ?_
              rotate_left
              · intro W hSW; have hSW0 := hSW; go_simp; first | done | with_reducible rfl
              (try simp only [Act.put, List.setIfInBounds_toArray, List.set_cons_zero, List.set_cons_succ])
              refine wpAnyH_ready (rs := [0]) (by kernel_rfl) (by simp) ?_
              refine AllReadyH.cons (o := ⟨some 114, _, _, _, _, _⟩) rfl (fun K hK => ?_) (AllReadyH.nil)
              refine step_none (by rfl) 39 3 (by rfl) i0 Tryd.underlying39 hi0 ?_
              intro x1 o1 b1 s1
              have bS := Below.then_ hHeld b1
              clear hHeld
              refine hK.out _ _ ?_ (fun hHeld => ?_)
              · exact bS
              clear hK K
              (try simp only [Act.put, List.setIfInBounds_toArray, List.set_cons_zero, List.set_cons_succ])
              refine wpAnyH_ready (rs := [4]) (by kernel_rfl) (by simp) ?_
              refine AllReadyH.cons (o := ⟨some 118, _, _, _, _, _⟩) rfl (fun K hK => ?_) (AllReadyH.nil)
              refine step_app (by rfl) _ _ 39 (by rfl) w10.drew.heap.size 3 i0 _ 8 Tryd.underlying39 hi0 hz0 hz1 hz2 rfl _ 0 0 [] (by rfl) o1 x1.heap.size _ q _ (I64 ((L.map fun (j : Nat) => (j : Int)).take q)) (by rfl) (HR1.out x1 bS) (fun h => by cases h) (I64_one _) (by omega) (by unfold maxLen; omega) (by have := b1.size; omega) ?_
              intro A2' c2' x2 o2 g2 l2
              have b2 : Below w10.drew.heap.size w10.drew x2 := b1.grown g2 b1.size (fun j hj => (o1.block j hj).1)
              have bS2 : Below w10.heap.size w10 x2 := (Below.refl _ _).drew.trans b2
              have s2 := g2.size
              clear hHeld
              refine hK.out _ _ ?_ (fun hHeld => ?_)
              · exact bS2
              clear hK K
              (try simp only [Act.put, List.setIfInBounds_toArray, List.set_cons_zero, List.set_cons_succ])
              refine wpAnyH_ready (rs := [9]) (by kernel_rfl) (by simp) ?_
              refine AllReadyH.cons (o := ⟨some 123, _, _, _, _, _⟩) rfl (fun K hK => ?_) (AllReadyH.nil)
              refine step_app (by rfl) _ _ 39 (by rfl) w10.drew.heap.size 3 i0 _ 8 Tryd.underlying39 hi0 hz0 hz1 hz2 rfl A2' (0 + q) c2' _ (by rfl) o2 x2.heap.size _ (m - q1) _ (I64 ((L.map fun (j : Nat) => (j : Int)).drop q1)) (by rfl) (HR3.out x2 bS2) (fun h => by cases h) (I64_one _) (by omega) (by unfold maxLen; omega) (by have := b2.size; omega) ?_
              intro A3' c3' x3 o3 g3 l3
              have b3 : Below w10.drew.heap.size w10.drew x3 := b2.grown g3 b2.size (fun j hj => (o2.block j hj).1)
              have bS3 : Below w10.heap.size w10 x3 := (Below.refl _ _).drew.trans b3
              clear hHeld
              refine hK.out _ _ ?_ (fun hHeld => ?_)
              · exact bS3
              clear hK K
              (try simp only [Act.put, List.setIfInBounds_toArray, List.set_cons_zero, List.set_cons_succ])
              refine wpAnyH_take (i := 10) (oi := ⟨some 11, _, _, _, _, _⟩) (v := ?_) rfl (by kernel_rfl) (by kernel_rfl) (by kernel_rfl) (fun _ _ _ h => h) (Or.inl ⟨by rfl, ?_⟩) hHeld ?_
              rotate_left
              · intro W hSW; have hSW0 := hSW; go_simp; first | done | with_reducible rfl
              (try simp only [Act.put, List.setIfInBounds_toArray, List.set_cons_zero, List.set_cons_succ])
              refine wpAnyH_done (by kernel_rfl) ?_ _
              refine NoPanic.normal ?_
              clear hHeld
              go_wp2_with fail
              go_roundw
              case rel => exact ⟨i + 1, by go_num, L.take q ++ L.drop q1, rowB ++ [(v, p)], SB', SA, A3', q + (m - q1), c3', rfl, HLL.out, by have := HQ1.out; omega, T10.fresh bS3 (o3.to (by omega) rfl) (Nat.le_refl _) HLC.out, HP2.out, HJ2.out⟩
              case measure => simp [lenOf] <;> omega
          · have HL0 : Hid (L = []) := List.eq_nil_of_length_eq_zero (by rw [HM.out]; omega)
            have hPR : rowB.Perm R := by
              have := HP.out
              rw [HL0.out] at this
              simpa using this
            obtain ⟨N4, hN4⟩ : ∃ N4, N4 = 4 * (k + 6) := ⟨_, rfl⟩
            have hN4b : N4 ≤ 200 := by omega
            have hsl : (Cv.softs (k + 6) R).length = N4 := by rw [Cv.softs_length, hN4]
            have CS1 := Lib.hid (softC gA k N4 (Cv.cv R) (Cv.softs (k + 6) R) SA wr T.a.blk T.a.sums (by omega) hN4 hsl)
            have CS2 : Hid (∀ W, Below wr.heap.size wr W → Calls Tryd.prog 19 #[.pointer (some ⟨gB, 0, none⟩)] W (SoftOk W N4 (Cv.softs (k + 6) R))) := fun W hW => by
              have t := T.b.after hW
              have h2 := t.sums
              rw [Cv.softs_perm (k + 6) hPR] at h2
              exact softC gB k N4 (Cv.cv rowB) (Cv.softs (k + 6) R) SB W t.blk h2 (by omega) hN4 hsl
            have hcl : cl rowB = cl R := by unfold cl; rw [Cv.cv_perm hPR 0, Cv.cv_perm hPR 1, Cv.cv_perm hPR 2, Cv.cv_perm hPR 3]
            have CC1 : Hid (∀ W, Below wr.heap.size wr W → Calls Tryd.prog 20 #[.pointer (some ⟨gA, 0, none⟩)] W fun e w' => e = .returned (.agg (W4 (nw (cl R)))) ∧ Below W.heap.size W w') := fun W hW => countsC gA k R SA W (T.a.after hW).blk
            have CC2 : Hid (∀ W, Below wr.heap.size wr W → Calls Tryd.prog 20 #[.pointer (some ⟨gB, 0, none⟩)] W fun e w' => e = .returned (.agg (W4 (nw (cl R)))) ∧ Below W.heap.size W w') := fun W hW => by
              have := countsC gB k rowB SB W (T.b.after hW).blk
              rw [hcl] at this
              exact this
            have HEQ := Lib.hid (eqCl R)
            have hlN := Lib.hid hsl
            have HFIN : Hid (Below w.heap.size w wr) := bel.trans ((T.bw).mono hwA)
            have hwr : w.heap.size ≤ wr.heap.size := HFIN.out.size
            clear hN4 hsl hPR hcl T HM HL0 HP HJ him rlr
            generalize Cv.softs (k + 6) R = SL at *
            generalize W4 (nw (cl R)) = ZZ at *
            have hm0 : m = 0 := by omega
            have dm : decide ((0 : Int) < (m : Int)) = false := by simp; omega
            go_wp2_with fail
            refine CS1.out.mono ?_
            rintro e wa ⟨rfl, qa, ba⟩
            go_wp2_with fail
            refine (CS2.out wa ba).mono ?_
            rintro e wb ⟨rfl, qb, bb⟩
            have bab := Below.then_ ba bb
            have CSm := Lib.hid (sameC (some ⟨wr.heap.size, 0, none⟩) (some ⟨wa.heap.size, 0, none⟩) N4 N4 N4 N4 SL wb (W4_rd (qa.after bb) hlN.out) (W4_rd qb hlN.out) (by omega))
            go_wp2_with fail
            refine CSm.out.mono ?_
            rintro e wd ⟨rfl, bd⟩
            have bwd := Below.then_ bab bd
            go_wp2_with fail
            refine (CC1.out wd bwd).mono ?_
            rintro e we ⟨rfl, be⟩
            have bwe := Below.then_ bwd be
            go_wp2_with fail
            refine (CC2.out we bwe).mono ?_
            rintro e wf ⟨rfl, bf⟩
            have bwf := Below.then_ bwe bf
            go_wp2_with (refine at_eqA rfl .eql 22 _ _ _ rfl ZZ ZZ rfl rfl guard4 (.bool true) HEQ.out ?_)
            go_ret
            exact ⟨rfl, HFIN.out.trans (bwf.mono hwr)⟩
      · have d1 : decide ((i : Int) < (n1 : Int)) = false := by simp; omega
        clear hlt
        go_upto_region 14 with fail
        go_wp2
        have HIM : Hid (Value.slice A i c = .slice A M c) := by unfold Hid; rw [HMI.out]
        rw [HIM.out]
        obtain ⟨wo, rfl⟩ : ∃ wo : World, wo = wr := ⟨_, rfl⟩
        go_loopw [11, 14] (fun s x wr => ∃ i : Nat, x = .int .i64 i ∧ ∃ (L : List Nat) (rowB : List (Nat × List Nat)) (SB SA : Value) (A : Option Addr) (m c : Nat), s = .slice A m c ∧ Hid (L.length = m) ∧ i + m = M ∧ Two wr gA gB k B0 R rowB SA SB A m c (L.map fun (j : Nat) => (j : Int)) w5 ∧ Hid ((rowB ++ L.map (rF ls es)).Perm R) ∧ Hid (∀ j ∈ L, j < M)) (fun s _ _ => lenOf s)
        case atStart => exact ⟨0, rfl, List.range M, [], _, _, _, _, _, rfl, (by unfold Hid; simp), by omega, T, (by unfold Hid; rw [HRd.out]; exact List.Perm.refl _), (fun j hj => List.mem_range.1 hj)⟩
        case round =>
          clear T rlr hRr hTr hgl hwr0
          obtain ⟨i, rfl, L, rowB, SB, SA, A, m, c, rfl, HM, him, T, HP, HJ⟩ := hrel
          have hgl : B0 ≤ wr.heap.size := T.sz
          have rlr : Rd wr wr.heap.size A5 k (U8 ls) := by
            have h0 := rl
            rw [← HGA.out] at h0
            exact (h0.below T.bw).up (by have := T.g1; have := T.g2; omega)
          by_cases hm : 0 < m
          · have hRr := (hR.below bel).below (T.bw.mono hwA)
            have hzr := (hz.below bel).below (T.bw.mono hwA)
            obtain ⟨b, off, hA1, hb, hcell⟩ := hRr.at_ (by omega)
            subst hA1
            have hm12 : m ≤ 12 := by omega
            have hwr0 : w.heap.size ≤ wr.heap.size := by have := T.g1; have := T.g2; omega
            go_upto_if 83 with fail
            go_cut [15] from 75 to 123 (fun s15 wc => ∃ q : Nat, q < m ∧ s15 = .int .i64 (q : Int) ∧ wc = wr)
            case first =>
              by_cases hi2 : i < n2
              · obtain ⟨bz, oz, hA2, _, kz⟩ := hzr.cell64 i hi2
                subst hA2
                have hu := wrap_u64_of (zs.getD i 0)
                obtain ⟨uu, huu⟩ : ∃ uu, uu = ((zs.getD i 0) % 18446744073709551616).toNat := ⟨_, rfl⟩
                rw [← huu] at hu
                have hu2 : uu < 18446744073709551616 := by omega
                have hum := wrap_u64_of (m : Int)
                have hum2 : (((m : Int) % 18446744073709551616).toNat : Int) = (m : Int) := by omega
                rw [hum2] at hum
                have hq : uu % m < m := Nat.mod_lt _ hm
                have e1 : (uu : Int) % (m : Int) = ((uu % m : Nat) : Int) := by simp
                have e2 : (uu : Int).tmod (m : Int) = ((uu % m : Nat) : Int) := by rw [Int.tmod_eq_emod_of_nonneg (by omega)]; exact e1
                obtain ⟨q, hqd⟩ : ∃ q, q = uu % m := ⟨_, rfl⟩
                rw [← hqd] at hq e1 e2
                have m0 : ((m : Int) == 0) = false := by simp; omega
                have m1 : ¬ ((m : Int) = 0) := by omega
                clear huu hum2 hqd
                generalize zs.getD i 0 = zz at *
                go_wp2_with fail
                go_meet
                case rel => exact ⟨q, hq, rfl, rfl⟩
              · go_wp2_with fail
                go_meet
                case rel => exact ⟨0, hm, rfl, rfl⟩
            case rest =>
              obtain ⟨q, hq, rfl, hwc⟩ := hcut
              subst hwc
              have hqL : q < L.length := by rw [HM.out]; exact hq
              obtain ⟨gl, ol, hAl, _, kl⟩ := T.l.rd.cell64 q hq
              rw [getD_cast L q hqL] at kl
              obtain ⟨x, hx⟩ : ∃ x, x = L.getD q 0 := ⟨_, rfl⟩
              have hxM : x < M := by rw [hx]; exact HJ.out _ (getD_mem L q hqL)
              rw [← hx] at kl
              have HXX := Lib.hid hx
              subst hAl
              have hxn : x < n1 := by omega
              have hok := hRr.ok x hxn
              have ic := idxCameO b off n1 c1 x hxn
              have HRA : Hid (wc.rangeAt b (off + 4 * x) (es x).cells.toList) := fun j u hu => hcell x hxn j u (by rw [← Array.getElem?_toList]; exact hu)
              have iE : Hid ((Tryd.prog.info? 48).map (·.size) = some (es x).cells.size) := infoCame
              have HE1 : Hid ((es x).cells[1]? = some (.int .i64 (es x).v)) := rfl
              have HEs : Hid ((#[Value.bool false, .int .i64 0, .slice none 0 0, .slice none 0 0] : Array Value).size = (es x).cells.size) := rfl
              have HEo := Lib.hid (es x).one
              have hu := wrap_u64_of (es x).v
              obtain ⟨uu, huu⟩ : ∃ uu, uu = ((es x).v % 18446744073709551616).toNat := ⟨_, rfl⟩
              rw [← huu] at hu
              have hu2 : uu < 18446744073709551616 := by omega
              obtain ⟨v, hvd⟩ : ∃ v, v = uu % 4 := ⟨_, rfl⟩
              have hv : v < 4 := by omega
              have hv2 : (uu : Int) % 4 = (v : Int) := by omega
              have HF : Hid (rF ls es x = (v, ptU ls v (es x))) := by
                have e : vj (es x) = v := by rw [hvd, huu]; rfl
                unfold Hid rF
                rw [e]
              have hstep := Cv.order_step (rF ls es) rowB L q hqL
              rw [← hx, HF.out] at hstep
              have HP2 : Hid ((rowB ++ [(v, ptU ls v (es x))] ++ (L.take q ++ L.drop (q + 1)).map (rF ls es)).Perm R) := hstep.trans HP.out
              have HJ2 : Hid (∀ j ∈ L.take q ++ L.drop (q + 1), j < M) := fun j hj => by
                rcases List.mem_append.1 hj with h | h
                · exact HJ.out j (List.mem_of_mem_take h)
                · exact HJ.out j (List.mem_of_mem_drop h)
              have HLL : Hid ((L.take q ++ L.drop (q + 1)).length = q + (m - (q + 1))) := by unfold Hid; rw [List.length_append, List.length_take, List.length_drop, HM.out]; omega
              have HLC : Hid ([] ++ I64 ((L.map fun (j : Nat) => (j : Int)).take q) ++ I64 ((L.map fun (j : Nat) => (j : Int)).drop (q + 1)) = I64 ((L.take q ++ L.drop (q + 1)).map fun (j : Nat) => (j : Int))) := by unfold Hid; rw [List.nil_append, ← I64_append, List.map_append, List.map_take, List.map_drop]
              have HRB : Hid (rowB.length ≤ 12) := by
                have := HP.out.length_eq
                unfold Hid
                rw [List.length_append, HRd.out] at this
                simp at this
                omega
              have HPL : Hid ((ptU ls v (es x)).length = k + 6) := by unfold Hid; rw [ptU_length, ← HN.out]
              have HPB := Lib.hid (ptU_bit ls HL.out v (es x))
              have CP : Hid (∀ W, Below wc.heap.size wc W → Calls Tryd.prog 24 #[.agg (es x).cells, .slice A5 k c5, .int .i64 (v : Int)] W (Made W (ptU ls v (es x)))) := fun W hW => partC (es x) A5 k c5 v ls W ⟨(hok.at_.below (hW.mono (by omega))).up (by have := hW.size; omega), hok.ab, (hok.raw.below (hW.mono (by omega))).up (by have := hW.size; omega), hok.r256, hok.rc, hok.rc2, hok.rnone⟩ ((rlr.below hW).up hW.size) HL.out (by omega) hv
              have hc0 := T.l.bounds
              unfold maxLen at hc0
              have hqc : q ≤ c := by omega
              have hqm : q + 1 ≤ m := by omega
              have hmc : m ≤ c := by omega
              obtain ⟨q1, hq1⟩ : ∃ q1, q1 = q + 1 := ⟨_, rfl⟩
              have eq1 : IntKind.i64.wrap ((q : Int) + 1) = (q1 : Int) := by rw [IntWalk.i64_in _ (by omega)]; omega
              have hq1m : q1 ≤ m := by omega
              have hq1c : q1 ≤ c := by omega
              have hqq : q < q1 := by omega
              rw [← hq1] at HP2 HJ2 HLL HLC
              have HQ1 := Lib.hid hq1
              clear hcell hok huu hvd hstep hqL hx hq1 hqm
              generalize (es x).cells = E at *
              generalize (es x).v = z at *
              generalize ptU ls v (es x) = p at *
              obtain ⟨TT, hTT⟩ : ∃ TT, TT = k + 6 := ⟨_, rfl⟩
              have HTT := Lib.hid hTT
              have HPT : Hid (p.length = TT) := by unfold Hid; rw [HPL.out, HTT.out]
              have hT6 : 6 ≤ TT := by omega
              have hT7 : TT ≤ 36 := by omega
              clear hTT HPL
              go_upto_region 21 with (first | (refine at_load_mid rfl 48 _ rfl b (off + 4 * x) rfl E _ HRA.out Tryd.underlying48 rfl iE.out ?_) | (refine at_alloc rfl 48 rfl _ zeroCame ?_; intro wq1 Lq) | (refine at_store rfl 48 _ _ rfl wc.heap.size E rfl rfl 48 _ Lq.row iE.out HEs.out HEo.out ?_; intro wq2 Uq))
              have beq : Below wc.heap.size wc wq2 := Lq.bel.trans (Uq.below (Nat.le_refl _))
              have qE := Uq.row
              have TQ := T.after beq
              have CPQ := Lib.hid (CP.out wq2 beq)
              have kE := (qE.cell 1).trans HE1.out
              have hgc : wc.heap.size < wq2.heap.size := by rw [Uq.size, Lq.size]; omega
              clear Lq Uq HRA ic kl T CP rlr hRr beq
              generalize wc.heap.size = gc at *
              go_upto_region 22 with fail
              go_wp2_with (refine at_load rfl 48 _ rfl gc rfl 48 E _ qE Tryd.underlying48 rfl iE.out ?_)
              refine CPQ.out.mono ?_
              rintro e w9 ⟨A9, n9, c9, rfl, own9, b9⟩
              have hn9 : n9 = TT := by rw [own9.rd.len8, HPT.out]
              subst hn9
              obtain ⟨g9, rfl, hg9, hg9l⟩ := own9.at0 (by omega)
              have T9 := TQ.after b9
              have CA := Lib.hid (addC gB k v n9 c9 g9 0 rowB p SB w9 T9.b (by omega) (by have := HRB.out; omega) hv HTT.out own9.rd HPB.out (by have := TQ.g2; have := TQ.sz; omega) hg9l (fun e => by have := TQ.b.lt g9 e; omega))
              clear CPQ own9 b9 TQ hu2 hv2 kE qE
              go_wp2_with fail
              refine CA.out.mono ?_
              rintro e w10 ⟨rfl, SB', hB10, hK, hO⟩
              have T10 := T9.addB hB10 hK hO
              have HR1 : Hid (∀ W, Below w10.heap.size w10 W → Rd W W.heap.size (some ⟨gl, ol, none⟩) q (I64 ((L.map fun (j : Nat) => (j : Int)).take q))) := fun W hW => ((T10.l.rd.below hW).up hW.size).cut64 q (by omega)
              have HR2 : Hid (∀ W, Below w10.heap.size w10 W → Rd W W.heap.size (some ⟨gl, ol + q1, none⟩) (m - q1) (I64 ((L.map fun (j : Nat) => (j : Int)).drop q1))) := fun W hW => ((T10.l.rd.below hW).up hW.size).from64y q1 hq1m hm
              obtain ⟨o2', hif, HR3⟩ : ∃ o2', (if c = q1 then some (⟨gl, ol, none⟩ : Addr) else some ⟨gl, ol + q1, none⟩) = some ⟨gl, o2', none⟩ ∧ Hid (∀ W, Below w10.heap.size w10 W → Rd W W.heap.size (some ⟨gl, o2', none⟩) (m - q1) (I64 ((L.map fun (j : Nat) => (j : Int)).drop q1))) := by
                by_cases hcq : c = q1
                · refine ⟨ol, if_pos hcq, fun W hW => ⟨(HR2.out W hW).len, fun h0 => absurd h0 (by omega)⟩⟩
                · exact ⟨ol + q1, if_neg hcq, HR2.out⟩
              obtain ⟨i0, hi0, hz0, hz1, hz2⟩ := info_parts info3
              clear hO hB10 hK CA T9
              go_upto_region 24 with fail
              refine wp_region_noPanic ?_
              refine wp_region_held_drew (S := fun W => Below w10.heap.size w10 W) (by kernel_rfl) ((Below.refl _ _).drew) (fun hHeld => ?_)
              refine wpAnyH_take (i := 1) (oi := ⟨some 115, _, _, _, _, _⟩) (v := ?_) rfl (by kernel_rfl) (by kernel_rfl) (by kernel_rfl) (fun _ _ _ h => h) (Or.inl ⟨by rfl, ?_⟩) hHeld ?_
              rotate_left
              · intro W hSW; have hSW0 := hSW; go_simp; first | done | with_reducible rfl
              (try simp only [Act.put, List.setIfInBounds_toArray, List.set_cons_zero, List.set_cons_succ])
              refine wpAnyH_take (i := 2) (oi := ⟨some 116, _, _, _, _, _⟩) (v := ?_) rfl (by kernel_rfl) (by kernel_rfl) (by kernel_rfl) (fun _ _ _ h => h) (Or.inl ⟨by rfl, ?_⟩) hHeld ?_
              rotate_left
              · intro W hSW; have hSW0 := hSW; go_simp; first | done | with_reducible rfl
              (try simp only [Act.put, List.setIfInBounds_toArray, List.set_cons_zero, List.set_cons_succ])
              refine wpAnyH_take (i := 3) (oi := ⟨some 117, _, _, _, _, _⟩) (v := ?_) rfl (by kernel_rfl) (by kernel_rfl) (by kernel_rfl) (fun _ _ _ h => h) (Or.inl ⟨by rfl, ?_⟩) hHeld ?_
              rotate_left
              · intro W hSW; have hSW0 := hSW; go_simp; first | done | with_reducible rfl
              (try simp only [Act.put, List.setIfInBounds_toArray, List.set_cons_zero, List.set_cons_succ])
              refine wpAnyH_take (i := 5) (oi := ⟨some 119, _, _, _, _, _⟩) (v := ?_) rfl (by kernel_rfl) (by kernel_rfl) (by kernel_rfl) (fun _ _ _ h => h) (Or.inl ⟨by rfl, ?_⟩) hHeld ?_
              rotate_left
              · intro W hSW; have hSW0 := hSW; go_simp; first | done | with_reducible rfl
              (try simp only [Act.put, List.setIfInBounds_toArray, List.set_cons_zero, List.set_cons_succ])
              refine wpAnyH_take (i := 6) (oi := ⟨some 120, _, _, _, _, _⟩) (v := ?_) rfl (by kernel_rfl) (by kernel_rfl) (by kernel_rfl) (fun _ _ _ h => h) (Or.inl ⟨by rfl, ?_⟩) hHeld ?_
              rotate_left
              · intro W hSW; have hSW0 := hSW; go_simp; first | done | with_reducible rfl
              (try simp only [Act.put, List.setIfInBounds_toArray, List.set_cons_zero, List.set_cons_succ])
              refine wpAnyH_take (i := 7) (oi := ⟨some 121, _, _, _, _, _⟩) (v := ?_) rfl (by kernel_rfl) (by kernel_rfl) (by kernel_rfl) (fun _ _ _ h => h) (Or.inl ⟨by rfl, ?_⟩) hHeld ?_
              rotate_left
              · intro W hSW; have hSW0 := hSW; go_simp; first | done | with_reducible rfl
              (try simp only [Act.put, List.setIfInBounds_toArray, List.set_cons_zero, List.set_cons_succ])
              refine wpAnyH_take (i := 8) (oi := ⟨some 122, _, _, _, _, _⟩) (v := ?_) rfl (by kernel_rfl) (by kernel_rfl) (by kernel_rfl) (fun _ _ _ h => h) (Or.inl ⟨by rfl, ?_⟩) hHeld ?_
              rotate_left
              · intro W hSW; have hSW0 := hSW; go_simp; first | done | with_reducible rfl
              (try simp only [Act.put, List.setIfInBounds_toArray, List.set_cons_zero, List.set_cons_succ])
              refine wpAnyH_ready (rs := [0]) (by kernel_rfl) (by simp) ?_
              refine AllReadyH.cons (o := ⟨some 114, _, _, _, _, _⟩) rfl (fun K hK => ?_) (AllReadyH.nil)
              refine step_none (by rfl) 39 3 (by rfl) i0 Tryd.underlying39 hi0 ?_
              intro x1 o1 b1 s1
              have bS := Below.then_ hHeld b1
              clear hHeld
              refine hK.out _ _ ?_ (fun hHeld => ?_)
              · exact bS
              clear hK K
              (try simp only [Act.put, List.setIfInBounds_toArray, List.set_cons_zero, List.set_cons_succ])
              refine wpAnyH_ready (rs := [4]) (by kernel_rfl) (by simp) ?_
              refine AllReadyH.cons (o := ⟨some 118, _, _, _, _, _⟩) rfl (fun K hK => ?_) (AllReadyH.nil)
              refine step_app (by rfl) _ _ 39 (by rfl) w10.drew.heap.size 3 i0 _ 8 Tryd.underlying39 hi0 hz0 hz1 hz2 rfl _ 0 0 [] (by rfl) o1 x1.heap.size _ q _ (I64 ((L.map fun (j : Nat) => (j : Int)).take q)) (by rfl) (HR1.out x1 bS) (fun h => by cases h) (I64_one _) (by omega) (by unfold maxLen; omega) (by have := b1.size; omega) ?_
              intro A2' c2' x2 o2 g2 l2
              have b2 : Below w10.drew.heap.size w10.drew x2 := b1.grown g2 b1.size (fun j hj => (o1.block j hj).1)
              have bS2 : Below w10.heap.size w10 x2 := (Below.refl _ _).drew.trans b2
              have s2 := g2.size
              clear hHeld
              refine hK.out _ _ ?_ (fun hHeld => ?_)
              · exact bS2
              clear hK K
              (try simp only [Act.put, List.setIfInBounds_toArray, List.set_cons_zero, List.set_cons_succ])
              refine wpAnyH_ready (rs := [9]) (by kernel_rfl) (by simp) ?_
              refine AllReadyH.cons (o := ⟨some 123, _, _, _, _, _⟩) rfl (fun K hK => ?_) (AllReadyH.nil)
              refine step_app (by rfl) _ _ 39 (by rfl) w10.drew.heap.size 3 i0 _ 8 Tryd.underlying39 hi0 hz0 hz1 hz2 rfl A2' (0 + q) c2' _ (by rfl) o2 x2.heap.size _ (m - q1) _ (I64 ((L.map fun (j : Nat) => (j : Int)).drop q1)) (by rfl) (HR3.out x2 bS2) (fun h => by cases h) (I64_one _) (by omega) (by unfold maxLen; omega) (by have := b2.size; omega) ?_
              intro A3' c3' x3 o3 g3 l3
              have b3 : Below w10.drew.heap.size w10.drew x3 := b2.grown g3 b2.size (fun j hj => (o2.block j hj).1)
              have bS3 : Below w10.heap.size w10 x3 := (Below.refl _ _).drew.trans b3
              clear hHeld
              refine hK.out _ _ ?_ (fun hHeld => ?_)
              · exact bS3
              clear hK K
              (try simp only [Act.put, List.setIfInBounds_toArray, List.set_cons_zero, List.set_cons_succ])
              refine wpAnyH_take (i := 10) (oi := ⟨some 11, _, _, _, _, _⟩) (v := ?_) rfl (by kernel_rfl) (by kernel_rfl) (by kernel_rfl) (fun _ _ _ h => h) (Or.inl ⟨by rfl, ?_⟩) hHeld ?_
              rotate_left
              · intro W hSW; have hSW0 := hSW; go_simp; first | done | with_reducible rfl
              (try simp only [Act.put, List.setIfInBounds_toArray, List.set_cons_zero, List.set_cons_succ])
              refine wpAnyH_done (by kernel_rfl) ?_ _
              refine NoPanic.normal ?_
              clear hHeld
              go_wp2_with fail
              go_roundw
              case rel => exact ⟨i + 1, by go_num, L.take q ++ L.drop q1, rowB ++ [(v, p)], SB', SA, A3', q + (m - q1), c3', rfl, HLL.out, by have := HQ1.out; omega, T10.fresh bS3 (o3.to (by omega) rfl) (Nat.le_refl _) HLC.out, HP2.out, HJ2.out⟩
              case measure => simp [lenOf] <;> omega
          · have HL0 : Hid (L = []) := List.eq_nil_of_length_eq_zero (by rw [HM.out]; omega)
            have hPR : rowB.Perm R := by
              have := HP.out
              rw [HL0.out] at this
              simpa using this
            obtain ⟨N4, hN4⟩ : ∃ N4, N4 = 4 * (k + 6) := ⟨_, rfl⟩
            have hN4b : N4 ≤ 200 := by omega
            have hsl : (Cv.softs (k + 6) R).length = N4 := by rw [Cv.softs_length, hN4]
            have CS1 := Lib.hid (softC gA k N4 (Cv.cv R) (Cv.softs (k + 6) R) SA wr T.a.blk T.a.sums (by omega) hN4 hsl)
            have CS2 : Hid (∀ W, Below wr.heap.size wr W → Calls Tryd.prog 19 #[.pointer (some ⟨gB, 0, none⟩)] W (SoftOk W N4 (Cv.softs (k + 6) R))) := fun W hW => by
              have t := T.b.after hW
              have h2 := t.sums
              rw [Cv.softs_perm (k + 6) hPR] at h2
              exact softC gB k N4 (Cv.cv rowB) (Cv.softs (k + 6) R) SB W t.blk h2 (by omega) hN4 hsl
            have hcl : cl rowB = cl R := by unfold cl; rw [Cv.cv_perm hPR 0, Cv.cv_perm hPR 1, Cv.cv_perm hPR 2, Cv.cv_perm hPR 3]
            have CC1 : Hid (∀ W, Below wr.heap.size wr W → Calls Tryd.prog 20 #[.pointer (some ⟨gA, 0, none⟩)] W fun e w' => e = .returned (.agg (W4 (nw (cl R)))) ∧ Below W.heap.size W w') := fun W hW => countsC gA k R SA W (T.a.after hW).blk
            have CC2 : Hid (∀ W, Below wr.heap.size wr W → Calls Tryd.prog 20 #[.pointer (some ⟨gB, 0, none⟩)] W fun e w' => e = .returned (.agg (W4 (nw (cl R)))) ∧ Below W.heap.size W w') := fun W hW => by
              have := countsC gB k rowB SB W (T.b.after hW).blk
              rw [hcl] at this
              exact this
            have HEQ := Lib.hid (eqCl R)
            have hlN := Lib.hid hsl
            have HFIN : Hid (Below w.heap.size w wr) := bel.trans ((T.bw).mono hwA)
            have hwr : w.heap.size ≤ wr.heap.size := HFIN.out.size
            clear hN4 hsl hPR hcl T HM HL0 HP HJ him rlr
            generalize Cv.softs (k + 6) R = SL at *
            generalize W4 (nw (cl R)) = ZZ at *
            have hm0 : m = 0 := by omega
            have dm : decide ((0 : Int) < (m : Int)) = false := by simp; omega
            go_wp2_with fail
            refine CS1.out.mono ?_
            rintro e wa ⟨rfl, qa, ba⟩
            go_wp2_with fail
            refine (CS2.out wa ba).mono ?_
            rintro e wb ⟨rfl, qb, bb⟩
            have bab := Below.then_ ba bb
            have CSm := Lib.hid (sameC (some ⟨wr.heap.size, 0, none⟩) (some ⟨wa.heap.size, 0, none⟩) N4 N4 N4 N4 SL wb (W4_rd (qa.after bb) hlN.out) (W4_rd qb hlN.out) (by omega))
            go_wp2_with fail
            refine CSm.out.mono ?_
            rintro e wd ⟨rfl, bd⟩
            have bwd := Below.then_ bab bd
            go_wp2_with fail
            refine (CC1.out wd bwd).mono ?_
            rintro e we ⟨rfl, be⟩
            have bwe := Below.then_ bwd be
            go_wp2_with fail
            refine (CC2.out we bwe).mono ?_
            rintro e wf ⟨rfl, bf⟩
            have bwf := Below.then_ bwe bf
            go_wp2_with (refine at_eqA rfl .eql 22 _ _ _ rfl ZZ ZZ rfl rfl guard4 (.bool true) HEQ.out ?_)
            go_ret
            exact ⟨rfl, HFIN.out.trans (bwf.mono hwr)⟩
end Go.Proofs.YtknfpdlomgllhaaDoor
