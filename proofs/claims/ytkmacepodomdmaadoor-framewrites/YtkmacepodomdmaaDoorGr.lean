/-
  The walk of FrameWrites.
-/
import Derived.Test.YtkmacepodomdmaaDoorGm
import Derived.Test.YtkmacepodomdmaaDoorGq
import Derived.Test.YtkmacepodomdmaaDoorFv
import Derived.Deep.DeepCutAuto
namespace Go.Proofs.YtkmacepodomdmaaDoor
open Go.RowKit
set_option maxRecDepth 100000
set_option linter.unusedVariables false
set_option linter.unusedSimpArgs false

section
variable {P : Program} {ops : Array Oper} {rest : List Oper} {o : Oper} {a : Act} {w : World} {Q : Exit → Act → World → Prop}
/-- A part of a block is read, behind a guard. -/
theorem at_loadMidG (hw : Region.wanted o (yielded ops a.tmps) = true) (ty : TypeId) (x : Operand) (ho : o.op = .load ty x) (g off : Nat) (hx : a.eval x = .pointer (some ⟨g, off, none⟩)) (cs : Array Value) (d : TypeDesc) (hc : w.rangeAt g off cs.toList)
    (hu : P.underlying ty = some d) (hd : d.isRow = true) (hi : (P.info? ty).map (·.size) = some cs.size)
    (h : wpList P ops Q rest (a.put o.dst (.agg cs)) w) : wpList P ops Q (o :: rest) a w := by
  refine wpList_step fun K hK => ?_
  rw [if_pos hw]
  refine wp_load_mid ty x ho g off hx cs.toList d hc hu hd (by rw [Array.length_toList]; exact hi) ?_
  rw [Array.toArray_toList]
  exact hK _ _ h
/-- '!=' of structs, behind a guard. -/
theorem at_neG (hw : Region.wanted o (yielded ops a.tmps) = true) (op : BinOp) (t : TypeId) (x y : Operand) (t2 : TypeId) (ho : o.op = .binOp op t x y t2) (xs ys : Array Value) (hx : a.eval x = .agg xs) (hy : a.eval y = .agg ys)
    (hm : P.eqGuardType P.depth t = false) (r : Value) (h : ∀ W, (binOp op t (.agg xs) (.agg ys)).run P W = .ok r W)
    (k : wpList P ops Q rest (a.put o.dst r) w) : wpList P ops Q (o :: rest) a w := by
  refine wpList_step fun K hK => ?_
  rw [if_pos hw]
  unfold Oper.wp execOp
  simp only [ho, hx, hy, Sem.run_bind, run_eqGuard_agg w op t x y xs ys hm, h, Result.andThen_ok, Sem.run_pure]
  exact hK _ _ k
end
theorem mapGuardW : Tryd.prog.eqGuardType Tryd.prog.depth 30 = false := by kernel_rfl
theorem partNW (cs : Array Value) (off : Nat) (v : Value) (h : cs[off]? = some v) (w : World) : (part 28 cs off).run Tryd.prog w = .ok v w := by
  simp [part, isAgg, run_underlying Tryd.underlying28, h]
theorem partMW (cs : Array Value) (off : Nat) (v : Value) (h : cs[off]? = some v) (w : World) : (part 23 cs off).run Tryd.prog w = .ok v w := by
  simp [part, isAgg, run_underlying Tryd.underlying23, h]
theorem mapNe (b : Int) (m : Nat) (w : World) : (binOp .neq 30 (.agg (mv b m)) (.agg (mv b m))).run Tryd.prog w = .ok (.bool false) w := by
  have h0 : (mv b m)[0]? = some (.int .u16 b) := rfl
  have h1 : (mv b m)[1]? = some (.int .u32 (m : Int)) := rfl
  rw [run_neq_struct, show (10000 : Nat) = 9999 + 1 from rfl, run_equalIn_agg _ _ _ _ _ (by kernel_rfl) (by kernel_rfl), show (9999 : Nat) = 9998 + 1 from rfl]
  simp [Program.fieldsOf, Tryd.underlying30, Op.eqFields, partNW _ _ _ h0, partMW _ _ _ h1, run_equalIn_int]
theorem FV_map (k : Int) (q : Nat) (v l : Int) (B : Value) (b m : Nat) : (FV k q v l B b m)[5]? = some (.int .u16 (b : Int)) ∧ (FV k q v l B b m)[6]? = some (.int .u32 (m : Int)) := ⟨rfl, rfl⟩
theorem FV_range {w : World} {g : Nat} {k : Int} {q : Nat} {v l : Int} {B : Value} {b m : Nat} (h : Blk w g 32 (FV k q v l B b m)) : w.rangeAt g 5 (mv b m).toList := fun j u hu => by
  match j with
  | 0 => exact (h.cell 5).trans hu
  | 1 => exact (h.cell 6).trans hu
  | j + 2 => simp [mv] at hu
set_option maxHeartbeats 10000000 in
set_option maxRecDepth 100000 in
/-- FrameWrites: the walk. -/
theorem frameWrites (kind seq ver len : Int) (A : Option Addr) (n c : Nat) (ba : Int) (more : Nat) (body : List Nat) (a : Nat → Addr) (w : World) (hr : Rd w w.heap.size A n (U8 body)) (h256 : ∀ b ∈ body, b < 256) (hnc : n ≤ c) (hc : c ≤ 9223372036854775807) (hnone : A = none → n = 0 ∧ c = 0) (hv : -9223372036854775808 ≤ ver ∧ ver ≤ 9223372036854775807) (hm : more < 4294967296) (hE : ErrsAt w a) :
    Calls Tryd.prog 3 #[.agg (RV kind seq ver len (.slice A n c) ba more)] w fun e w' => e = .returned (.bool true) ∧ Below w.heap.size w w' := by
  obtain ⟨sq, hsq⟩ : ∃ s : Nat, (s : Int) = seq % 65536 := ⟨(seq % 65536).toNat, by omega⟩
  obtain ⟨b2, hb2⟩ : ∃ s : Nat, (s : Int) = ba % 65536 := ⟨(ba % 65536).toNat, by omega⟩
  have hsq2 : sq < 65536 := by omega
  have hb22 : b2 < 65536 := by omega
  have HB7 : Hid ((body.take 700).length ≤ 700) := by unfold Hid; rw [List.length_take]; omega
  have HT := Lib.hid (fun (W : World) (h : Rd W W.heap.size A n (U8 body)) => tameC kind seq ver len A n c ba more body W h hnc hc hnone)
  rw [← hsq, ← hb2] at HT
  have h256' : ∀ b ∈ body.take 700, b < 256 := fun b hb => h256 b (List.mem_of_mem_take hb)
  clear hsq hb2
  generalize body.take 700 = bd at *
  have HO := Lib.hid (fun (A' : Option Addr) (n' c' : Nat) (W : World) (h : Rd W W.heap.size A' n' (U8 bd)) (hn : A' = none → n' = 0 ∧ c' = 0) => toC kind sq ver len A' n' c' b2 more bd W h (by rw [h.len8]; have := HB7.out; omega) hn hsq2 hb22)
  have HWr := Lib.hid (fun (A' : Option Addr) (n' c' : Nat) (W : World) (h : Rd W W.heap.size A' n' (U8 bd)) => writeC kind sq ver len A' n' c' b2 more bd W hsq2 hv h h256' (by rw [h.len8]; have := HB7.out; omega) hb22 hm)
  have HRW := Lib.hid (fun (A' : Option Addr) (n' c' : Nat) (W : World) (h : Rd W W.heap.size A' n' (U8 bd)) => rwriteC kind sq ver len A' n' c' b2 more bd W hsq2 h h256' (by rw [h.len8]; have := HB7.out; omega) hb22 hm)
  have HRWm : Hid (WE kind ver len bd = 0 → ∀ {k : Int} {q' : Nat} {ve le : Int} {b' m' : Nat}, FN (WB kind sq ver len bd b2 more) k q' ve le b' m' → RW16 kind sq ver len bd b2 more k q' ve le b' m') := fun h _ _ _ _ _ _ hN => read_write hsq2 hb22 hm h hN
  obtain ⟨we, hwe⟩ : ∃ we, we = WE kind ver len bd := ⟨_, rfl⟩
  obtain ⟨wb, hwb⟩ : ∃ wb, wb = WB kind sq ver len bd b2 more := ⟨_, rfl⟩
  have HWE := Lib.hid hwe
  have HWBq := Lib.hid hwb
  rw [← hwe, ← hwb] at HWr HRW
  rw [← hwe] at HRWm
  have CF0 := Lib.hid (fun (W : World) (h : ErrsAt W a) => framesC a W h)
  clear hwe hwb
  go_enter Tryd.func3, Tryd.ntmps3
  go_upto_region 1 with (refine at_box rfl 25 _ rfl (RV kind seq ver len (.slice A n c) ba more) rfl ?_; intro w1 L1)
  have p1 := L1.row
  have bel1 := L1.bel
  have r1 := (hr.below bel1).up bel1.size
  obtain ⟨g1, hg1⟩ : ∃ g, g = w.heap.size := ⟨_, rfl⟩
  have HG1 := Lib.hid (show w.heap.size ≤ g1 by omega)
  rw [← hg1] at p1 ⊢
  clear L1 hg1
  go_upto_region 2 with (first
    | (refine at_load rfl 25 _ rfl g1 rfl 25 (RV kind seq ver len (.slice A n c) ba more) _ p1 Tryd.underlying25 rfl (infoR _ _ _ _ _ _ _) ?_)
    | (go_at_call 9; refine (HT.out _ r1).mono ?_; rintro e w2 ⟨A2, n2, c2, rfl, own2, be2⟩; have q1 := p1.after be2)
    | (refine at_store rfl 25 _ _ rfl g1 (RV kind sq ver len (.slice A2 n2 c2) b2 more) rfl rfl 25 _ q1 (infoR _ _ _ _ _ _ _) rfl (RV_all _ _ _ _ _ _ _ _ _) ?_; intro w3 H3))
  have p3 := H3.row
  have own3 := own2.upd H3 (by have := p1.lt; exact this)
  have bel3 : Below w.heap.size w w3 := (Below.then_ bel1 be2).trans (H3.below HG1.out)
  clear own2 H3 q1 p1 r1 be2
  go_upto_region 3 with (first
    | (refine at_load rfl 25 _ rfl g1 rfl 25 (RV kind sq ver len (.slice A2 n2 c2) b2 more) _ p3 Tryd.underlying25 rfl (infoR _ _ _ _ _ _ _) ?_)
    | (go_at_call 10; refine (HO.out _ _ _ _ own3.rd own3.none_).mono ?_; rintro e w4 ⟨A3, n3, c3, rfl, own4, be4⟩)
    | (refine at_alloc rfl 32 rfl _ zeroF ?_; intro w5 L5)
    | (refine at_store rfl 32 _ _ rfl w4.heap.size (FV kind sq ver len (.slice A3 n3 c3) b2 more) rfl rfl 32 _ L5.row (infoF _ _ _ _ _ _ _) rfl (FV_all _ _ _ _ _ _ _ _ _) ?_; intro w6 H6))
  have b46 : Below w4.heap.size w4 w6 := L5.bel.trans (H6.below (Nat.le_refl _))
  have b36 : Below w3.heap.size w3 w6 := Below.then_ be4 b46
  have p6 := p3.after b36
  have f6 := H6.row
  obtain ⟨g3, hg3⟩ : ∃ g, g = w4.heap.size := ⟨_, rfl⟩
  rw [← hg3] at f6 ⊢
  have rA2 : Rd w6 w6.heap.size A2 n2 (U8 bd) := own3.rdOf b36
  have rA3 : Rd w6 w6.heap.size A3 n3 (U8 bd) := own4.rdOf b46
  have bel6 := bel3.trans (b36.mono bel3.size)
  have hno2 := own3.none_
  have hno3 := own4.none_
  clear own3 own4 L5 H6 hg3 p3 bel3 be4 b46 b36
  go_upto_region 4 with (first
    | (refine at_load rfl 32 _ rfl g3 rfl 32 (FV kind sq ver len (.slice A3 n3 c3) b2 more) _ f6 Tryd.underlying32 rfl (infoF _ _ _ _ _ _ _) ?_)
    | (go_at_call 11; refine (HWr.out _ _ _ _ rA3).mono ?_; rintro e w7 ⟨A4, n4, c4, rfl, own7, be7⟩))
  have p7 := p6.after be7
  have f7 := f6.after be7
  have rA2' := (rA2.below be7).up be7.size
  go_upto_region 5 with (first
    | (refine at_load rfl 25 _ rfl g1 rfl 25 (RV kind sq ver len (.slice A2 n2 c2) b2 more) _ p7 Tryd.underlying25 rfl (infoR _ _ _ _ _ _ _) ?_)
    | (go_at_call 12; refine (HRW.out _ _ _ _ rA2').mono ?_; rintro e w5 ⟨A5, n5, c5, rfl, own8, be8⟩))
  have p5 := p7.after be8
  have f5 := f7.after be8
  have b65 := Below.then_ be7 be8
  have bel5 := bel6.trans (b65.mono bel6.size)
  have R2 := (rA2.below b65).up b65.size
  have R3 := (rA3.below b65).up b65.size
  have R4 := own7.rdOf be8
  have R5 := own8.rd
  have hbd4 := own7.bounds
  have hbd5 := own8.bounds
  have hno4 := own7.none_
  have hno5 := own8.none_
  have KC : Hid (∀ W, Below w5.heap.size w5 W → (convert 22 9 (.slice A4 n4 c4)).run Tryd.prog W = .ok (.string (str wb)) W ∧ (convert 22 9 (.slice A5 n5 c5)).run Tryd.prog W = .ok (.string (str wb)) W ∧ (convert 22 9 (.slice A3 n3 c3)).run Tryd.prog W = .ok (.string (str bd)) W ∧ (convert 22 9 (.slice A2 n2 c2)).run Tryd.prog W = .ok (.string (str bd)) W ∧ W.cell? ⟨g3, 4, none⟩ = some (.slice A3 n3 c3) ∧ W.cell? ⟨g1, 4, none⟩ = some (.slice A2 n2 c2) ∧ W.cell? ⟨g1, 3, none⟩ = some (.int .i64 len)) := fun W h =>
    ⟨R4.conv (fun e => (hno4 e).1) W h, R5.conv (fun e => (hno5 e).1) W h, R3.conv (fun e => (hno3 e).1) W h, R2.conv (fun e => (hno2 e).1) W h, ((f5.after h).cell 4).trans rfl, ((p5.after h).cell 4).trans rfl, ((p5.after h).cell 3).trans rfl⟩
  have HP := Lib.hid p5
  have HF := Lib.hid f5
  have HR4 := Lib.hid R4
  have HR5 := Lib.hid R5
  have HBel := Lib.hid bel5
  have HE5 := Lib.hid (hE.below bel5)
  have CF : Hid (∀ W, Below w5.heap.size w5 W → Calls Tryd.prog 13 #[] W fun e w' => e = .returned (.bool true) ∧ Below W.heap.size W w') := fun W h => CF0.out W (HE5.out.below h)
  clear own7 own8 be7 be8 p7 f7 rA2' p5 f5 b65 bel5 R2 R3 R4 R5 p6 f6 rA2 rA3 bel6 hno2 hno3 hno4 hno5 HT HO HWr HRW CF0 hr hE h256 h256' bel1
  go_cut [63] from 26 (fun s63 wc => s63 = .bool false ∧ Below w5.heap.size w5 wc)
  case first =>
    have HS : Hid (∀ W, Below w5.heap.size w5 W → (fun W : World => (convert 22 9 (.slice A4 n4 c4)).run Tryd.prog W = .ok (.string (str wb)) W ∧ (convert 22 9 (.slice A5 n5 c5)).run Tryd.prog W = .ok (.string (str wb)) W ∧ (convert 22 9 (.slice A3 n3 c3)).run Tryd.prog W = .ok (.string (str bd)) W ∧ (convert 22 9 (.slice A2 n2 c2)).run Tryd.prog W = .ok (.string (str bd)) W ∧ W.cell? ⟨g3, 4, none⟩ = some (.slice A3 n3 c3) ∧ W.cell? ⟨g1, 4, none⟩ = some (.slice A2 n2 c2) ∧ W.cell? ⟨g1, 3, none⟩ = some (.int .i64 len)) W) := KC.out
    clear KC
    generalize str wb = sw at *
    generalize str bd = sb at *
    have dw : (we != we) = false := by simp
    have ds : (sw.toList != sw.toList) = false := by simp
    have db : (sb.toList != sb.toList) = false := by simp
    by_cases hl0 : 0 ≤ len
    · have t1 : decide (len ≥ 0) = true := by simp; omega
      have t1' : decide (0 ≤ len) = true := by simp; omega
      by_cases hl1 : len ≤ 64
      · have t2 : decide (len ≤ 64) = true := by simp; omega
        have tf : (fb len != 0) = true := by unfold fb; rw [if_pos ⟨hl0, hl1⟩]; simp; omega
        clear hl0 hl1
        refine wp_region_noPanic ?_
        have s0 := HS.out w5.drew (Below.refl w5.heap.size w5).drew
        refine wp_region_held_drew (S := (fun W : World => (convert 22 9 (.slice A4 n4 c4)).run Tryd.prog W = .ok (.string sw) W ∧ (convert 22 9 (.slice A5 n5 c5)).run Tryd.prog W = .ok (.string sw) W ∧ (convert 22 9 (.slice A3 n3 c3)).run Tryd.prog W = .ok (.string sb) W ∧ (convert 22 9 (.slice A2 n2 c2)).run Tryd.prog W = .ok (.string sb) W ∧ W.cell? ⟨g3, 4, none⟩ = some (.slice A3 n3 c3) ∧ W.cell? ⟨g1, 4, none⟩ = some (.slice A2 n2 c2) ∧ W.cell? ⟨g1, 3, none⟩ = some (.int .i64 len))) (by kernel_rfl) s0 (fun hHeld => ?_)
        clear s0
        refine wpAnyH_ready (rs := [0]) (by kernel_rfl) (by simp) ?_
        refine AllReadyH.cons (o := ⟨some 26, _, _, _, _, _⟩) rfl (fun K hK => ?_) (AllReadyH.nil)
        go_simp
        go_at_call 13
        refine (CF.out w5.drew (Below.refl w5.heap.size w5).drew).mono ?_
        rintro e x1 ⟨rfl, h1⟩
        have bS1 : Below w5.heap.size w5 x1 := Below.then_ (Below.refl w5.heap.size w5).drew h1
        clear hHeld
        refine hK.out _ _ ?_ (fun hHeld => ?_)
        · exact HS.out x1 bS1
        clear hK K
        (try simp only [Act.put, List.setIfInBounds_toArray, List.set_cons_zero, List.set_cons_succ])
        refine wpAnyH_take (i := 1) (oi := ⟨some 27, _, _, _, _, _⟩) (v := ?_) rfl (by kernel_rfl) (by kernel_rfl) (by kernel_rfl) (fun _ _ _ h => h) (Or.inl ⟨by rfl, ?_⟩) hHeld ?_
        rotate_left
        · intro W hSW; obtain ⟨hSW0, hSW1, hSW2, hSW3, hSW4, hSW5, hSW6⟩ := hSW; go_simp; first | done | with_reducible rfl
        (try simp only [Act.put, List.setIfInBounds_toArray, List.set_cons_zero, List.set_cons_succ])
        refine wpAnyH_take (i := 2) (oi := ⟨some 28, _, _, _, _, _⟩) (v := ?_) rfl (by kernel_rfl) (by kernel_rfl) (by kernel_rfl) (fun _ _ _ h => h) (Or.inl ⟨by rfl, ?_⟩) hHeld ?_
        rotate_left
        · intro W hSW; obtain ⟨hSW0, hSW1, hSW2, hSW3, hSW4, hSW5, hSW6⟩ := hSW; go_simp; first | done | with_reducible rfl
        (try simp only [Act.put, List.setIfInBounds_toArray, List.set_cons_zero, List.set_cons_succ])
        refine wpAnyH_take (i := 3) (oi := ⟨some 29, _, _, _, _, _⟩) (v := ?_) rfl (by kernel_rfl) (by kernel_rfl) (by kernel_rfl) (fun _ _ _ h => h) (Or.inl ⟨by rfl, ?_⟩) hHeld ?_
        rotate_left
        · intro W hSW; obtain ⟨hSW0, hSW1, hSW2, hSW3, hSW4, hSW5, hSW6⟩ := hSW; go_simp; first | done | with_reducible rfl
        (try simp only [Act.put, List.setIfInBounds_toArray, List.set_cons_zero, List.set_cons_succ])
        refine wpAnyH_take (i := 4) (oi := ⟨some 30, _, _, _, _, _⟩) (v := ?_) rfl (by kernel_rfl) (by kernel_rfl) (by kernel_rfl) (fun _ _ _ h => h) (Or.inl ⟨by rfl, ?_⟩) hHeld ?_
        rotate_left
        · intro W hSW; obtain ⟨hSW0, hSW1, hSW2, hSW3, hSW4, hSW5, hSW6⟩ := hSW; go_simp; first | done | with_reducible rfl
        (try simp only [Act.put, List.setIfInBounds_toArray, List.set_cons_zero, List.set_cons_succ])
        refine wpAnyH_take (i := 5) (oi := ⟨some 31, _, _, _, _, _⟩) (v := ?_) rfl (by kernel_rfl) (by kernel_rfl) (by kernel_rfl) (fun _ _ _ h => h) (Or.inl ⟨by rfl, ?_⟩) hHeld ?_
        rotate_left
        · intro W hSW; obtain ⟨hSW0, hSW1, hSW2, hSW3, hSW4, hSW5, hSW6⟩ := hSW; go_simp; first | done | with_reducible rfl
        (try simp only [Act.put, List.setIfInBounds_toArray, List.set_cons_zero, List.set_cons_succ])
        refine wpAnyH_take (i := 6) (oi := ⟨some 32, _, _, _, _, _⟩) (v := ?_) rfl (by kernel_rfl) (by kernel_rfl) (by kernel_rfl) (fun _ _ _ h => h) (Or.inl ⟨by rfl, ?_⟩) hHeld ?_
        rotate_left
        · intro W hSW; obtain ⟨hSW0, hSW1, hSW2, hSW3, hSW4, hSW5, hSW6⟩ := hSW; go_simp; first | done | with_reducible rfl
        (try simp only [Act.put, List.setIfInBounds_toArray, List.set_cons_zero, List.set_cons_succ])
        refine wpAnyH_take (i := 7) (oi := ⟨some 33, _, _, _, _, _⟩) (v := ?_) rfl (by kernel_rfl) (by kernel_rfl) (by kernel_rfl) (fun _ _ _ h => h) (Or.inl ⟨by rfl, ?_⟩) hHeld ?_
        rotate_left
        · intro W hSW; obtain ⟨hSW0, hSW1, hSW2, hSW3, hSW4, hSW5, hSW6⟩ := hSW; go_simp; first | done | with_reducible rfl
        (try simp only [Act.put, List.setIfInBounds_toArray, List.set_cons_zero, List.set_cons_succ])
        refine wpAnyH_take (i := 8) (oi := ⟨some 34, _, _, _, _, _⟩) (v := ?_) rfl (by kernel_rfl) (by kernel_rfl) (by kernel_rfl) (fun _ _ _ h => h) (Or.inl ⟨by rfl, ?_⟩) hHeld ?_
        rotate_left
        · intro W hSW; obtain ⟨hSW0, hSW1, hSW2, hSW3, hSW4, hSW5, hSW6⟩ := hSW; go_simp; first | done | with_reducible rfl
        (try simp only [Act.put, List.setIfInBounds_toArray, List.set_cons_zero, List.set_cons_succ])
        refine wpAnyH_take (i := 9) (oi := ⟨some 35, _, _, _, _, _⟩) (v := ?_) rfl (by kernel_rfl) (by kernel_rfl) (by kernel_rfl) (fun _ _ _ h => h) (Or.inl ⟨by rfl, ?_⟩) hHeld ?_
        rotate_left
        · intro W hSW; obtain ⟨hSW0, hSW1, hSW2, hSW3, hSW4, hSW5, hSW6⟩ := hSW; go_simp; first | done | with_reducible rfl
        (try simp only [Act.put, List.setIfInBounds_toArray, List.set_cons_zero, List.set_cons_succ])
        refine wpAnyH_take (i := 10) (oi := ⟨some 36, _, _, _, _, _⟩) (v := ?_) rfl (by kernel_rfl) (by kernel_rfl) (by kernel_rfl) (fun _ _ _ h => h) (Or.inl ⟨by rfl, ?_⟩) hHeld ?_
        rotate_left
        · intro W hSW; obtain ⟨hSW0, hSW1, hSW2, hSW3, hSW4, hSW5, hSW6⟩ := hSW; go_simp; first | done | with_reducible rfl
        (try simp only [Act.put, List.setIfInBounds_toArray, List.set_cons_zero, List.set_cons_succ])
        refine wpAnyH_take (i := 11) (oi := ⟨some 37, _, _, _, _, _⟩) (v := ?_) rfl (by kernel_rfl) (by kernel_rfl) (by kernel_rfl) (fun _ _ _ h => h) (Or.inl ⟨by rfl, ?_⟩) hHeld ?_
        rotate_left
        · intro W hSW; obtain ⟨hSW0, hSW1, hSW2, hSW3, hSW4, hSW5, hSW6⟩ := hSW; go_simp; first | done | with_reducible rfl
        (try simp only [Act.put, List.setIfInBounds_toArray, List.set_cons_zero, List.set_cons_succ])
        refine wpAnyH_take (i := 12) (oi := ⟨some 38, _, _, _, _, _⟩) (v := ?_) rfl (by kernel_rfl) (by kernel_rfl) (by kernel_rfl) (fun _ _ _ h => h) (Or.inl ⟨by rfl, ?_⟩) hHeld ?_
        rotate_left
        · intro W hSW; obtain ⟨hSW0, hSW1, hSW2, hSW3, hSW4, hSW5, hSW6⟩ := hSW; go_simp; first | done | with_reducible rfl
        (try simp only [Act.put, List.setIfInBounds_toArray, List.set_cons_zero, List.set_cons_succ])
        refine wpAnyH_take (i := 13) (oi := ⟨some 39, _, _, _, _, _⟩) (v := ?_) rfl (by kernel_rfl) (by kernel_rfl) (by kernel_rfl) (fun _ _ _ h => h) (Or.inl ⟨by rfl, ?_⟩) hHeld ?_
        rotate_left
        · intro W hSW; obtain ⟨hSW0, hSW1, hSW2, hSW3, hSW4, hSW5, hSW6⟩ := hSW; go_simp; first | done | with_reducible rfl
        (try simp only [Act.put, List.setIfInBounds_toArray, List.set_cons_zero, List.set_cons_succ])
        refine wpAnyH_take (i := 14) (oi := ⟨some 40, _, _, _, _, _⟩) (v := ?_) rfl (by kernel_rfl) (by kernel_rfl) (by kernel_rfl) (fun _ _ _ h => h) (Or.inl ⟨by rfl, ?_⟩) hHeld ?_
        rotate_left
        · intro W hSW; obtain ⟨hSW0, hSW1, hSW2, hSW3, hSW4, hSW5, hSW6⟩ := hSW; go_simp; first | done | with_reducible rfl
        (try simp only [Act.put, List.setIfInBounds_toArray, List.set_cons_zero, List.set_cons_succ])
        refine wpAnyH_take (i := 15) (oi := ⟨some 41, _, _, _, _, _⟩) (v := ?_) rfl (by kernel_rfl) (by kernel_rfl) (by kernel_rfl) (fun _ _ _ h => h) (Or.inl ⟨by rfl, ?_⟩) hHeld ?_
        rotate_left
        · intro W hSW; obtain ⟨hSW0, hSW1, hSW2, hSW3, hSW4, hSW5, hSW6⟩ := hSW; go_simp; first | done | with_reducible rfl
        (try simp only [Act.put, List.setIfInBounds_toArray, List.set_cons_zero, List.set_cons_succ])
        refine wpAnyH_take (i := 16) (oi := ⟨some 42, _, _, _, _, _⟩) (v := ?_) rfl (by kernel_rfl) (by kernel_rfl) (by kernel_rfl) (fun _ _ _ h => h) (Or.inl ⟨by rfl, ?_⟩) hHeld ?_
        rotate_left
        · intro W hSW; obtain ⟨hSW0, hSW1, hSW2, hSW3, hSW4, hSW5, hSW6⟩ := hSW; go_simp; first | done | with_reducible rfl
        (try simp only [Act.put, List.setIfInBounds_toArray, List.set_cons_zero, List.set_cons_succ])
        refine wpAnyH_take (i := 17) (oi := ⟨some 43, _, _, _, _, _⟩) (v := ?_) rfl (by kernel_rfl) (by kernel_rfl) (by kernel_rfl) (fun _ _ _ h => h) (Or.inl ⟨by rfl, ?_⟩) hHeld ?_
        rotate_left
        · intro W hSW; obtain ⟨hSW0, hSW1, hSW2, hSW3, hSW4, hSW5, hSW6⟩ := hSW; go_simp; first | done | with_reducible rfl
        (try simp only [Act.put, List.setIfInBounds_toArray, List.set_cons_zero, List.set_cons_succ])
        refine wpAnyH_take (i := 18) (oi := ⟨some 44, _, _, _, _, _⟩) (v := ?_) rfl (by kernel_rfl) (by kernel_rfl) (by kernel_rfl) (fun _ _ _ h => h) (Or.inl ⟨by rfl, ?_⟩) hHeld ?_
        rotate_left
        · intro W hSW; obtain ⟨hSW0, hSW1, hSW2, hSW3, hSW4, hSW5, hSW6⟩ := hSW; go_simp; first | done | with_reducible rfl
        (try simp only [Act.put, List.setIfInBounds_toArray, List.set_cons_zero, List.set_cons_succ])
        refine wpAnyH_take (i := 19) (oi := ⟨some 45, _, _, _, _, _⟩) (v := ?_) rfl (by kernel_rfl) (by kernel_rfl) (by kernel_rfl) (fun _ _ _ h => h) (Or.inl ⟨by rfl, ?_⟩) hHeld ?_
        rotate_left
        · intro W hSW; obtain ⟨hSW0, hSW1, hSW2, hSW3, hSW4, hSW5, hSW6⟩ := hSW; go_simp; first | done | with_reducible rfl
        (try simp only [Act.put, List.setIfInBounds_toArray, List.set_cons_zero, List.set_cons_succ])
        refine wpAnyH_take (i := 20) (oi := ⟨some 46, _, _, _, _, _⟩) (v := ?_) rfl (by kernel_rfl) (by kernel_rfl) (by kernel_rfl) (fun _ _ _ h => h) (Or.inl ⟨by rfl, ?_⟩) hHeld ?_
        rotate_left
        · intro W hSW; obtain ⟨hSW0, hSW1, hSW2, hSW3, hSW4, hSW5, hSW6⟩ := hSW; go_simp; first | done | with_reducible rfl
        (try simp only [Act.put, List.setIfInBounds_toArray, List.set_cons_zero, List.set_cons_succ])
        refine wpAnyH_take (i := 21) (oi := ⟨some 47, _, _, _, _, _⟩) (v := ?_) rfl (by kernel_rfl) (by kernel_rfl) (by kernel_rfl) (fun _ _ _ h => h) (Or.inl ⟨by rfl, ?_⟩) hHeld ?_
        rotate_left
        · intro W hSW; obtain ⟨hSW0, hSW1, hSW2, hSW3, hSW4, hSW5, hSW6⟩ := hSW; go_simp; first | done | with_reducible rfl
        (try simp only [Act.put, List.setIfInBounds_toArray, List.set_cons_zero, List.set_cons_succ])
        refine wpAnyH_take (i := 22) (oi := ⟨some 48, _, _, _, _, _⟩) (v := ?_) rfl (by kernel_rfl) (by kernel_rfl) (by kernel_rfl) (fun _ _ _ h => h) (Or.inl ⟨by rfl, ?_⟩) hHeld ?_
        rotate_left
        · intro W hSW; obtain ⟨hSW0, hSW1, hSW2, hSW3, hSW4, hSW5, hSW6⟩ := hSW; go_simp; first | done | with_reducible rfl
        (try simp only [Act.put, List.setIfInBounds_toArray, List.set_cons_zero, List.set_cons_succ])
        refine wpAnyH_take (i := 23) (oi := ⟨some 49, _, _, _, _, _⟩) (v := ?_) rfl (by kernel_rfl) (by kernel_rfl) (by kernel_rfl) (fun _ _ _ h => h) (Or.inl ⟨by rfl, ?_⟩) hHeld ?_
        rotate_left
        · intro W hSW; obtain ⟨hSW0, hSW1, hSW2, hSW3, hSW4, hSW5, hSW6⟩ := hSW; go_simp; first | done | with_reducible rfl
        (try simp only [Act.put, List.setIfInBounds_toArray, List.set_cons_zero, List.set_cons_succ])
        refine wpAnyH_take (i := 24) (oi := ⟨some 50, _, _, _, _, _⟩) (v := ?_) rfl (by kernel_rfl) (by kernel_rfl) (by kernel_rfl) (fun _ _ _ h => h) (Or.inl ⟨by rfl, ?_⟩) hHeld ?_
        rotate_left
        · intro W hSW; obtain ⟨hSW0, hSW1, hSW2, hSW3, hSW4, hSW5, hSW6⟩ := hSW; go_simp; first | done | with_reducible rfl
        (try simp only [Act.put, List.setIfInBounds_toArray, List.set_cons_zero, List.set_cons_succ])
        refine wpAnyH_take (i := 25) (oi := ⟨some 51, _, _, _, _, _⟩) (v := ?_) rfl (by kernel_rfl) (by kernel_rfl) (by kernel_rfl) (fun _ _ _ h => h) (Or.inl ⟨by rfl, ?_⟩) hHeld ?_
        rotate_left
        · intro W hSW; obtain ⟨hSW0, hSW1, hSW2, hSW3, hSW4, hSW5, hSW6⟩ := hSW; go_simp; first | done | with_reducible rfl
        (try simp only [Act.put, List.setIfInBounds_toArray, List.set_cons_zero, List.set_cons_succ])
        refine wpAnyH_take (i := 28) (oi := ⟨some 54, _, _, _, _, _⟩) (v := ?_) rfl (by kernel_rfl) (by kernel_rfl) (by kernel_rfl) (fun _ _ _ h => h) (Or.inl ⟨by rfl, ?_⟩) hHeld ?_
        rotate_left
        · intro W hSW; obtain ⟨hSW0, hSW1, hSW2, hSW3, hSW4, hSW5, hSW6⟩ := hSW; go_simp; first | done | with_reducible rfl
        (try simp only [Act.put, List.setIfInBounds_toArray, List.set_cons_zero, List.set_cons_succ])
        refine wpAnyH_take (i := 29) (oi := ⟨some 55, _, _, _, _, _⟩) (v := ?_) rfl (by kernel_rfl) (by kernel_rfl) (by kernel_rfl) (fun _ _ _ h => h) (Or.inl ⟨by rfl, ?_⟩) hHeld ?_
        rotate_left
        · intro W hSW; obtain ⟨hSW0, hSW1, hSW2, hSW3, hSW4, hSW5, hSW6⟩ := hSW; go_simp; first | done | with_reducible rfl
        (try simp only [Act.put, List.setIfInBounds_toArray, List.set_cons_zero, List.set_cons_succ])
        refine wpAnyH_take (i := 30) (oi := ⟨some 56, _, _, _, _, _⟩) (v := ?_) rfl (by kernel_rfl) (by kernel_rfl) (by kernel_rfl) (fun _ _ _ h => h) (Or.inl ⟨by rfl, ?_⟩) hHeld ?_
        rotate_left
        · intro W hSW; obtain ⟨hSW0, hSW1, hSW2, hSW3, hSW4, hSW5, hSW6⟩ := hSW; go_simp; first | done | with_reducible rfl
        (try simp only [Act.put, List.setIfInBounds_toArray, List.set_cons_zero, List.set_cons_succ])
        refine wpAnyH_ready (rs := [26]) (by kernel_rfl) (by simp) ?_
        refine AllReadyH.cons (o := ⟨some 52, _, _, _, _, _⟩) rfl (fun K hK => ?_) (AllReadyH.nil)
        go_simp
        go_at_call 14
        refine (bitsC16 len x1).mono ?_
        rintro e x2 ⟨rfl, rfl⟩
        clear hHeld
        refine hK.out _ _ ?_ (fun hHeld => ?_)
        · exact HS.out x1 bS1
        clear hK K
        (try simp only [Act.put, List.setIfInBounds_toArray, List.set_cons_zero, List.set_cons_succ])
        refine wpAnyH_take (i := 27) (oi := ⟨some 53, _, _, _, _, _⟩) (v := ?_) rfl (by kernel_rfl) (by kernel_rfl) (by kernel_rfl) (fun _ _ _ h => h) (Or.inl ⟨by rfl, ?_⟩) hHeld ?_
        rotate_left
        · intro W hSW; obtain ⟨hSW0, hSW1, hSW2, hSW3, hSW4, hSW5, hSW6⟩ := hSW; go_simp; first | done | with_reducible rfl
        (try simp only [Act.put, List.setIfInBounds_toArray, List.set_cons_zero, List.set_cons_succ])
        refine wpAnyH_take (i := 31) (oi := ⟨some 57, _, _, _, _, _⟩) (v := ?_) rfl (by kernel_rfl) (by kernel_rfl) (by kernel_rfl) (fun _ _ _ h => h) (Or.inl ⟨by rfl, ?_⟩) hHeld ?_
        rotate_left
        · intro W hSW; obtain ⟨hSW0, hSW1, hSW2, hSW3, hSW4, hSW5, hSW6⟩ := hSW; go_simp; first | done | with_reducible rfl
        (try simp only [Act.put, List.setIfInBounds_toArray, List.set_cons_zero, List.set_cons_succ])
        refine wpAnyH_take (i := 32) (oi := ⟨some 58, _, _, _, _, _⟩) (v := ?_) rfl (by kernel_rfl) (by kernel_rfl) (by kernel_rfl) (fun _ _ _ h => h) (Or.inl ⟨by rfl, ?_⟩) hHeld ?_
        rotate_left
        · intro W hSW; obtain ⟨hSW0, hSW1, hSW2, hSW3, hSW4, hSW5, hSW6⟩ := hSW; go_simp; first | done | with_reducible rfl
        (try simp only [Act.put, List.setIfInBounds_toArray, List.set_cons_zero, List.set_cons_succ])
        refine wpAnyH_take (i := 33) (oi := ⟨some 59, _, _, _, _, _⟩) (v := ?_) rfl (by kernel_rfl) (by kernel_rfl) (by kernel_rfl) (fun _ _ _ h => h) (Or.inl ⟨by rfl, ?_⟩) hHeld ?_
        rotate_left
        · intro W hSW; obtain ⟨hSW0, hSW1, hSW2, hSW3, hSW4, hSW5, hSW6⟩ := hSW; go_simp; first | done | with_reducible rfl
        (try simp only [Act.put, List.setIfInBounds_toArray, List.set_cons_zero, List.set_cons_succ])
        refine wpAnyH_take (i := 34) (oi := ⟨some 60, _, _, _, _, _⟩) (v := ?_) rfl (by kernel_rfl) (by kernel_rfl) (by kernel_rfl) (fun _ _ _ h => h) (Or.inl ⟨by rfl, ?_⟩) hHeld ?_
        rotate_left
        · intro W hSW; obtain ⟨hSW0, hSW1, hSW2, hSW3, hSW4, hSW5, hSW6⟩ := hSW; go_simp; first | done | with_reducible rfl
        (try simp only [Act.put, List.setIfInBounds_toArray, List.set_cons_zero, List.set_cons_succ])
        refine wpAnyH_take (i := 35) (oi := ⟨some 61, _, _, _, _, _⟩) (v := ?_) rfl (by kernel_rfl) (by kernel_rfl) (by kernel_rfl) (fun _ _ _ h => h) (Or.inl ⟨by rfl, ?_⟩) hHeld ?_
        rotate_left
        · intro W hSW; obtain ⟨hSW0, hSW1, hSW2, hSW3, hSW4, hSW5, hSW6⟩ := hSW; go_simp; first | done | with_reducible rfl
        (try simp only [Act.put, List.setIfInBounds_toArray, List.set_cons_zero, List.set_cons_succ])
        refine wpAnyH_take (i := 36) (oi := ⟨some 62, _, _, _, _, _⟩) (v := ?_) rfl (by kernel_rfl) (by kernel_rfl) (by kernel_rfl) (fun _ _ _ h => h) (Or.inl ⟨by rfl, ?_⟩) hHeld ?_
        rotate_left
        · intro W hSW; obtain ⟨hSW0, hSW1, hSW2, hSW3, hSW4, hSW5, hSW6⟩ := hSW; go_simp; first | done | with_reducible rfl
        (try simp only [Act.put, List.setIfInBounds_toArray, List.set_cons_zero, List.set_cons_succ])
        refine wpAnyH_take (i := 37) (oi := ⟨some 63, _, _, _, _, _⟩) (v := ?_) rfl (by kernel_rfl) (by kernel_rfl) (by kernel_rfl) (fun _ _ _ h => h) (Or.inl ⟨by rfl, ?_⟩) hHeld ?_
        rotate_left
        · intro W hSW; obtain ⟨hSW0, hSW1, hSW2, hSW3, hSW4, hSW5, hSW6⟩ := hSW; go_simp; first | done | with_reducible rfl
        (try simp only [Act.put, List.setIfInBounds_toArray, List.set_cons_zero, List.set_cons_succ])
        refine wpAnyH_done (by kernel_rfl) ?_ _
        refine NoPanic.normal ?_
        clear hHeld
        go_wp2_with fail
        go_meet
        case rel => exact ⟨by first | rfl | (rw [tf]; rfl), bS1⟩
      · have t2 : decide (len ≤ 64) = false := by simp; omega
        have tf : (fb len != 0) = false := by unfold fb; rw [if_neg (by omega)]; simp
        clear hl0 hl1
        refine wp_region_noPanic ?_
        have s0 := HS.out w5.drew (Below.refl w5.heap.size w5).drew
        refine wp_region_held_drew (S := (fun W : World => (convert 22 9 (.slice A4 n4 c4)).run Tryd.prog W = .ok (.string sw) W ∧ (convert 22 9 (.slice A5 n5 c5)).run Tryd.prog W = .ok (.string sw) W ∧ (convert 22 9 (.slice A3 n3 c3)).run Tryd.prog W = .ok (.string sb) W ∧ (convert 22 9 (.slice A2 n2 c2)).run Tryd.prog W = .ok (.string sb) W ∧ W.cell? ⟨g3, 4, none⟩ = some (.slice A3 n3 c3) ∧ W.cell? ⟨g1, 4, none⟩ = some (.slice A2 n2 c2) ∧ W.cell? ⟨g1, 3, none⟩ = some (.int .i64 len))) (by kernel_rfl) s0 (fun hHeld => ?_)
        clear s0
        refine wpAnyH_ready (rs := [0]) (by kernel_rfl) (by simp) ?_
        refine AllReadyH.cons (o := ⟨some 26, _, _, _, _, _⟩) rfl (fun K hK => ?_) (AllReadyH.nil)
        go_simp
        go_at_call 13
        refine (CF.out w5.drew (Below.refl w5.heap.size w5).drew).mono ?_
        rintro e x1 ⟨rfl, h1⟩
        have bS1 : Below w5.heap.size w5 x1 := Below.then_ (Below.refl w5.heap.size w5).drew h1
        clear hHeld
        refine hK.out _ _ ?_ (fun hHeld => ?_)
        · exact HS.out x1 bS1
        clear hK K
        (try simp only [Act.put, List.setIfInBounds_toArray, List.set_cons_zero, List.set_cons_succ])
        refine wpAnyH_take (i := 1) (oi := ⟨some 27, _, _, _, _, _⟩) (v := ?_) rfl (by kernel_rfl) (by kernel_rfl) (by kernel_rfl) (fun _ _ _ h => h) (Or.inl ⟨by rfl, ?_⟩) hHeld ?_
        rotate_left
        · intro W hSW; obtain ⟨hSW0, hSW1, hSW2, hSW3, hSW4, hSW5, hSW6⟩ := hSW; go_simp; first | done | with_reducible rfl
        (try simp only [Act.put, List.setIfInBounds_toArray, List.set_cons_zero, List.set_cons_succ])
        refine wpAnyH_take (i := 2) (oi := ⟨some 28, _, _, _, _, _⟩) (v := ?_) rfl (by kernel_rfl) (by kernel_rfl) (by kernel_rfl) (fun _ _ _ h => h) (Or.inl ⟨by rfl, ?_⟩) hHeld ?_
        rotate_left
        · intro W hSW; obtain ⟨hSW0, hSW1, hSW2, hSW3, hSW4, hSW5, hSW6⟩ := hSW; go_simp; first | done | with_reducible rfl
        (try simp only [Act.put, List.setIfInBounds_toArray, List.set_cons_zero, List.set_cons_succ])
        refine wpAnyH_take (i := 3) (oi := ⟨some 29, _, _, _, _, _⟩) (v := ?_) rfl (by kernel_rfl) (by kernel_rfl) (by kernel_rfl) (fun _ _ _ h => h) (Or.inl ⟨by rfl, ?_⟩) hHeld ?_
        rotate_left
        · intro W hSW; obtain ⟨hSW0, hSW1, hSW2, hSW3, hSW4, hSW5, hSW6⟩ := hSW; go_simp; first | done | with_reducible rfl
        (try simp only [Act.put, List.setIfInBounds_toArray, List.set_cons_zero, List.set_cons_succ])
        refine wpAnyH_take (i := 4) (oi := ⟨some 30, _, _, _, _, _⟩) (v := ?_) rfl (by kernel_rfl) (by kernel_rfl) (by kernel_rfl) (fun _ _ _ h => h) (Or.inl ⟨by rfl, ?_⟩) hHeld ?_
        rotate_left
        · intro W hSW; obtain ⟨hSW0, hSW1, hSW2, hSW3, hSW4, hSW5, hSW6⟩ := hSW; go_simp; first | done | with_reducible rfl
        (try simp only [Act.put, List.setIfInBounds_toArray, List.set_cons_zero, List.set_cons_succ])
        refine wpAnyH_take (i := 5) (oi := ⟨some 31, _, _, _, _, _⟩) (v := ?_) rfl (by kernel_rfl) (by kernel_rfl) (by kernel_rfl) (fun _ _ _ h => h) (Or.inl ⟨by rfl, ?_⟩) hHeld ?_
        rotate_left
        · intro W hSW; obtain ⟨hSW0, hSW1, hSW2, hSW3, hSW4, hSW5, hSW6⟩ := hSW; go_simp; first | done | with_reducible rfl
        (try simp only [Act.put, List.setIfInBounds_toArray, List.set_cons_zero, List.set_cons_succ])
        refine wpAnyH_take (i := 6) (oi := ⟨some 32, _, _, _, _, _⟩) (v := ?_) rfl (by kernel_rfl) (by kernel_rfl) (by kernel_rfl) (fun _ _ _ h => h) (Or.inl ⟨by rfl, ?_⟩) hHeld ?_
        rotate_left
        · intro W hSW; obtain ⟨hSW0, hSW1, hSW2, hSW3, hSW4, hSW5, hSW6⟩ := hSW; go_simp; first | done | with_reducible rfl
        (try simp only [Act.put, List.setIfInBounds_toArray, List.set_cons_zero, List.set_cons_succ])
        refine wpAnyH_take (i := 7) (oi := ⟨some 33, _, _, _, _, _⟩) (v := ?_) rfl (by kernel_rfl) (by kernel_rfl) (by kernel_rfl) (fun _ _ _ h => h) (Or.inl ⟨by rfl, ?_⟩) hHeld ?_
        rotate_left
        · intro W hSW; obtain ⟨hSW0, hSW1, hSW2, hSW3, hSW4, hSW5, hSW6⟩ := hSW; go_simp; first | done | with_reducible rfl
        (try simp only [Act.put, List.setIfInBounds_toArray, List.set_cons_zero, List.set_cons_succ])
        refine wpAnyH_take (i := 8) (oi := ⟨some 34, _, _, _, _, _⟩) (v := ?_) rfl (by kernel_rfl) (by kernel_rfl) (by kernel_rfl) (fun _ _ _ h => h) (Or.inl ⟨by rfl, ?_⟩) hHeld ?_
        rotate_left
        · intro W hSW; obtain ⟨hSW0, hSW1, hSW2, hSW3, hSW4, hSW5, hSW6⟩ := hSW; go_simp; first | done | with_reducible rfl
        (try simp only [Act.put, List.setIfInBounds_toArray, List.set_cons_zero, List.set_cons_succ])
        refine wpAnyH_take (i := 9) (oi := ⟨some 35, _, _, _, _, _⟩) (v := ?_) rfl (by kernel_rfl) (by kernel_rfl) (by kernel_rfl) (fun _ _ _ h => h) (Or.inl ⟨by rfl, ?_⟩) hHeld ?_
        rotate_left
        · intro W hSW; obtain ⟨hSW0, hSW1, hSW2, hSW3, hSW4, hSW5, hSW6⟩ := hSW; go_simp; first | done | with_reducible rfl
        (try simp only [Act.put, List.setIfInBounds_toArray, List.set_cons_zero, List.set_cons_succ])
        refine wpAnyH_take (i := 10) (oi := ⟨some 36, _, _, _, _, _⟩) (v := ?_) rfl (by kernel_rfl) (by kernel_rfl) (by kernel_rfl) (fun _ _ _ h => h) (Or.inl ⟨by rfl, ?_⟩) hHeld ?_
        rotate_left
        · intro W hSW; obtain ⟨hSW0, hSW1, hSW2, hSW3, hSW4, hSW5, hSW6⟩ := hSW; go_simp; first | done | with_reducible rfl
        (try simp only [Act.put, List.setIfInBounds_toArray, List.set_cons_zero, List.set_cons_succ])
        refine wpAnyH_take (i := 11) (oi := ⟨some 37, _, _, _, _, _⟩) (v := ?_) rfl (by kernel_rfl) (by kernel_rfl) (by kernel_rfl) (fun _ _ _ h => h) (Or.inl ⟨by rfl, ?_⟩) hHeld ?_
        rotate_left
        · intro W hSW; obtain ⟨hSW0, hSW1, hSW2, hSW3, hSW4, hSW5, hSW6⟩ := hSW; go_simp; first | done | with_reducible rfl
        (try simp only [Act.put, List.setIfInBounds_toArray, List.set_cons_zero, List.set_cons_succ])
        refine wpAnyH_take (i := 12) (oi := ⟨some 38, _, _, _, _, _⟩) (v := ?_) rfl (by kernel_rfl) (by kernel_rfl) (by kernel_rfl) (fun _ _ _ h => h) (Or.inl ⟨by rfl, ?_⟩) hHeld ?_
        rotate_left
        · intro W hSW; obtain ⟨hSW0, hSW1, hSW2, hSW3, hSW4, hSW5, hSW6⟩ := hSW; go_simp; first | done | with_reducible rfl
        (try simp only [Act.put, List.setIfInBounds_toArray, List.set_cons_zero, List.set_cons_succ])
        refine wpAnyH_take (i := 13) (oi := ⟨some 39, _, _, _, _, _⟩) (v := ?_) rfl (by kernel_rfl) (by kernel_rfl) (by kernel_rfl) (fun _ _ _ h => h) (Or.inl ⟨by rfl, ?_⟩) hHeld ?_
        rotate_left
        · intro W hSW; obtain ⟨hSW0, hSW1, hSW2, hSW3, hSW4, hSW5, hSW6⟩ := hSW; go_simp; first | done | with_reducible rfl
        (try simp only [Act.put, List.setIfInBounds_toArray, List.set_cons_zero, List.set_cons_succ])
        refine wpAnyH_take (i := 14) (oi := ⟨some 40, _, _, _, _, _⟩) (v := ?_) rfl (by kernel_rfl) (by kernel_rfl) (by kernel_rfl) (fun _ _ _ h => h) (Or.inl ⟨by rfl, ?_⟩) hHeld ?_
        rotate_left
        · intro W hSW; obtain ⟨hSW0, hSW1, hSW2, hSW3, hSW4, hSW5, hSW6⟩ := hSW; go_simp; first | done | with_reducible rfl
        (try simp only [Act.put, List.setIfInBounds_toArray, List.set_cons_zero, List.set_cons_succ])
        refine wpAnyH_take (i := 15) (oi := ⟨some 41, _, _, _, _, _⟩) (v := ?_) rfl (by kernel_rfl) (by kernel_rfl) (by kernel_rfl) (fun _ _ _ h => h) (Or.inl ⟨by rfl, ?_⟩) hHeld ?_
        rotate_left
        · intro W hSW; obtain ⟨hSW0, hSW1, hSW2, hSW3, hSW4, hSW5, hSW6⟩ := hSW; go_simp; first | done | with_reducible rfl
        (try simp only [Act.put, List.setIfInBounds_toArray, List.set_cons_zero, List.set_cons_succ])
        refine wpAnyH_take (i := 16) (oi := ⟨some 42, _, _, _, _, _⟩) (v := ?_) rfl (by kernel_rfl) (by kernel_rfl) (by kernel_rfl) (fun _ _ _ h => h) (Or.inl ⟨by rfl, ?_⟩) hHeld ?_
        rotate_left
        · intro W hSW; obtain ⟨hSW0, hSW1, hSW2, hSW3, hSW4, hSW5, hSW6⟩ := hSW; go_simp; first | done | with_reducible rfl
        (try simp only [Act.put, List.setIfInBounds_toArray, List.set_cons_zero, List.set_cons_succ])
        refine wpAnyH_take (i := 17) (oi := ⟨some 43, _, _, _, _, _⟩) (v := ?_) rfl (by kernel_rfl) (by kernel_rfl) (by kernel_rfl) (fun _ _ _ h => h) (Or.inl ⟨by rfl, ?_⟩) hHeld ?_
        rotate_left
        · intro W hSW; obtain ⟨hSW0, hSW1, hSW2, hSW3, hSW4, hSW5, hSW6⟩ := hSW; go_simp; first | done | with_reducible rfl
        (try simp only [Act.put, List.setIfInBounds_toArray, List.set_cons_zero, List.set_cons_succ])
        refine wpAnyH_take (i := 18) (oi := ⟨some 44, _, _, _, _, _⟩) (v := ?_) rfl (by kernel_rfl) (by kernel_rfl) (by kernel_rfl) (fun _ _ _ h => h) (Or.inl ⟨by rfl, ?_⟩) hHeld ?_
        rotate_left
        · intro W hSW; obtain ⟨hSW0, hSW1, hSW2, hSW3, hSW4, hSW5, hSW6⟩ := hSW; go_simp; first | done | with_reducible rfl
        (try simp only [Act.put, List.setIfInBounds_toArray, List.set_cons_zero, List.set_cons_succ])
        refine wpAnyH_take (i := 19) (oi := ⟨some 45, _, _, _, _, _⟩) (v := ?_) rfl (by kernel_rfl) (by kernel_rfl) (by kernel_rfl) (fun _ _ _ h => h) (Or.inl ⟨by rfl, ?_⟩) hHeld ?_
        rotate_left
        · intro W hSW; obtain ⟨hSW0, hSW1, hSW2, hSW3, hSW4, hSW5, hSW6⟩ := hSW; go_simp; first | done | with_reducible rfl
        (try simp only [Act.put, List.setIfInBounds_toArray, List.set_cons_zero, List.set_cons_succ])
        refine wpAnyH_take (i := 20) (oi := ⟨some 46, _, _, _, _, _⟩) (v := ?_) rfl (by kernel_rfl) (by kernel_rfl) (by kernel_rfl) (fun _ _ _ h => h) (Or.inl ⟨by rfl, ?_⟩) hHeld ?_
        rotate_left
        · intro W hSW; obtain ⟨hSW0, hSW1, hSW2, hSW3, hSW4, hSW5, hSW6⟩ := hSW; go_simp; first | done | with_reducible rfl
        (try simp only [Act.put, List.setIfInBounds_toArray, List.set_cons_zero, List.set_cons_succ])
        refine wpAnyH_take (i := 21) (oi := ⟨some 47, _, _, _, _, _⟩) (v := ?_) rfl (by kernel_rfl) (by kernel_rfl) (by kernel_rfl) (fun _ _ _ h => h) (Or.inl ⟨by rfl, ?_⟩) hHeld ?_
        rotate_left
        · intro W hSW; obtain ⟨hSW0, hSW1, hSW2, hSW3, hSW4, hSW5, hSW6⟩ := hSW; go_simp; first | done | with_reducible rfl
        (try simp only [Act.put, List.setIfInBounds_toArray, List.set_cons_zero, List.set_cons_succ])
        refine wpAnyH_take (i := 22) (oi := ⟨some 48, _, _, _, _, _⟩) (v := ?_) rfl (by kernel_rfl) (by kernel_rfl) (by kernel_rfl) (fun _ _ _ h => h) (Or.inl ⟨by rfl, ?_⟩) hHeld ?_
        rotate_left
        · intro W hSW; obtain ⟨hSW0, hSW1, hSW2, hSW3, hSW4, hSW5, hSW6⟩ := hSW; go_simp; first | done | with_reducible rfl
        (try simp only [Act.put, List.setIfInBounds_toArray, List.set_cons_zero, List.set_cons_succ])
        refine wpAnyH_take (i := 23) (oi := ⟨some 49, _, _, _, _, _⟩) (v := ?_) rfl (by kernel_rfl) (by kernel_rfl) (by kernel_rfl) (fun _ _ _ h => h) (Or.inl ⟨by rfl, ?_⟩) hHeld ?_
        rotate_left
        · intro W hSW; obtain ⟨hSW0, hSW1, hSW2, hSW3, hSW4, hSW5, hSW6⟩ := hSW; go_simp; first | done | with_reducible rfl
        (try simp only [Act.put, List.setIfInBounds_toArray, List.set_cons_zero, List.set_cons_succ])
        refine wpAnyH_take (i := 24) (oi := ⟨some 50, _, _, _, _, _⟩) (v := ?_) rfl (by kernel_rfl) (by kernel_rfl) (by kernel_rfl) (fun _ _ _ h => h) (Or.inl ⟨by rfl, ?_⟩) hHeld ?_
        rotate_left
        · intro W hSW; obtain ⟨hSW0, hSW1, hSW2, hSW3, hSW4, hSW5, hSW6⟩ := hSW; go_simp; first | done | with_reducible rfl
        (try simp only [Act.put, List.setIfInBounds_toArray, List.set_cons_zero, List.set_cons_succ])
        refine wpAnyH_take (i := 25) (oi := ⟨some 51, _, _, _, _, _⟩) (v := ?_) rfl (by kernel_rfl) (by kernel_rfl) (by kernel_rfl) (fun _ _ _ h => h) (Or.inl ⟨by rfl, ?_⟩) hHeld ?_
        rotate_left
        · intro W hSW; obtain ⟨hSW0, hSW1, hSW2, hSW3, hSW4, hSW5, hSW6⟩ := hSW; go_simp; first | done | with_reducible rfl
        (try simp only [Act.put, List.setIfInBounds_toArray, List.set_cons_zero, List.set_cons_succ])
        refine wpAnyH_take (i := 28) (oi := ⟨some 54, _, _, _, _, _⟩) (v := ?_) rfl (by kernel_rfl) (by kernel_rfl) (by kernel_rfl) (fun _ _ _ h => h) (Or.inl ⟨by rfl, ?_⟩) hHeld ?_
        rotate_left
        · intro W hSW; obtain ⟨hSW0, hSW1, hSW2, hSW3, hSW4, hSW5, hSW6⟩ := hSW; go_simp; first | done | with_reducible rfl
        (try simp only [Act.put, List.setIfInBounds_toArray, List.set_cons_zero, List.set_cons_succ])
        refine wpAnyH_take (i := 29) (oi := ⟨some 55, _, _, _, _, _⟩) (v := ?_) rfl (by kernel_rfl) (by kernel_rfl) (by kernel_rfl) (fun _ _ _ h => h) (Or.inl ⟨by rfl, ?_⟩) hHeld ?_
        rotate_left
        · intro W hSW; obtain ⟨hSW0, hSW1, hSW2, hSW3, hSW4, hSW5, hSW6⟩ := hSW; go_simp; first | done | with_reducible rfl
        (try simp only [Act.put, List.setIfInBounds_toArray, List.set_cons_zero, List.set_cons_succ])
        refine wpAnyH_take (i := 30) (oi := ⟨some 56, _, _, _, _, _⟩) (v := ?_) rfl (by kernel_rfl) (by kernel_rfl) (by kernel_rfl) (fun _ _ _ h => h) (Or.inl ⟨by rfl, ?_⟩) hHeld ?_
        rotate_left
        · intro W hSW; obtain ⟨hSW0, hSW1, hSW2, hSW3, hSW4, hSW5, hSW6⟩ := hSW; go_simp; first | done | with_reducible rfl
        (try simp only [Act.put, List.setIfInBounds_toArray, List.set_cons_zero, List.set_cons_succ])
        refine wpAnyH_ready (rs := [26]) (by kernel_rfl) (by simp) ?_
        refine AllReadyH.cons (o := ⟨some 52, _, _, _, _, _⟩) rfl (fun K hK => ?_) (AllReadyH.nil)
        go_simp
        go_at_call 14
        refine (bitsC16 len x1).mono ?_
        rintro e x2 ⟨rfl, rfl⟩
        clear hHeld
        refine hK.out _ _ ?_ (fun hHeld => ?_)
        · exact HS.out x1 bS1
        clear hK K
        (try simp only [Act.put, List.setIfInBounds_toArray, List.set_cons_zero, List.set_cons_succ])
        refine wpAnyH_take (i := 27) (oi := ⟨some 53, _, _, _, _, _⟩) (v := ?_) rfl (by kernel_rfl) (by kernel_rfl) (by kernel_rfl) (fun _ _ _ h => h) (Or.inl ⟨by rfl, ?_⟩) hHeld ?_
        rotate_left
        · intro W hSW; obtain ⟨hSW0, hSW1, hSW2, hSW3, hSW4, hSW5, hSW6⟩ := hSW; go_simp; first | done | with_reducible rfl
        (try simp only [Act.put, List.setIfInBounds_toArray, List.set_cons_zero, List.set_cons_succ])
        refine wpAnyH_take (i := 31) (oi := ⟨some 57, _, _, _, _, _⟩) (v := ?_) rfl (by kernel_rfl) (by kernel_rfl) (by kernel_rfl) (fun _ _ _ h => h) (Or.inl ⟨by rfl, ?_⟩) hHeld ?_
        rotate_left
        · intro W hSW; obtain ⟨hSW0, hSW1, hSW2, hSW3, hSW4, hSW5, hSW6⟩ := hSW; go_simp; first | done | with_reducible rfl
        (try simp only [Act.put, List.setIfInBounds_toArray, List.set_cons_zero, List.set_cons_succ])
        refine wpAnyH_take (i := 32) (oi := ⟨some 58, _, _, _, _, _⟩) (v := ?_) rfl (by kernel_rfl) (by kernel_rfl) (by kernel_rfl) (fun _ _ _ h => h) (Or.inl ⟨by rfl, ?_⟩) hHeld ?_
        rotate_left
        · intro W hSW; obtain ⟨hSW0, hSW1, hSW2, hSW3, hSW4, hSW5, hSW6⟩ := hSW; go_simp; first | done | with_reducible rfl
        (try simp only [Act.put, List.setIfInBounds_toArray, List.set_cons_zero, List.set_cons_succ])
        refine wpAnyH_take (i := 33) (oi := ⟨some 59, _, _, _, _, _⟩) (v := ?_) rfl (by kernel_rfl) (by kernel_rfl) (by kernel_rfl) (fun _ _ _ h => h) (Or.inl ⟨by rfl, ?_⟩) hHeld ?_
        rotate_left
        · intro W hSW; obtain ⟨hSW0, hSW1, hSW2, hSW3, hSW4, hSW5, hSW6⟩ := hSW; go_simp; first | done | with_reducible rfl
        (try simp only [Act.put, List.setIfInBounds_toArray, List.set_cons_zero, List.set_cons_succ])
        refine wpAnyH_take (i := 34) (oi := ⟨some 60, _, _, _, _, _⟩) (v := ?_) rfl (by kernel_rfl) (by kernel_rfl) (by kernel_rfl) (fun _ _ _ h => h) (Or.inl ⟨by rfl, ?_⟩) hHeld ?_
        rotate_left
        · intro W hSW; obtain ⟨hSW0, hSW1, hSW2, hSW3, hSW4, hSW5, hSW6⟩ := hSW; go_simp; first | done | with_reducible rfl
        (try simp only [Act.put, List.setIfInBounds_toArray, List.set_cons_zero, List.set_cons_succ])
        refine wpAnyH_take (i := 35) (oi := ⟨some 61, _, _, _, _, _⟩) (v := ?_) rfl (by kernel_rfl) (by kernel_rfl) (by kernel_rfl) (fun _ _ _ h => h) (Or.inl ⟨by rfl, ?_⟩) hHeld ?_
        rotate_left
        · intro W hSW; obtain ⟨hSW0, hSW1, hSW2, hSW3, hSW4, hSW5, hSW6⟩ := hSW; go_simp; first | done | with_reducible rfl
        (try simp only [Act.put, List.setIfInBounds_toArray, List.set_cons_zero, List.set_cons_succ])
        refine wpAnyH_take (i := 36) (oi := ⟨some 62, _, _, _, _, _⟩) (v := ?_) rfl (by kernel_rfl) (by kernel_rfl) (by kernel_rfl) (fun _ _ _ h => h) (Or.inl ⟨by rfl, ?_⟩) hHeld ?_
        rotate_left
        · intro W hSW; obtain ⟨hSW0, hSW1, hSW2, hSW3, hSW4, hSW5, hSW6⟩ := hSW; go_simp; first | done | with_reducible rfl
        (try simp only [Act.put, List.setIfInBounds_toArray, List.set_cons_zero, List.set_cons_succ])
        refine wpAnyH_take (i := 37) (oi := ⟨some 63, _, _, _, _, _⟩) (v := ?_) rfl (by kernel_rfl) (by kernel_rfl) (by kernel_rfl) (fun _ _ _ h => h) (Or.inl ⟨by rfl, ?_⟩) hHeld ?_
        rotate_left
        · intro W hSW; obtain ⟨hSW0, hSW1, hSW2, hSW3, hSW4, hSW5, hSW6⟩ := hSW; go_simp; first | done | with_reducible rfl
        (try simp only [Act.put, List.setIfInBounds_toArray, List.set_cons_zero, List.set_cons_succ])
        refine wpAnyH_done (by kernel_rfl) ?_ _
        refine NoPanic.normal ?_
        clear hHeld
        go_wp2_with fail
        go_meet
        case rel => exact ⟨by first | rfl | (rw [tf]; rfl), bS1⟩
    · have t1 : decide (len ≥ 0) = false := by simp; omega
      have t1' : decide (0 ≤ len) = false := by simp; omega
      have tf : (fb len != 0) = false := by unfold fb; rw [if_neg (by omega)]; simp
      clear hl0
      refine wp_region_noPanic ?_
      have s0 := HS.out w5.drew (Below.refl w5.heap.size w5).drew
      refine wp_region_held_drew (S := (fun W : World => (convert 22 9 (.slice A4 n4 c4)).run Tryd.prog W = .ok (.string sw) W ∧ (convert 22 9 (.slice A5 n5 c5)).run Tryd.prog W = .ok (.string sw) W ∧ (convert 22 9 (.slice A3 n3 c3)).run Tryd.prog W = .ok (.string sb) W ∧ (convert 22 9 (.slice A2 n2 c2)).run Tryd.prog W = .ok (.string sb) W ∧ W.cell? ⟨g3, 4, none⟩ = some (.slice A3 n3 c3) ∧ W.cell? ⟨g1, 4, none⟩ = some (.slice A2 n2 c2) ∧ W.cell? ⟨g1, 3, none⟩ = some (.int .i64 len))) (by kernel_rfl) s0 (fun hHeld => ?_)
      clear s0
      refine wpAnyH_ready (rs := [0]) (by kernel_rfl) (by simp) ?_
      refine AllReadyH.cons (o := ⟨some 26, _, _, _, _, _⟩) rfl (fun K hK => ?_) (AllReadyH.nil)
      go_simp
      go_at_call 13
      refine (CF.out w5.drew (Below.refl w5.heap.size w5).drew).mono ?_
      rintro e x1 ⟨rfl, h1⟩
      have bS1 : Below w5.heap.size w5 x1 := Below.then_ (Below.refl w5.heap.size w5).drew h1
      clear hHeld
      refine hK.out _ _ ?_ (fun hHeld => ?_)
      · exact HS.out x1 bS1
      clear hK K
      (try simp only [Act.put, List.setIfInBounds_toArray, List.set_cons_zero, List.set_cons_succ])
      refine wpAnyH_take (i := 1) (oi := ⟨some 27, _, _, _, _, _⟩) (v := ?_) rfl (by kernel_rfl) (by kernel_rfl) (by kernel_rfl) (fun _ _ _ h => h) (Or.inl ⟨by rfl, ?_⟩) hHeld ?_
      rotate_left
      · intro W hSW; obtain ⟨hSW0, hSW1, hSW2, hSW3, hSW4, hSW5, hSW6⟩ := hSW; go_simp; first | done | with_reducible rfl
      (try simp only [Act.put, List.setIfInBounds_toArray, List.set_cons_zero, List.set_cons_succ])
      refine wpAnyH_take (i := 2) (oi := ⟨some 28, _, _, _, _, _⟩) (v := ?_) rfl (by kernel_rfl) (by kernel_rfl) (by kernel_rfl) (fun _ _ _ h => h) (Or.inl ⟨by rfl, ?_⟩) hHeld ?_
      rotate_left
      · intro W hSW; obtain ⟨hSW0, hSW1, hSW2, hSW3, hSW4, hSW5, hSW6⟩ := hSW; go_simp; first | done | with_reducible rfl
      (try simp only [Act.put, List.setIfInBounds_toArray, List.set_cons_zero, List.set_cons_succ])
      refine wpAnyH_take (i := 3) (oi := ⟨some 29, _, _, _, _, _⟩) (v := ?_) rfl (by kernel_rfl) (by kernel_rfl) (by kernel_rfl) (fun _ _ _ h => h) (Or.inl ⟨by rfl, ?_⟩) hHeld ?_
      rotate_left
      · intro W hSW; obtain ⟨hSW0, hSW1, hSW2, hSW3, hSW4, hSW5, hSW6⟩ := hSW; go_simp; first | done | with_reducible rfl
      (try simp only [Act.put, List.setIfInBounds_toArray, List.set_cons_zero, List.set_cons_succ])
      refine wpAnyH_take (i := 4) (oi := ⟨some 30, _, _, _, _, _⟩) (v := ?_) rfl (by kernel_rfl) (by kernel_rfl) (by kernel_rfl) (fun _ _ _ h => h) (Or.inl ⟨by rfl, ?_⟩) hHeld ?_
      rotate_left
      · intro W hSW; obtain ⟨hSW0, hSW1, hSW2, hSW3, hSW4, hSW5, hSW6⟩ := hSW; go_simp; first | done | with_reducible rfl
      (try simp only [Act.put, List.setIfInBounds_toArray, List.set_cons_zero, List.set_cons_succ])
      refine wpAnyH_take (i := 5) (oi := ⟨some 31, _, _, _, _, _⟩) (v := ?_) rfl (by kernel_rfl) (by kernel_rfl) (by kernel_rfl) (fun _ _ _ h => h) (Or.inl ⟨by rfl, ?_⟩) hHeld ?_
      rotate_left
      · intro W hSW; obtain ⟨hSW0, hSW1, hSW2, hSW3, hSW4, hSW5, hSW6⟩ := hSW; go_simp; first | done | with_reducible rfl
      (try simp only [Act.put, List.setIfInBounds_toArray, List.set_cons_zero, List.set_cons_succ])
      refine wpAnyH_take (i := 6) (oi := ⟨some 32, _, _, _, _, _⟩) (v := ?_) rfl (by kernel_rfl) (by kernel_rfl) (by kernel_rfl) (fun _ _ _ h => h) (Or.inl ⟨by rfl, ?_⟩) hHeld ?_
      rotate_left
      · intro W hSW; obtain ⟨hSW0, hSW1, hSW2, hSW3, hSW4, hSW5, hSW6⟩ := hSW; go_simp; first | done | with_reducible rfl
      (try simp only [Act.put, List.setIfInBounds_toArray, List.set_cons_zero, List.set_cons_succ])
      refine wpAnyH_take (i := 7) (oi := ⟨some 33, _, _, _, _, _⟩) (v := ?_) rfl (by kernel_rfl) (by kernel_rfl) (by kernel_rfl) (fun _ _ _ h => h) (Or.inl ⟨by rfl, ?_⟩) hHeld ?_
      rotate_left
      · intro W hSW; obtain ⟨hSW0, hSW1, hSW2, hSW3, hSW4, hSW5, hSW6⟩ := hSW; go_simp; first | done | with_reducible rfl
      (try simp only [Act.put, List.setIfInBounds_toArray, List.set_cons_zero, List.set_cons_succ])
      refine wpAnyH_take (i := 8) (oi := ⟨some 34, _, _, _, _, _⟩) (v := ?_) rfl (by kernel_rfl) (by kernel_rfl) (by kernel_rfl) (fun _ _ _ h => h) (Or.inl ⟨by rfl, ?_⟩) hHeld ?_
      rotate_left
      · intro W hSW; obtain ⟨hSW0, hSW1, hSW2, hSW3, hSW4, hSW5, hSW6⟩ := hSW; go_simp; first | done | with_reducible rfl
      (try simp only [Act.put, List.setIfInBounds_toArray, List.set_cons_zero, List.set_cons_succ])
      refine wpAnyH_take (i := 9) (oi := ⟨some 35, _, _, _, _, _⟩) (v := ?_) rfl (by kernel_rfl) (by kernel_rfl) (by kernel_rfl) (fun _ _ _ h => h) (Or.inl ⟨by rfl, ?_⟩) hHeld ?_
      rotate_left
      · intro W hSW; obtain ⟨hSW0, hSW1, hSW2, hSW3, hSW4, hSW5, hSW6⟩ := hSW; go_simp; first | done | with_reducible rfl
      (try simp only [Act.put, List.setIfInBounds_toArray, List.set_cons_zero, List.set_cons_succ])
      refine wpAnyH_take (i := 10) (oi := ⟨some 36, _, _, _, _, _⟩) (v := ?_) rfl (by kernel_rfl) (by kernel_rfl) (by kernel_rfl) (fun _ _ _ h => h) (Or.inl ⟨by rfl, ?_⟩) hHeld ?_
      rotate_left
      · intro W hSW; obtain ⟨hSW0, hSW1, hSW2, hSW3, hSW4, hSW5, hSW6⟩ := hSW; go_simp; first | done | with_reducible rfl
      (try simp only [Act.put, List.setIfInBounds_toArray, List.set_cons_zero, List.set_cons_succ])
      refine wpAnyH_take (i := 11) (oi := ⟨some 37, _, _, _, _, _⟩) (v := ?_) rfl (by kernel_rfl) (by kernel_rfl) (by kernel_rfl) (fun _ _ _ h => h) (Or.inl ⟨by rfl, ?_⟩) hHeld ?_
      rotate_left
      · intro W hSW; obtain ⟨hSW0, hSW1, hSW2, hSW3, hSW4, hSW5, hSW6⟩ := hSW; go_simp; first | done | with_reducible rfl
      (try simp only [Act.put, List.setIfInBounds_toArray, List.set_cons_zero, List.set_cons_succ])
      refine wpAnyH_take (i := 12) (oi := ⟨some 38, _, _, _, _, _⟩) (v := ?_) rfl (by kernel_rfl) (by kernel_rfl) (by kernel_rfl) (fun _ _ _ h => h) (Or.inl ⟨by rfl, ?_⟩) hHeld ?_
      rotate_left
      · intro W hSW; obtain ⟨hSW0, hSW1, hSW2, hSW3, hSW4, hSW5, hSW6⟩ := hSW; go_simp; first | done | with_reducible rfl
      (try simp only [Act.put, List.setIfInBounds_toArray, List.set_cons_zero, List.set_cons_succ])
      refine wpAnyH_take (i := 13) (oi := ⟨some 39, _, _, _, _, _⟩) (v := ?_) rfl (by kernel_rfl) (by kernel_rfl) (by kernel_rfl) (fun _ _ _ h => h) (Or.inl ⟨by rfl, ?_⟩) hHeld ?_
      rotate_left
      · intro W hSW; obtain ⟨hSW0, hSW1, hSW2, hSW3, hSW4, hSW5, hSW6⟩ := hSW; go_simp; first | done | with_reducible rfl
      (try simp only [Act.put, List.setIfInBounds_toArray, List.set_cons_zero, List.set_cons_succ])
      refine wpAnyH_take (i := 14) (oi := ⟨some 40, _, _, _, _, _⟩) (v := ?_) rfl (by kernel_rfl) (by kernel_rfl) (by kernel_rfl) (fun _ _ _ h => h) (Or.inl ⟨by rfl, ?_⟩) hHeld ?_
      rotate_left
      · intro W hSW; obtain ⟨hSW0, hSW1, hSW2, hSW3, hSW4, hSW5, hSW6⟩ := hSW; go_simp; first | done | with_reducible rfl
      (try simp only [Act.put, List.setIfInBounds_toArray, List.set_cons_zero, List.set_cons_succ])
      refine wpAnyH_take (i := 15) (oi := ⟨some 41, _, _, _, _, _⟩) (v := ?_) rfl (by kernel_rfl) (by kernel_rfl) (by kernel_rfl) (fun _ _ _ h => h) (Or.inl ⟨by rfl, ?_⟩) hHeld ?_
      rotate_left
      · intro W hSW; obtain ⟨hSW0, hSW1, hSW2, hSW3, hSW4, hSW5, hSW6⟩ := hSW; go_simp; first | done | with_reducible rfl
      (try simp only [Act.put, List.setIfInBounds_toArray, List.set_cons_zero, List.set_cons_succ])
      refine wpAnyH_take (i := 16) (oi := ⟨some 42, _, _, _, _, _⟩) (v := ?_) rfl (by kernel_rfl) (by kernel_rfl) (by kernel_rfl) (fun _ _ _ h => h) (Or.inl ⟨by rfl, ?_⟩) hHeld ?_
      rotate_left
      · intro W hSW; obtain ⟨hSW0, hSW1, hSW2, hSW3, hSW4, hSW5, hSW6⟩ := hSW; go_simp; first | done | with_reducible rfl
      (try simp only [Act.put, List.setIfInBounds_toArray, List.set_cons_zero, List.set_cons_succ])
      refine wpAnyH_take (i := 17) (oi := ⟨some 43, _, _, _, _, _⟩) (v := ?_) rfl (by kernel_rfl) (by kernel_rfl) (by kernel_rfl) (fun _ _ _ h => h) (Or.inl ⟨by rfl, ?_⟩) hHeld ?_
      rotate_left
      · intro W hSW; obtain ⟨hSW0, hSW1, hSW2, hSW3, hSW4, hSW5, hSW6⟩ := hSW; go_simp; first | done | with_reducible rfl
      (try simp only [Act.put, List.setIfInBounds_toArray, List.set_cons_zero, List.set_cons_succ])
      refine wpAnyH_take (i := 18) (oi := ⟨some 44, _, _, _, _, _⟩) (v := ?_) rfl (by kernel_rfl) (by kernel_rfl) (by kernel_rfl) (fun _ _ _ h => h) (Or.inl ⟨by rfl, ?_⟩) hHeld ?_
      rotate_left
      · intro W hSW; obtain ⟨hSW0, hSW1, hSW2, hSW3, hSW4, hSW5, hSW6⟩ := hSW; go_simp; first | done | with_reducible rfl
      (try simp only [Act.put, List.setIfInBounds_toArray, List.set_cons_zero, List.set_cons_succ])
      refine wpAnyH_take (i := 19) (oi := ⟨some 45, _, _, _, _, _⟩) (v := ?_) rfl (by kernel_rfl) (by kernel_rfl) (by kernel_rfl) (fun _ _ _ h => h) (Or.inl ⟨by rfl, ?_⟩) hHeld ?_
      rotate_left
      · intro W hSW; obtain ⟨hSW0, hSW1, hSW2, hSW3, hSW4, hSW5, hSW6⟩ := hSW; go_simp; first | done | with_reducible rfl
      (try simp only [Act.put, List.setIfInBounds_toArray, List.set_cons_zero, List.set_cons_succ])
      refine wpAnyH_take (i := 20) (oi := ⟨some 46, _, _, _, _, _⟩) (v := ?_) rfl (by kernel_rfl) (by kernel_rfl) (by kernel_rfl) (fun _ _ _ h => h) (Or.inl ⟨by rfl, ?_⟩) hHeld ?_
      rotate_left
      · intro W hSW; obtain ⟨hSW0, hSW1, hSW2, hSW3, hSW4, hSW5, hSW6⟩ := hSW; go_simp; first | done | with_reducible rfl
      (try simp only [Act.put, List.setIfInBounds_toArray, List.set_cons_zero, List.set_cons_succ])
      refine wpAnyH_take (i := 21) (oi := ⟨some 47, _, _, _, _, _⟩) (v := ?_) rfl (by kernel_rfl) (by kernel_rfl) (by kernel_rfl) (fun _ _ _ h => h) (Or.inl ⟨by rfl, ?_⟩) hHeld ?_
      rotate_left
      · intro W hSW; obtain ⟨hSW0, hSW1, hSW2, hSW3, hSW4, hSW5, hSW6⟩ := hSW; go_simp; first | done | with_reducible rfl
      (try simp only [Act.put, List.setIfInBounds_toArray, List.set_cons_zero, List.set_cons_succ])
      refine wpAnyH_take (i := 22) (oi := ⟨some 48, _, _, _, _, _⟩) (v := ?_) rfl (by kernel_rfl) (by kernel_rfl) (by kernel_rfl) (fun _ _ _ h => h) (Or.inl ⟨by rfl, ?_⟩) hHeld ?_
      rotate_left
      · intro W hSW; obtain ⟨hSW0, hSW1, hSW2, hSW3, hSW4, hSW5, hSW6⟩ := hSW; go_simp; first | done | with_reducible rfl
      (try simp only [Act.put, List.setIfInBounds_toArray, List.set_cons_zero, List.set_cons_succ])
      refine wpAnyH_take (i := 23) (oi := ⟨some 49, _, _, _, _, _⟩) (v := ?_) rfl (by kernel_rfl) (by kernel_rfl) (by kernel_rfl) (fun _ _ _ h => h) (Or.inl ⟨by rfl, ?_⟩) hHeld ?_
      rotate_left
      · intro W hSW; obtain ⟨hSW0, hSW1, hSW2, hSW3, hSW4, hSW5, hSW6⟩ := hSW; go_simp; first | done | with_reducible rfl
      (try simp only [Act.put, List.setIfInBounds_toArray, List.set_cons_zero, List.set_cons_succ])
      refine wpAnyH_take (i := 24) (oi := ⟨some 50, _, _, _, _, _⟩) (v := ?_) rfl (by kernel_rfl) (by kernel_rfl) (by kernel_rfl) (fun _ _ _ h => h) (Or.inl ⟨by rfl, ?_⟩) hHeld ?_
      rotate_left
      · intro W hSW; obtain ⟨hSW0, hSW1, hSW2, hSW3, hSW4, hSW5, hSW6⟩ := hSW; go_simp; first | done | with_reducible rfl
      (try simp only [Act.put, List.setIfInBounds_toArray, List.set_cons_zero, List.set_cons_succ])
      refine wpAnyH_take (i := 25) (oi := ⟨some 51, _, _, _, _, _⟩) (v := ?_) rfl (by kernel_rfl) (by kernel_rfl) (by kernel_rfl) (fun _ _ _ h => h) (Or.inl ⟨by rfl, ?_⟩) hHeld ?_
      rotate_left
      · intro W hSW; obtain ⟨hSW0, hSW1, hSW2, hSW3, hSW4, hSW5, hSW6⟩ := hSW; go_simp; first | done | with_reducible rfl
      (try simp only [Act.put, List.setIfInBounds_toArray, List.set_cons_zero, List.set_cons_succ])
      refine wpAnyH_take (i := 28) (oi := ⟨some 54, _, _, _, _, _⟩) (v := ?_) rfl (by kernel_rfl) (by kernel_rfl) (by kernel_rfl) (fun _ _ _ h => h) (Or.inl ⟨by rfl, ?_⟩) hHeld ?_
      rotate_left
      · intro W hSW; obtain ⟨hSW0, hSW1, hSW2, hSW3, hSW4, hSW5, hSW6⟩ := hSW; go_simp; first | done | with_reducible rfl
      (try simp only [Act.put, List.setIfInBounds_toArray, List.set_cons_zero, List.set_cons_succ])
      refine wpAnyH_take (i := 29) (oi := ⟨some 55, _, _, _, _, _⟩) (v := ?_) rfl (by kernel_rfl) (by kernel_rfl) (by kernel_rfl) (fun _ _ _ h => h) (Or.inl ⟨by rfl, ?_⟩) hHeld ?_
      rotate_left
      · intro W hSW; obtain ⟨hSW0, hSW1, hSW2, hSW3, hSW4, hSW5, hSW6⟩ := hSW; go_simp; first | done | with_reducible rfl
      (try simp only [Act.put, List.setIfInBounds_toArray, List.set_cons_zero, List.set_cons_succ])
      refine wpAnyH_take (i := 30) (oi := ⟨some 56, _, _, _, _, _⟩) (v := ?_) rfl (by kernel_rfl) (by kernel_rfl) (by kernel_rfl) (fun _ _ _ h => h) (Or.inl ⟨by rfl, ?_⟩) hHeld ?_
      rotate_left
      · intro W hSW; obtain ⟨hSW0, hSW1, hSW2, hSW3, hSW4, hSW5, hSW6⟩ := hSW; go_simp; first | done | with_reducible rfl
      (try simp only [Act.put, List.setIfInBounds_toArray, List.set_cons_zero, List.set_cons_succ])
      refine wpAnyH_ready (rs := [26]) (by kernel_rfl) (by simp) ?_
      refine AllReadyH.cons (o := ⟨some 52, _, _, _, _, _⟩) rfl (fun K hK => ?_) (AllReadyH.nil)
      go_simp
      go_at_call 14
      refine (bitsC16 len x1).mono ?_
      rintro e x2 ⟨rfl, rfl⟩
      clear hHeld
      refine hK.out _ _ ?_ (fun hHeld => ?_)
      · exact HS.out x1 bS1
      clear hK K
      (try simp only [Act.put, List.setIfInBounds_toArray, List.set_cons_zero, List.set_cons_succ])
      refine wpAnyH_take (i := 27) (oi := ⟨some 53, _, _, _, _, _⟩) (v := ?_) rfl (by kernel_rfl) (by kernel_rfl) (by kernel_rfl) (fun _ _ _ h => h) (Or.inl ⟨by rfl, ?_⟩) hHeld ?_
      rotate_left
      · intro W hSW; obtain ⟨hSW0, hSW1, hSW2, hSW3, hSW4, hSW5, hSW6⟩ := hSW; go_simp; first | done | with_reducible rfl
      (try simp only [Act.put, List.setIfInBounds_toArray, List.set_cons_zero, List.set_cons_succ])
      refine wpAnyH_take (i := 31) (oi := ⟨some 57, _, _, _, _, _⟩) (v := ?_) rfl (by kernel_rfl) (by kernel_rfl) (by kernel_rfl) (fun _ _ _ h => h) (Or.inl ⟨by rfl, ?_⟩) hHeld ?_
      rotate_left
      · intro W hSW; obtain ⟨hSW0, hSW1, hSW2, hSW3, hSW4, hSW5, hSW6⟩ := hSW; go_simp; first | done | with_reducible rfl
      (try simp only [Act.put, List.setIfInBounds_toArray, List.set_cons_zero, List.set_cons_succ])
      refine wpAnyH_take (i := 32) (oi := ⟨some 58, _, _, _, _, _⟩) (v := undef) rfl (by kernel_rfl) (by kernel_rfl) (by kernel_rfl) (fun _ _ _ h => h) (Or.inr ⟨by rfl, rfl⟩) hHeld ?_
      (try simp only [Act.put, List.setIfInBounds_toArray, List.set_cons_zero, List.set_cons_succ])
      refine wpAnyH_take (i := 33) (oi := ⟨some 59, _, _, _, _, _⟩) (v := undef) rfl (by kernel_rfl) (by kernel_rfl) (by kernel_rfl) (fun _ _ _ h => h) (Or.inr ⟨by rfl, rfl⟩) hHeld ?_
      (try simp only [Act.put, List.setIfInBounds_toArray, List.set_cons_zero, List.set_cons_succ])
      refine wpAnyH_take (i := 34) (oi := ⟨some 60, _, _, _, _, _⟩) (v := undef) rfl (by kernel_rfl) (by kernel_rfl) (by kernel_rfl) (fun _ _ _ h => h) (Or.inr ⟨by rfl, rfl⟩) hHeld ?_
      (try simp only [Act.put, List.setIfInBounds_toArray, List.set_cons_zero, List.set_cons_succ])
      refine wpAnyH_take (i := 35) (oi := ⟨some 61, _, _, _, _, _⟩) (v := ?_) rfl (by kernel_rfl) (by kernel_rfl) (by kernel_rfl) (fun _ _ _ h => h) (Or.inl ⟨by rfl, ?_⟩) hHeld ?_
      rotate_left
      · intro W hSW; obtain ⟨hSW0, hSW1, hSW2, hSW3, hSW4, hSW5, hSW6⟩ := hSW; go_simp; first | done | with_reducible rfl
      (try simp only [Act.put, List.setIfInBounds_toArray, List.set_cons_zero, List.set_cons_succ])
      refine wpAnyH_take (i := 36) (oi := ⟨some 62, _, _, _, _, _⟩) (v := ?_) rfl (by kernel_rfl) (by kernel_rfl) (by kernel_rfl) (fun _ _ _ h => h) (Or.inl ⟨by rfl, ?_⟩) hHeld ?_
      rotate_left
      · intro W hSW; obtain ⟨hSW0, hSW1, hSW2, hSW3, hSW4, hSW5, hSW6⟩ := hSW; go_simp; first | done | with_reducible rfl
      (try simp only [Act.put, List.setIfInBounds_toArray, List.set_cons_zero, List.set_cons_succ])
      refine wpAnyH_take (i := 37) (oi := ⟨some 63, _, _, _, _, _⟩) (v := ?_) rfl (by kernel_rfl) (by kernel_rfl) (by kernel_rfl) (fun _ _ _ h => h) (Or.inl ⟨by rfl, ?_⟩) hHeld ?_
      rotate_left
      · intro W hSW; obtain ⟨hSW0, hSW1, hSW2, hSW3, hSW4, hSW5, hSW6⟩ := hSW; go_simp; first | done | with_reducible rfl
      (try simp only [Act.put, List.setIfInBounds_toArray, List.set_cons_zero, List.set_cons_succ])
      refine wpAnyH_done (by kernel_rfl) ?_ _
      refine NoPanic.normal ?_
      clear hHeld
      go_wp2_with fail
      go_meet
      case rel => exact ⟨by first | rfl | (rw [tf]; rfl), bS1⟩
  case rest =>
    obtain ⟨rfl, bc⟩ := hcut
    by_cases hz : we = 0
    · have hWE0 : WE kind ver len bd = 0 := by rw [← HWE.out]; exact hz
      have hck := cut_write (kind := kind) (ver := ver) (len := len) (q := sq) (b := b2) (m := more) (body := bd) hsq2 hb22 hm hWE0
      rw [← HWBq.out] at hck
      obtain ⟨k, q', ve, le, b', m', hN⟩ := frame_of wb hck.lt
      have hRW := read_write hsq2 hb22 hm hWE0 (by rw [← HWBq.out]; exact hN)
      have hnil := hRW.nil
      have hRd := hRW.d
      have hRa := hRW.a
      have hk12 := hRW.k12
      rw [← HWBq.out] at hnil hRd
      have HE0 : ErN (rdX wb) = 0 := by rw [hnil]; rfl
      have dz : (we != 0) = false := by rw [hz]; rfl
      have hl4 := HR4.out.len8
      have hl5 := HR5.out.len8
      have hn4 : n4 ≤ 75 := by have := hck.le; omega
      have hn5 : n5 ≤ 75 := by have := hck.le; omega
      have C8 := readN A4 n4 c4 wb a wc ((HR4.out.below bc).up bc.size) hck.lt hbd4.1 (by have := hbd4.2; unfold maxLen at this; omega) (HE5.out.below bc) hN
      rw [HE0] at C8
      have HC8 := Lib.hid C8
      have HC10 := Lib.hid (fun (W : World) (h : Below w5.heap.size w5 W) => rreadN A5 n5 c5 wb W ((HR5.out.below h).up h.size) hck.lt hbd5.1 (by have := hbd5.2; unfold maxLen at this; omega) (by omega) hN)
      rw [HE0] at HC10
      have HNN := Lib.hid hN
      clear C8 hl4 hl5 HE0 hnil hz hWE0 hck hRW HRWm HWE HWBq hN
      go_upto_region 10 with (first
        | (go_at_call 15; refine HC8.out.mono ?_; rintro e w8 ⟨A8, n8, c8, rfl, hr8, hnone8, hle8, b8⟩)
        | (refine at_alloc rfl 32 rfl _ zeroF ?_; intro w81 L8)
        | (refine at_store rfl 32 _ _ rfl w8.heap.size (FV k q' ve le (.slice A8 n8 c8) b' m') rfl rfl 32 _ L8.row (infoF _ _ _ _ _ _ _) rfl (FV_all _ _ _ _ _ _ _ _ _) ?_; intro w82 H8))
      have b82 : Below w8.heap.size w8 w82 := L8.bel.trans (H8.below (Nat.le_refl _))
      have bc82 : Below wc.heap.size wc w82 := Below.then_ b8 b82
      have P8a := H8.row
      obtain ⟨g8, hg8⟩ : ∃ g, g = w8.heap.size := ⟨_, rfl⟩
      rw [← hg8] at P8a ⊢
      have R8a := (hr8.below b82).up b82.size
      have b5_82 : Below w5.heap.size w5 w82 := bc.trans (bc82.mono bc.size)
      clear L8 H8 hg8 hr8 b8 b82 HC8
      go_upto_region 11 with (first
        | (go_at_call 16; refine (HC10.out _ b5_82).mono ?_; rintro e w10 ⟨A10, n10, c10, rfl, hr10, hnone10, hle10, b10⟩)
        | (refine at_alloc rfl 25 rfl _ zeroR ?_; intro w11 L10)
        | (refine at_store rfl 25 _ _ rfl w10.heap.size (RV k q' ve le (.slice A10 n10 c10) b' m') rfl rfl 25 _ L10.row (infoR _ _ _ _ _ _ _) rfl (RV_all _ _ _ _ _ _ _ _ _) ?_; intro w9 H10))
      have b109 : Below w10.heap.size w10 w9 := L10.bel.trans (H10.below (Nat.le_refl _))
      have b829 : Below w82.heap.size w82 w9 := Below.then_ b10 b109
      have P10 := H10.row
      obtain ⟨g10, hg10⟩ : ∃ g, g = w10.heap.size := ⟨_, rfl⟩
      rw [← hg10] at P10 ⊢
      have P8 := P8a.after b829
      have R8 := (R8a.below b829).up b829.size
      have R10 := (hr10.below b109).up b109.size
      have b59 : Below w5.heap.size w5 w9 := b5_82.trans (b829.mono b5_82.size)
      have HB9 := Lib.hid (HBel.out.trans (b59.mono HBel.out.size))
      have HR8 := Lib.hid (fun (W : World) (h : Below w9.heap.size w9 W) => (R8.below h).up h.size)
      have HR10 := Lib.hid (fun (W : World) (h : Below w9.heap.size w9 W) => (R10.below h).up h.size)
      have P1 := HP.out.after b59
      have P3 := HF.out.after b59
      obtain ⟨_, _, _, kcA2, _⟩ := KC.out w9 b59
      have kcA8 : (convert 22 9 (.slice A8 n8 c8)).run Tryd.prog w9 = .ok (.string (str (rB wb))) w9 := R8.conv hnone8 w9 (Below.refl _ _)
      clear L10 H10 hg10 hr10 b10 b109 b829 P8a R8a R8 R10 HC10 b5_82 bc82 KC
      have k10 : w9.cell? ⟨g1, 0, none⟩ = some (.int .i64 kind) := (P1.cell 0).trans rfl
      have k12 : w9.cell? ⟨g1, 2, none⟩ = some (.int .i64 ver) := (P1.cell 2).trans rfl
      have k13 : w9.cell? ⟨g1, 3, none⟩ = some (.int .i64 len) := (P1.cell 3).trans rfl
      have k14 : w9.cell? ⟨g1, 4, none⟩ = some (.slice A2 n2 c2) := (P1.cell 4).trans rfl
      have k31 : w9.cell? ⟨g3, 1, none⟩ = some (.int .u16 (sq : Int)) := (P3.cell 1).trans rfl
      have k81 : w9.cell? ⟨g8, 1, none⟩ = some (.int .u16 (q' : Int)) := (P8.cell 1).trans rfl
      have k82 : w9.cell? ⟨g8, 2, none⟩ = some (.int .i64 ve) := (P8.cell 2).trans rfl
      have k83 : w9.cell? ⟨g8, 3, none⟩ = some (.int .i64 le) := (P8.cell 3).trans rfl
      have k84 : w9.cell? ⟨g8, 4, none⟩ = some (.slice A8 n8 c8) := (P8.cell 4).trans rfl
      have hNq := HNN.out.hq
      have hNb := HNN.out.hb
      rcases hk12 with hk1 | hk2
      · obtain ⟨e1, e2, e3, e4⟩ := hRd hk1
        subst e1 e2 e3
        rw [e4] at kcA8
        have d0 : (kind == 1) = true := by simp [hk1]
        have d2 : (kind == 2) = false := by simp [hk1]
        have d3 : ((q' : Int) != (q' : Int)) = false := by simp
        have d4 : (ve != ve) = false := by simp
        have d5 : (le != le) = false := by simp
        generalize str bd = sb at *
        have d6 : (sb.toList != sb.toList) = false := by simp
        clear hk1 hRd hRa e4 P1 P3
        go_upto_region 13 with fail
        refine wp_region_noPanic ?_
        refine wp_region_held_drew (S := fun W => Below w9.heap.size w9 W) (by kernel_rfl) (below_drawn 1) (fun hHeld => ?_)
        refine wpAnyH_take (i := 0) (oi := ⟨some 121, _, _, _, _, _⟩) (v := ?_) rfl (by kernel_rfl) (by kernel_rfl) (by kernel_rfl) (fun _ _ _ h => h) (Or.inl ⟨by rfl, ?_⟩) hHeld ?_
        rotate_left
        · intro W hSW; have hSW0 := hSW; go_simp; first | done | with_reducible rfl
        (try simp only [Act.put, List.setIfInBounds_toArray, List.set_cons_zero, List.set_cons_succ])
        refine wpAnyH_take (i := 1) (oi := ⟨some 122, _, _, _, _, _⟩) (v := ?_) rfl (by kernel_rfl) (by kernel_rfl) (by kernel_rfl) (fun _ _ _ h => h) (Or.inl ⟨by rfl, ?_⟩) hHeld ?_
        rotate_left
        · intro W hSW; have hSW0 := hSW; go_simp; first | done | with_reducible rfl
        (try simp only [Act.put, List.setIfInBounds_toArray, List.set_cons_zero, List.set_cons_succ])
        refine wpAnyH_take (i := 2) (oi := ⟨some 123, _, _, _, _, _⟩) (v := ?_) rfl (by kernel_rfl) (by kernel_rfl) (by kernel_rfl) (fun _ _ _ h => h) (Or.inl ⟨by rfl, ?_⟩) hHeld ?_
        rotate_left
        · intro W hSW; have hSW0 := hSW; go_simp; first | done | with_reducible rfl
        (try simp only [Act.put, List.setIfInBounds_toArray, List.set_cons_zero, List.set_cons_succ])
        refine wpAnyH_take (i := 3) (oi := ⟨some 124, _, _, _, _, _⟩) (v := _) rfl (by kernel_rfl) (by kernel_rfl) (by kernel_rfl) (fun _ _ _ h => h) (yields_row (by rfl) 32 _ (by rfl) g8 (by rfl) 32 (FV k q' ve le (.slice A8 n8 c8) b' m') _ (fun W h => P8.after h) Tryd.underlying32 rfl (infoF _ _ _ _ _ _ _)) hHeld ?_
        (try simp only [Act.put, List.setIfInBounds_toArray, List.set_cons_zero, List.set_cons_succ])
        refine wpAnyH_take (i := 5) (oi := ⟨some 126, _, _, _, _, _⟩) (v := _) rfl (by kernel_rfl) (by kernel_rfl) (by kernel_rfl) (fun _ _ _ h => h) (yields_row (by rfl) 25 _ (by rfl) g10 (by rfl) 25 (RV k q' ve le (.slice A10 n10 c10) b' m') _ (fun W h => P10.after h) Tryd.underlying25 rfl (infoR _ _ _ _ _ _ _)) hHeld ?_
        (try simp only [Act.put, List.setIfInBounds_toArray, List.set_cons_zero, List.set_cons_succ])
        refine wpAnyH_ready (rs := [4]) (by kernel_rfl) (by simp) ?_
        refine AllReadyH.cons (o := ⟨some 125, _, _, _, _, _⟩) rfl (fun K hK => ?_) (AllReadyH.nil)
        go_simp
        go_at_call 18
        refine (fromC k ve le q' A8 n8 c8 b' m' w9.drew hNq hNb).mono ?_
        rintro e x2 ⟨rfl, h2⟩
        have bS2 : Below w9.heap.size w9 x2 := Below.then_ (Below.refl w9.heap.size w9).drew h2
        clear hHeld
        refine hK.out _ _ ?_ (fun hHeld => ?_)
        · exact bS2
        clear hK K
        (try simp only [Act.put, List.setIfInBounds_toArray, List.set_cons_zero, List.set_cons_succ])
        refine wpAnyH_ready (rs := [6]) (by kernel_rfl) (by simp) ?_
        refine AllReadyH.cons (o := ⟨some 127, _, _, _, _, _⟩) rfl (fun K hK => ?_) (AllReadyH.nil)
        go_simp
        go_at_call 17
        refine (r16SameC k q' ve le b' m' A8 n8 c8 A10 n10 c10 (rB wb) x2 (HR8.out x2 bS2) (HR10.out x2 bS2) hnone8 hnone10).mono ?_
        rintro e x3 ⟨rfl, h3⟩
        have bS3 : Below w9.heap.size w9 x3 := Below.then_ bS2 h3
        clear hHeld
        refine hK.out _ _ ?_ (fun hHeld => ?_)
        · exact bS3
        clear hK K
        (try simp only [Act.put, List.setIfInBounds_toArray, List.set_cons_zero, List.set_cons_succ])
        refine wpAnyH_take (i := 7) (oi := ⟨some 128, _, _, _, _, _⟩) (v := ?_) rfl (by kernel_rfl) (by kernel_rfl) (by kernel_rfl) (fun _ _ _ h => h) (Or.inl ⟨by rfl, ?_⟩) hHeld ?_
        rotate_left
        · intro W hSW; have hSW0 := hSW; go_simp; first | done | with_reducible rfl
        (try simp only [Act.put, List.setIfInBounds_toArray, List.set_cons_zero, List.set_cons_succ])
        refine wpAnyH_take (i := 8) (oi := ⟨some 2, _, _, _, _, _⟩) (v := ?_) rfl (by kernel_rfl) (by kernel_rfl) (by kernel_rfl) (fun _ _ _ h => h) (Or.inl ⟨by rfl, ?_⟩) hHeld ?_
        rotate_left
        · intro W hSW; have hSW0 := hSW; go_simp; first | done | with_reducible rfl
        (try simp only [Act.put, List.setIfInBounds_toArray, List.set_cons_zero, List.set_cons_succ])
        refine wpAnyH_done (by kernel_rfl) ?_ _
        refine NoPanic.normal ?_
        clear hHeld

        go_wp2_with fail
        go_ret
        exact ⟨rfl, HB9.out.trans (bS3.mono HB9.out.size)⟩
      · obtain ⟨e1, e2⟩ := hRa hk2
        subst e1 e2
        have d0 : (kind == 1) = false := by simp [hk2]
        have d2 : (kind == 2) = true := by simp [hk2]
        have k85 : w9.cell? ⟨g8, 5, none⟩ = some (.int .u16 (b' : Int)) := (P8.cell 5).trans rfl
        have k86 : w9.cell? ⟨g8, 6, none⟩ = some (.int .u32 (m' : Int)) := (P8.cell 6).trans rfl
        have k35 : w9.cell? ⟨g3, 5, none⟩ = some (.int .u16 (b' : Int)) := (P3.cell 5).trans rfl
        have k36 : w9.cell? ⟨g3, 6, none⟩ = some (.int .u32 (m' : Int)) := (P3.cell 6).trans rfl
        have HNe := Lib.hid (mapNe b' m')
        clear hk2 hRd hRa kcA8 kcA2 k12 k13 k14 k31 k81 k82 k83 k84 P1 P3
        go_upto_region 13 with fail
        refine wp_region_noPanic ?_
        refine wp_region_held_drew (S := fun W => Below w9.heap.size w9 W) (by kernel_rfl) (below_drawn 1) (fun hHeld => ?_)
        refine wpAnyH_take (i := 0) (oi := ⟨some 121, _, _, _, _, _⟩) (v := ?_) rfl (by kernel_rfl) (by kernel_rfl) (by kernel_rfl) (fun _ _ _ h => h) (Or.inl ⟨by rfl, ?_⟩) hHeld ?_
        rotate_left
        · intro W hSW; have hSW0 := hSW; go_simp; first | done | with_reducible rfl
        (try simp only [Act.put, List.setIfInBounds_toArray, List.set_cons_zero, List.set_cons_succ])
        refine wpAnyH_take (i := 1) (oi := ⟨some 122, _, _, _, _, _⟩) (v := ?_) rfl (by kernel_rfl) (by kernel_rfl) (by kernel_rfl) (fun _ _ _ h => h) (Or.inl ⟨by rfl, ?_⟩) hHeld ?_
        rotate_left
        · intro W hSW; have hSW0 := hSW; go_simp; first | done | with_reducible rfl
        (try simp only [Act.put, List.setIfInBounds_toArray, List.set_cons_zero, List.set_cons_succ])
        refine wpAnyH_take (i := 2) (oi := ⟨some 123, _, _, _, _, _⟩) (v := ?_) rfl (by kernel_rfl) (by kernel_rfl) (by kernel_rfl) (fun _ _ _ h => h) (Or.inl ⟨by rfl, ?_⟩) hHeld ?_
        rotate_left
        · intro W hSW; have hSW0 := hSW; go_simp; first | done | with_reducible rfl
        (try simp only [Act.put, List.setIfInBounds_toArray, List.set_cons_zero, List.set_cons_succ])
        refine wpAnyH_take (i := 3) (oi := ⟨some 124, _, _, _, _, _⟩) (v := _) rfl (by kernel_rfl) (by kernel_rfl) (by kernel_rfl) (fun _ _ _ h => h) (yields_row (by rfl) 32 _ (by rfl) g8 (by rfl) 32 (FV k q' ve le (.slice A8 n8 c8) b' m') _ (fun W h => P8.after h) Tryd.underlying32 rfl (infoF _ _ _ _ _ _ _)) hHeld ?_
        (try simp only [Act.put, List.setIfInBounds_toArray, List.set_cons_zero, List.set_cons_succ])
        refine wpAnyH_take (i := 5) (oi := ⟨some 126, _, _, _, _, _⟩) (v := _) rfl (by kernel_rfl) (by kernel_rfl) (by kernel_rfl) (fun _ _ _ h => h) (yields_row (by rfl) 25 _ (by rfl) g10 (by rfl) 25 (RV k q' ve le (.slice A10 n10 c10) b' m') _ (fun W h => P10.after h) Tryd.underlying25 rfl (infoR _ _ _ _ _ _ _)) hHeld ?_
        (try simp only [Act.put, List.setIfInBounds_toArray, List.set_cons_zero, List.set_cons_succ])
        refine wpAnyH_ready (rs := [4]) (by kernel_rfl) (by simp) ?_
        refine AllReadyH.cons (o := ⟨some 125, _, _, _, _, _⟩) rfl (fun K hK => ?_) (AllReadyH.nil)
        go_simp
        go_at_call 18
        refine (fromC k ve le q' A8 n8 c8 b' m' w9.drew hNq hNb).mono ?_
        rintro e x2 ⟨rfl, h2⟩
        have bS2 : Below w9.heap.size w9 x2 := Below.then_ (Below.refl w9.heap.size w9).drew h2
        clear hHeld
        refine hK.out _ _ ?_ (fun hHeld => ?_)
        · exact bS2
        clear hK K
        (try simp only [Act.put, List.setIfInBounds_toArray, List.set_cons_zero, List.set_cons_succ])
        refine wpAnyH_ready (rs := [6]) (by kernel_rfl) (by simp) ?_
        refine AllReadyH.cons (o := ⟨some 127, _, _, _, _, _⟩) rfl (fun K hK => ?_) (AllReadyH.nil)
        go_simp
        go_at_call 17
        refine (r16SameC k q' ve le b' m' A8 n8 c8 A10 n10 c10 (rB wb) x2 (HR8.out x2 bS2) (HR10.out x2 bS2) hnone8 hnone10).mono ?_
        rintro e x3 ⟨rfl, h3⟩
        have bS3 : Below w9.heap.size w9 x3 := Below.then_ bS2 h3
        clear hHeld
        refine hK.out _ _ ?_ (fun hHeld => ?_)
        · exact bS3
        clear hK K
        (try simp only [Act.put, List.setIfInBounds_toArray, List.set_cons_zero, List.set_cons_succ])
        refine wpAnyH_take (i := 7) (oi := ⟨some 128, _, _, _, _, _⟩) (v := ?_) rfl (by kernel_rfl) (by kernel_rfl) (by kernel_rfl) (fun _ _ _ h => h) (Or.inl ⟨by rfl, ?_⟩) hHeld ?_
        rotate_left
        · intro W hSW; have hSW0 := hSW; go_simp; first | done | with_reducible rfl
        (try simp only [Act.put, List.setIfInBounds_toArray, List.set_cons_zero, List.set_cons_succ])
        refine wpAnyH_take (i := 8) (oi := ⟨some 2, _, _, _, _, _⟩) (v := ?_) rfl (by kernel_rfl) (by kernel_rfl) (by kernel_rfl) (fun _ _ _ h => h) (Or.inl ⟨by rfl, ?_⟩) hHeld ?_
        rotate_left
        · intro W hSW; have hSW0 := hSW; go_simp; first | done | with_reducible rfl
        (try simp only [Act.put, List.setIfInBounds_toArray, List.set_cons_zero, List.set_cons_succ])
        refine wpAnyH_done (by kernel_rfl) ?_ _
        refine NoPanic.normal ?_
        clear hHeld

        go_wp2_with fail
        go_ret
        exact ⟨rfl, HB9.out.trans (bS3.mono HB9.out.size)⟩
    · have dz : (we != 0) = true := by simpa using hz
      have HB := Lib.hid (HBel.out.trans (bc.mono HBel.out.size))
      clear hz
      go_wp2_with fail
      go_ret
      exact ⟨rfl, HB.out⟩
end Go.Proofs.YtkmacepodomdmaaDoor
