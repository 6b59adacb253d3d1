/-
  Layer 21 (how many versions go out at first): policies as values, Check, Burst, well, Done, the reference's Right and Done, the first test.
-/
import Derived.Test.YtepcipcppdndfaaMem
import Derived.Test.YtepcipcppdndfaaMc
import Derived.Test.YtepcipcppdndfaaMg
import Derived.Deep.CutRange
namespace Go.Proofs.Ytepcipcppdndfaa
open Go.RowKit
set_option linter.unusedVariables false
set_option linter.unusedSimpArgs false
set_option maxRecDepth 100000

/-- A policy as a value. -/
def pv (l r : Int) : Array Value := #[.int .i64 l, .int .i64 r]
theorem infoPol (l r : Int) : (Try.prog.info? 52).map (·.size) = some (pv l r).size := (show (Try.prog.info? 52).map (·.size) = some 2 by kernel_rfl)
theorem info31 : (Try.prog.info? 3).map (·.size) = some 1 := by kernel_rfl
theorem zeroPol : (Try.prog.info? 52).bind (fun i => i.zero.map (fun z => z.cells)) = some (pv 0 0) := by kernel_rfl
theorem pv_all (l r : Int) : (pv l r).all (·.oneCell') = true := by simp [pv, Value.oneCell']
theorem pv_size (l r : Int) : (pv l r).size = 2 := rfl
section
variable {P : Program} {ops : Array Oper} {rest : List Oper} {o : Oper} {a : Act} {w : World} {Q : Exit → Act → World → Prop}
/-- '==' or '!=' of structs. -/
theorem at_eqS (hw : Region.wanted o (yielded ops a.tmps) = true) (op : BinOp) (t : TypeId) (x y : Operand) (t2 : TypeId) (ho : o.op = .binOp op t x y t2) (xs ys : Array Value) (hx : a.eval x = .agg xs) (hy : a.eval y = .agg ys)
    (hm : P.eqGuardType P.depth t = false) (r : Value) (h : ∀ W, (binOp op t (.agg xs) (.agg ys)).run P W = .ok r W)
    (k : wpList P ops Q rest (a.put o.dst r) w) : wpList P ops Q (o :: rest) a w := by
  refine wpList_step fun K hK => ?_
  rw [if_pos hw]
  unfold Oper.wp execOp
  simp only [ho, hx, hy, Sem.run_bind, run_eqGuard_agg w op t x y xs ys hm, h, Result.andThen_ok, Sem.run_pure]
  exact hK _ _ k
end
theorem polGuard : Try.prog.eqGuardType Try.prog.depth 52 = false := by kernel_rfl
theorem partI (cs : Array Value) (off : Nat) (v : Value) (h : cs[off]? = some v) (w : World) : (part 3 cs off).run Try.prog w = .ok v w := by
  simp [part, isAgg, run_underlying Try.underlying3, h]
/-- '==' of policies. -/
theorem polEq (b b2 m m2 : Int) (r : Bool) (hr : ((b == b2) && (m == m2)) = r) (w : World) : (binOp .eql 52 (.agg (pv b m)) (.agg (pv b2 m2))).run Try.prog w = .ok (.bool r) w := by
  have h0 : ∀ b m, (pv b m)[0]? = some (.int .i64 b) := fun _ _ => rfl
  have h1 : ∀ b m, (pv b m)[1]? = some (.int .i64 m) := fun _ _ => rfl
  subst hr
  rw [run_eql_struct, show (10000 : Nat) = 9999 + 1 from rfl, run_equalIn_agg _ _ _ _ _ (by kernel_rfl) (by kernel_rfl), show (9999 : Nat) = 9998 + 1 from rfl]
  cases e1 : (b == b2) <;> cases e2 : (m == m2) <;>
    simp [Program.fieldsOf, Try.underlying52, Op.eqFields, partI _ _ _ (h0 _ _), partI _ _ _ (h1 _ _), run_equalIn_int, e1, e2]

/-- What comes of a policy behind so many tries. -/
def dl (l r t : Int) : Int := if t = 1 then (if r = 3 then (if l = 0 then 0 else l - 1) else l) else if t = 2 then l else if l = 2 then 2 else l + 1
def dr (l r t : Int) : Int := if t = 1 then (if r = 3 then 0 else r + 1) else 0
theorem d_in {l r : Int} (t : Int) (h : 0 ≤ l ∧ l ≤ 2 ∧ 0 ≤ r ∧ r ≤ 3) : 0 ≤ dl l r t ∧ dl l r t ≤ 2 ∧ 0 ≤ dr l r t ∧ dr l r t ≤ 3 := by
  unfold dl dr
  repeat' split
  all_goals omega

set_option maxHeartbeats 400000 in
theorem checkYes (l r : Int) (w : World) (h : 0 ≤ l ∧ l ≤ 2 ∧ 0 ≤ r ∧ r ≤ 3) :
    Calls Try.prog 34 #[.agg (pv l r)] w fun e w' => e = .returned (.int .i64 0) ∧ Below w.heap.size w w' := by
  go_enter Try.func34, Try.ntmps34
  go_upto_region 1 with (refine at_box rfl 52 _ rfl (pv l r) rfl ?_; intro w1 L1)
  have bel := L1.bel
  have hc0 : w1.cell? ⟨w.heap.size, 0, none⟩ = some (.int .i64 l) := by rw [L1.row.cell]; rfl
  have hc1 : w1.cell? ⟨w.heap.size, 1, none⟩ = some (.int .i64 r) := by rw [L1.row.cell]; rfl
  have f0 : w1.frozen? ⟨w.heap.size, 0, none⟩ = false := L1.row.froz 0
  clear L1
  generalize w.heap.size = g at hc0 hc1 f0 ⊢
  go_wp2
  go_ret
  exact ⟨rfl, bel⟩
set_option maxHeartbeats 800000 in
theorem checkNo (l r : Int) (w : World) (h : ¬(0 ≤ l ∧ l ≤ 2 ∧ 0 ≤ r ∧ r ≤ 3)) :
    Calls Try.prog 34 #[.agg (pv l r)] w fun e w' => e = .returned (.int .i64 1) ∧ Below w.heap.size w w' := by
  go_enter Try.func34, Try.ntmps34
  go_upto_region 1 with (refine at_box rfl 52 _ rfl (pv l r) rfl ?_; intro w1 L1)
  have bel := L1.bel
  have hc0 : w1.cell? ⟨w.heap.size, 0, none⟩ = some (.int .i64 l) := by rw [L1.row.cell]; rfl
  have hc1 : w1.cell? ⟨w.heap.size, 1, none⟩ = some (.int .i64 r) := by rw [L1.row.cell]; rfl
  have f0 : w1.frozen? ⟨w.heap.size, 0, none⟩ = false := L1.row.froz 0
  clear L1
  generalize w.heap.size = g at hc0 hc1 f0 ⊢
  by_cases h0 : l < 0
  · clear h
    go_wp2
    go_ret
    exact ⟨rfl, bel⟩
  · by_cases h1 : 2 < l
    · clear h
      go_wp2
      go_ret
      exact ⟨rfl, bel⟩
    · by_cases h2 : r < 0
      · clear h
        go_wp2
        go_ret
        exact ⟨rfl, bel⟩
      · have h3 : 4 ≤ r := by omega
        clear h
        go_wp2
        go_ret
        exact ⟨rfl, bel⟩
set_option maxHeartbeats 400000 in
theorem burstC (l r b : Int) (w : World) (hr : 0 ≤ r ∧ r ≤ 3) (hb : (l = 0 ∧ b = 1) ∨ (l = 1 ∧ b = 2) ∨ (l = 2 ∧ b = 4)) :
    Calls Try.prog 30 #[.agg (pv l r)] w fun e w' => e = .returned (.tuple #[.int .i64 b, .int .i64 0]) ∧ Below w.heap.size w w' := by
  have C := Lib.hid (fun W => checkYes l r W (by omega))
  go_enter Try.func30, Try.ntmps30
  go_upto_region 1 with (refine at_box rfl 52 _ rfl (pv l r) rfl ?_; intro w1 L1)
  have q1 := L1.row
  have bel1 := L1.bel
  clear L1
  obtain ⟨g, hg⟩ : ∃ g, g = w.heap.size := ⟨_, rfl⟩
  rw [← hg] at q1 ⊢
  have HG := Lib.hid hg
  clear hg
  go_upto_region 2 with (first | (refine at_load rfl 52 _ rfl g rfl 52 (pv l r) _ q1 Try.underlying52 rfl (infoPol _ _) ?_) | (go_at_call 34; refine (C.out _).mono ?_; rintro e w2 ⟨rfl, be2⟩))
  have bel2 : Below w.heap.size w w2 := Below.then_ bel1 be2
  have q2 := q1.after be2
  have hc0 : w2.cell? ⟨g, 0, none⟩ = some (.int .i64 l) := (q2.cell 0).trans rfl
  have f0 : w2.frozen? ⟨g, 0, none⟩ = false := q2.froz 0
  clear q1 q2 be2 bel1
  rcases hb with ⟨rfl, rfl⟩ | ⟨rfl, rfl⟩ | ⟨rfl, rfl⟩
  · go_wp2
    go_ret2
    exact ⟨rfl, bel2⟩
  · go_wp2
    go_ret2
    exact ⟨rfl, bel2⟩
  · go_wp2
    go_ret2
    exact ⟨rfl, bel2⟩
set_option maxHeartbeats 400000 in
theorem burstNo (l r : Int) (w : World) (h : ¬(0 ≤ l ∧ l ≤ 2 ∧ 0 ≤ r ∧ r ≤ 3)) :
    Calls Try.prog 30 #[.agg (pv l r)] w fun e w' => e = .returned (.tuple #[.int .i64 0, .int .i64 1]) ∧ Below w.heap.size w w' := by
  have C := Lib.hid (fun W => checkNo l r W h)
  clear h
  go_enter Try.func30, Try.ntmps30
  go_upto_region 1 with (refine at_box rfl 52 _ rfl (pv l r) rfl ?_; intro w1 L1)
  have q1 := L1.row
  have bel1 := L1.bel
  clear L1
  obtain ⟨g, hg⟩ : ∃ g, g = w.heap.size := ⟨_, rfl⟩
  rw [← hg] at q1 ⊢
  have HG := Lib.hid hg
  clear hg
  go_upto_region 2 with (first | (refine at_load rfl 52 _ rfl g rfl 52 (pv l r) _ q1 Try.underlying52 rfl (infoPol _ _) ?_) | (go_at_call 34; refine (C.out _).mono ?_; rintro e w2 ⟨rfl, be2⟩))
  have bel2 : Below w.heap.size w w2 := Below.then_ bel1 be2
  have q2 := q1.after be2
  have hc0 : w2.cell? ⟨g, 0, none⟩ = some (.int .i64 l) := (q2.cell 0).trans rfl
  have f0 : w2.frozen? ⟨g, 0, none⟩ = false := q2.froz 0
  clear q1 q2 be2 bel1
  go_wp2
  go_ret2
  exact ⟨rfl, bel2⟩
set_option maxHeartbeats 800000 in
theorem wellA (l r : Int) (w : World) (h : 0 ≤ l ∧ l ≤ 2 ∧ 0 ≤ r ∧ r ≤ 2) :
    Calls Try.prog 45 #[.agg (pv l r)] w fun e w' => e = .returned (.agg (pv l (r + 1))) ∧ Below w.heap.size w w' := by
  go_enter Try.func45, Try.ntmps45
  go_upto_region 1 with (first | (refine at_box rfl 52 _ rfl (pv l r) rfl ?_; intro w1 L1) | (refine at_alloc rfl 52 rfl (pv 0 0) zeroPol ?_; intro w2 L2))
  have bel2 : Below w.heap.size w w2 := Below.then_ L1.bel L2.bel
  have q1 := L1.row.after L2.bel
  have q2 := L2.row
  have hlt : w.heap.size < w1.heap.size := by rw [L1.size]; omega
  clear L1 L2
  obtain ⟨g, hg⟩ : ∃ g, g = w.heap.size := ⟨_, rfl⟩
  rw [← hg] at q1 hlt ⊢
  have HG := Lib.hid hg
  clear hg
  generalize w1.heap.size = k at q2 hlt ⊢
  have hc1 : w2.cell? ⟨g, 1, none⟩ = some (.int .i64 r) := (q1.cell 1).trans rfl
  go_upto_region 2 with (refine at_cell rfl 3 _ _ rfl g 1 (.int .i64 (r + 1)) rfl rfl 52 _ q1 (show 1 < 2 by omega) info31 rfl ?_; intro w3 U3)
  have q1 : Blk w3 g 52 (pv l (r + 1)) := U3.row
  have q2 := U3.blk q2 (by omega)
  have bel3 := bel2.trans (U3.below (Nat.le_of_eq HG.out.symm))
  have hc1 : w3.cell? ⟨g, 1, none⟩ = some (.int .i64 (r + 1)) := (q1.cell 1).trans rfl
  have hc0 : w3.cell? ⟨g, 0, none⟩ = some (.int .i64 l) := (q1.cell 0).trans rfl
  clear U3 bel2
  have ne : ¬ (r + 1 = 4) := by omega
  go_wp2_with (first | (refine at_load rfl 52 _ rfl g rfl 52 _ _ q1 Try.underlying52 rfl (infoPol _ _) ?_) | (refine at_store rfl 52 _ _ rfl k (pv l (r + 1)) rfl rfl 52 _ q2 (infoPol _ _) rfl (pv_all _ _) ?_; intro w4 U4))
  have belZ := bel3.trans (U4.below (by have := HG.out; omega))
  refine bodyPost_ret (v := .agg (pv l (r + 1))) (results_row rfl _ _ k 52 _ _ rfl U4.row Try.underlying52 rfl (infoPol _ _)) rfl ?_
  exact ⟨rfl, belZ⟩
set_option maxHeartbeats 800000 in
theorem wellB (l l2 : Int) (w : World) (h : 0 ≤ l ∧ l ≤ 2) (hl : l2 = if l = 0 then 0 else l - 1) :
    Calls Try.prog 45 #[.agg (pv l 3)] w fun e w' => e = .returned (.agg (pv l2 0)) ∧ Below w.heap.size w w' := by
  have e1 : max (l - 1) 0 = l2 := by rw [hl]; split <;> omega
  have e2 : (if l - 1 < 0 then 0 else l - 1) = l2 := by rw [hl]; (repeat' split); all_goals omega
  clear hl
  go_enter Try.func45, Try.ntmps45
  go_upto_region 1 with (first | (refine at_box rfl 52 _ rfl (pv l 3) rfl ?_; intro w1 L1) | (refine at_alloc rfl 52 rfl (pv 0 0) zeroPol ?_; intro w2 L2))
  have bel2 : Below w.heap.size w w2 := Below.then_ L1.bel L2.bel
  have q1 := L1.row.after L2.bel
  have q2 := L2.row
  have hlt : w.heap.size < w1.heap.size := by rw [L1.size]; omega
  clear L1 L2
  obtain ⟨g, hg⟩ : ∃ g, g = w.heap.size := ⟨_, rfl⟩
  rw [← hg] at q1 hlt ⊢
  have HG := Lib.hid hg
  clear hg
  generalize w1.heap.size = k at q2 hlt ⊢
  have hc1 : w2.cell? ⟨g, 1, none⟩ = some (.int .i64 3) := (q1.cell 1).trans rfl
  go_upto_region 2 with (refine at_cell rfl 3 _ _ rfl g 1 (.int .i64 4) rfl rfl 52 _ q1 (show 1 < 2 by omega) info31 rfl ?_; intro w3 U3)
  have q1 : Blk w3 g 52 (pv l 4) := U3.row
  have q2 := U3.blk q2 (by omega)
  have bel3 := bel2.trans (U3.below (Nat.le_of_eq HG.out.symm))
  have hc1 : w3.cell? ⟨g, 1, none⟩ = some (.int .i64 4) := (q1.cell 1).trans rfl
  have hc0 : w3.cell? ⟨g, 0, none⟩ = some (.int .i64 l) := (q1.cell 0).trans rfl
  clear U3 bel2
  go_upto_region 3 with fail
  go_upto_region 4 with (refine at_cell rfl 3 _ _ rfl g 1 (.int .i64 0) rfl rfl 52 _ q1 (show 1 < 2 by omega) info31 rfl ?_; intro w4 U4)
  have q1 : Blk w4 g 52 (pv l 0) := U4.row
  have q2 := U4.blk q2 (by omega)
  have bel4 := bel3.trans (U4.below (Nat.le_of_eq HG.out.symm))
  have hc0 : w4.cell? ⟨g, 0, none⟩ = some (.int .i64 l) := (q1.cell 0).trans rfl
  clear U4 bel3 hc1
  go_upto_region 5 with (refine at_cell rfl 3 _ _ rfl g 0 (.int .i64 l2) rfl rfl 52 _ q1 (show 0 < 2 by omega) info31 rfl ?_; intro w5 U5)
  have q1 : Blk w5 g 52 (pv l2 0) := U5.row
  have q2 := U5.blk q2 (by omega)
  have bel5 := bel4.trans (U5.below (Nat.le_of_eq HG.out.symm))
  clear U5 bel4 hc0
  go_wp2_with (first | (refine at_load rfl 52 _ rfl g rfl 52 _ _ q1 Try.underlying52 rfl (infoPol _ _) ?_) | (refine at_store rfl 52 _ _ rfl k (pv l2 0) rfl rfl 52 _ q2 (infoPol _ _) rfl (pv_all _ _) ?_; intro w6 U6))
  have belZ := bel5.trans (U6.below (by have := HG.out; omega))
  refine bodyPost_ret (v := .agg (pv l2 0)) (results_row rfl _ _ k 52 _ _ rfl U6.row Try.underlying52 rfl (infoPol _ _)) rfl ?_
  exact ⟨rfl, belZ⟩
set_option maxHeartbeats 800000 in
theorem doneNo (l r t : Int) (w : World) (h : ¬(0 ≤ l ∧ l ≤ 2 ∧ 0 ≤ r ∧ r ≤ 3)) :
    Calls Try.prog 31 #[.agg (pv l r), .int .i64 t] w fun e w' => e = .returned (.tuple #[.agg (pv 0 0), .int .i64 1]) ∧ Below w.heap.size w w' := by
  have C := Lib.hid (fun W => checkNo l r W h)
  clear h
  go_enter Try.func31, Try.ntmps31
  go_upto_region 1 with (first | (refine at_box rfl 52 _ rfl (pv l r) rfl ?_; intro w1 L1) | (refine at_alloc rfl 52 rfl (pv 0 0) zeroPol ?_; intro w2 L2))
  have bel2 : Below w.heap.size w w2 := Below.then_ L1.bel L2.bel
  have q1 := L1.row.after L2.bel
  have q2 := L2.row
  have hlt : w.heap.size < w1.heap.size := by rw [L1.size]; omega
  clear L1 L2
  obtain ⟨g, hg⟩ : ∃ g, g = w.heap.size := ⟨_, rfl⟩
  rw [← hg] at q1 hlt ⊢
  have HG := Lib.hid hg
  clear hg
  generalize w1.heap.size = k at q2 hlt ⊢
  go_upto_region 2 with (first | (refine at_load rfl 52 _ rfl g rfl 52 _ _ q1 Try.underlying52 rfl (infoPol _ _) ?_) | (go_at_call 34; refine (C.out _).mono ?_; rintro e w3 ⟨rfl, be3⟩))
  have bel3 : Below w.heap.size w w3 := Below.then_ bel2 be3
  have q1 := q1.after be3
  have q2 := q2.after be3
  clear be3 bel2
  go_wp2_with (refine at_store rfl 52 _ _ rfl k (pv 0 0) rfl rfl 52 _ q2 (infoPol _ _) rfl (pv_all _ _) ?_; intro w4 U4)
  have belZ := bel3.trans (U4.below (by have := HG.out; omega))
  refine bodyPost_ret (v := .tuple #[.agg (pv 0 0), .int .i64 1]) (results_row_tmp rfl _ _ k 52 _ _ rfl _ rfl U4.row Try.underlying52 rfl (infoPol _ _)) rfl ?_
  exact ⟨rfl, belZ⟩
set_option maxHeartbeats 800000 in
theorem doneArg (l r t : Int) (w : World) (h : 0 ≤ l ∧ l ≤ 2 ∧ 0 ≤ r ∧ r ≤ 3) (ht : t < 1) :
    Calls Try.prog 31 #[.agg (pv l r), .int .i64 t] w fun e w' => e = .returned (.tuple #[.agg (pv 0 0), .int .i64 1]) ∧ Below w.heap.size w w' := by
  have C := Lib.hid (fun W => checkYes l r W h)
  go_enter Try.func31, Try.ntmps31
  go_upto_region 1 with (first | (refine at_box rfl 52 _ rfl (pv l r) rfl ?_; intro w1 L1) | (refine at_alloc rfl 52 rfl (pv 0 0) zeroPol ?_; intro w2 L2))
  have bel2 : Below w.heap.size w w2 := Below.then_ L1.bel L2.bel
  have q1 := L1.row.after L2.bel
  have q2 := L2.row
  have hlt : w.heap.size < w1.heap.size := by rw [L1.size]; omega
  clear L1 L2
  obtain ⟨g, hg⟩ : ∃ g, g = w.heap.size := ⟨_, rfl⟩
  rw [← hg] at q1 hlt ⊢
  have HG := Lib.hid hg
  clear hg
  generalize w1.heap.size = k at q2 hlt ⊢
  go_upto_region 2 with (first | (refine at_load rfl 52 _ rfl g rfl 52 _ _ q1 Try.underlying52 rfl (infoPol _ _) ?_) | (go_at_call 34; refine (C.out _).mono ?_; rintro e w3 ⟨rfl, be3⟩))
  have bel3 : Below w.heap.size w w3 := Below.then_ bel2 be3
  have q1 := q1.after be3
  have q2 := q2.after be3
  clear be3 bel2
  go_wp2_with (refine at_store rfl 52 _ _ rfl k (pv 0 0) rfl rfl 52 _ q2 (infoPol _ _) rfl (pv_all _ _) ?_; intro w4 U4)
  have belZ := bel3.trans (U4.below (by have := HG.out; omega))
  refine bodyPost_ret (v := .tuple #[.agg (pv 0 0), .int .i64 1]) (results_row_tmp rfl _ _ k 52 _ _ rfl _ rfl U4.row Try.underlying52 rfl (infoPol _ _)) rfl ?_
  exact ⟨rfl, belZ⟩
set_option maxHeartbeats 800000 in
theorem doneBad (l r t : Int) (w : World) (h : 0 ≤ l ∧ l ≤ 2 ∧ 0 ≤ r ∧ r ≤ 3) (ht : 2 < t) (l2 : Int) (hl : l2 = if l = 2 then 2 else l + 1) :
    Calls Try.prog 31 #[.agg (pv l r), .int .i64 t] w fun e w' => e = .returned (.tuple #[.agg (pv l2 0), .int .i64 0]) ∧ Below w.heap.size w w' := by
  have C := Lib.hid (fun W => checkYes l r W h)
  have e1 : min (l + 1) 2 = l2 := by rw [hl]; split <;> omega
  have e2 : (if 2 < l + 1 then 2 else l + 1) = l2 := by rw [hl]; (repeat' split); all_goals omega
  clear hl
  go_enter Try.func31, Try.ntmps31
  go_upto_region 1 with (first | (refine at_box rfl 52 _ rfl (pv l r) rfl ?_; intro w1 L1) | (refine at_alloc rfl 52 rfl (pv 0 0) zeroPol ?_; intro w2 L2))
  have bel2 : Below w.heap.size w w2 := Below.then_ L1.bel L2.bel
  have q1 := L1.row.after L2.bel
  have q2 := L2.row
  have hlt : w.heap.size < w1.heap.size := by rw [L1.size]; omega
  clear L1 L2
  obtain ⟨g, hg⟩ : ∃ g, g = w.heap.size := ⟨_, rfl⟩
  rw [← hg] at q1 hlt ⊢
  have HG := Lib.hid hg
  clear hg
  generalize w1.heap.size = k at q2 hlt ⊢
  go_upto_region 3 with (first | (refine at_load rfl 52 _ rfl g rfl 52 _ _ q1 Try.underlying52 rfl (infoPol _ _) ?_) | (go_at_call 34; refine (C.out _).mono ?_; rintro e w3 ⟨rfl, be3⟩))
  have bel3 : Below w.heap.size w w3 := Below.then_ bel2 be3
  have q1 := q1.after be3
  have q2 := q2.after be3
  clear be3 bel2
  have hc0 : w3.cell? ⟨g, 0, none⟩ = some (.int .i64 l) := (q1.cell 0).trans rfl
  go_upto_region 6 with (refine at_cell rfl 3 _ _ rfl g 0 (.int .i64 l2) rfl rfl 52 _ q1 (show 0 < 2 by omega) info31 rfl ?_; intro w4 U4)
  have q1 : Blk w4 g 52 (pv l2 r) := U4.row
  have q2 := U4.blk q2 (by omega)
  have bel4 := bel3.trans (U4.below (Nat.le_of_eq HG.out.symm))
  clear U4 bel3 hc0
  go_upto_region 8 with (refine at_cell rfl 3 _ _ rfl g 1 (.int .i64 0) rfl rfl 52 _ q1 (show 1 < 2 by omega) info31 rfl ?_; intro w5 U5)
  have q1 : Blk w5 g 52 (pv l2 0) := U5.row
  have q2 := U5.blk q2 (by omega)
  have bel5 := bel4.trans (U5.below (Nat.le_of_eq HG.out.symm))
  clear U5 bel4
  go_wp2_with (first | (refine at_load rfl 52 _ rfl g rfl 52 _ _ q1 Try.underlying52 rfl (infoPol _ _) ?_) | (refine at_store rfl 52 _ _ rfl k (pv l2 0) rfl rfl 52 _ q2 (infoPol _ _) rfl (pv_all _ _) ?_; intro w6 U6))
  have belZ := bel5.trans (U6.below (by have := HG.out; omega))
  refine bodyPost_ret (v := .tuple #[.agg (pv l2 0), .int .i64 0]) (results_row_tmp rfl _ _ k 52 _ _ rfl _ rfl U6.row Try.underlying52 rfl (infoPol _ _)) rfl ?_
  exact ⟨rfl, belZ⟩
set_option maxHeartbeats 800000 in
theorem doneTwo (l r t : Int) (w : World) (h : 0 ≤ l ∧ l ≤ 2 ∧ 0 ≤ r ∧ r ≤ 3) (ht : t = 2) :
    Calls Try.prog 31 #[.agg (pv l r), .int .i64 t] w fun e w' => e = .returned (.tuple #[.agg (pv l 0), .int .i64 0]) ∧ Below w.heap.size w w' := by
  have C := Lib.hid (fun W => checkYes l r W h)
  subst ht
  go_enter Try.func31, Try.ntmps31
  go_upto_region 1 with (first | (refine at_box rfl 52 _ rfl (pv l r) rfl ?_; intro w1 L1) | (refine at_alloc rfl 52 rfl (pv 0 0) zeroPol ?_; intro w2 L2))
  have bel2 : Below w.heap.size w w2 := Below.then_ L1.bel L2.bel
  have q1 := L1.row.after L2.bel
  have q2 := L2.row
  have hlt : w.heap.size < w1.heap.size := by rw [L1.size]; omega
  clear L1 L2
  obtain ⟨g, hg⟩ : ∃ g, g = w.heap.size := ⟨_, rfl⟩
  rw [← hg] at q1 hlt ⊢
  have HG := Lib.hid hg
  clear hg
  generalize w1.heap.size = k at q2 hlt ⊢
  go_upto_region 3 with (first | (refine at_load rfl 52 _ rfl g rfl 52 _ _ q1 Try.underlying52 rfl (infoPol _ _) ?_) | (go_at_call 34; refine (C.out _).mono ?_; rintro e w3 ⟨rfl, be3⟩))
  have bel3 : Below w.heap.size w w3 := Below.then_ bel2 be3
  have q1 := q1.after be3
  have q2 := q2.after be3
  clear be3 bel2
  go_upto_region 8 with (refine at_cell rfl 3 _ _ rfl g 1 (.int .i64 0) rfl rfl 52 _ q1 (show 1 < 2 by omega) info31 rfl ?_; intro w5 U5)
  have q1 : Blk w5 g 52 (pv l 0) := U5.row
  have q2 := U5.blk q2 (by omega)
  have bel5 := bel3.trans (U5.below (Nat.le_of_eq HG.out.symm))
  clear U5 bel3
  go_wp2_with (first | (refine at_load rfl 52 _ rfl g rfl 52 _ _ q1 Try.underlying52 rfl (infoPol _ _) ?_) | (refine at_store rfl 52 _ _ rfl k (pv l 0) rfl rfl 52 _ q2 (infoPol _ _) rfl (pv_all _ _) ?_; intro w6 U6))
  have belZ := bel5.trans (U6.below (by have := HG.out; omega))
  refine bodyPost_ret (v := .tuple #[.agg (pv l 0), .int .i64 0]) (results_row_tmp rfl _ _ k 52 _ _ rfl _ rfl U6.row Try.underlying52 rfl (infoPol _ _)) rfl ?_
  exact ⟨rfl, belZ⟩
set_option maxHeartbeats 800000 in
theorem doneGood (l r t : Int) (w : World) (h : 0 ≤ l ∧ l ≤ 2 ∧ 0 ≤ r ∧ r ≤ 3) (ht : t = 1) (l2 r2 : Int) (CW : ∀ W, Calls Try.prog 45 #[.agg (pv l r)] W fun e w' => e = .returned (.agg (pv l2 r2)) ∧ Below W.heap.size W w') :
    Calls Try.prog 31 #[.agg (pv l r), .int .i64 t] w fun e w' => e = .returned (.tuple #[.agg (pv l2 r2), .int .i64 0]) ∧ Below w.heap.size w w' := by
  have C := Lib.hid (fun W => checkYes l r W h)
  have CW := Lib.hid CW
  subst ht
  go_enter Try.func31, Try.ntmps31
  go_upto_region 1 with (first | (refine at_box rfl 52 _ rfl (pv l r) rfl ?_; intro w1 L1) | (refine at_alloc rfl 52 rfl (pv 0 0) zeroPol ?_; intro w2 L2))
  have bel2 : Below w.heap.size w w2 := Below.then_ L1.bel L2.bel
  have q1 := L1.row.after L2.bel
  have q2 := L2.row
  have hlt : w.heap.size < w1.heap.size := by rw [L1.size]; omega
  clear L1 L2
  obtain ⟨g, hg⟩ : ∃ g, g = w.heap.size := ⟨_, rfl⟩
  rw [← hg] at q1 hlt ⊢
  have HG := Lib.hid hg
  clear hg
  generalize w1.heap.size = k at q2 hlt ⊢
  go_upto_region 3 with (first | (refine at_load rfl 52 _ rfl g rfl 52 _ _ q1 Try.underlying52 rfl (infoPol _ _) ?_) | (go_at_call 34; refine (C.out _).mono ?_; rintro e w3 ⟨rfl, be3⟩))
  have bel3 : Below w.heap.size w w3 := Below.then_ bel2 be3
  have q1 := q1.after be3
  have q2 := q2.after be3
  clear be3 bel2
  go_upto_region 8 with (first | (refine at_load rfl 52 _ rfl g rfl 52 _ _ q1 Try.underlying52 rfl (infoPol _ _) ?_) | (go_at_call 45; refine (CW.out _).mono ?_; rintro e w4 ⟨rfl, be4⟩) | (refine at_store rfl 52 _ _ rfl g (pv l2 r2) rfl rfl 52 _ (q1.after be4) (infoPol _ _) rfl (pv_all _ _) ?_; intro w5 U5))
  have q1 : Blk w5 g 52 (pv l2 r2) := U5.row
  have hg3 := q1.lt
  have hk3 := q2.lt
  have q2 := U5.blk (q2.after be4) (by omega)
  have bel5 := (Below.then_ bel3 be4).trans (U5.below (Nat.le_of_eq HG.out.symm))
  clear U5 bel3 be4
  go_wp2_with (first | (refine at_load rfl 52 _ rfl g rfl 52 _ _ q1 Try.underlying52 rfl (infoPol _ _) ?_) | (refine at_store rfl 52 _ _ rfl k (pv l2 r2) rfl rfl 52 _ q2 (infoPol _ _) rfl (pv_all _ _) ?_; intro w6 U6))
  have belZ := bel5.trans (U6.below (by have := HG.out; omega))
  refine bodyPost_ret (v := .tuple #[.agg (pv l2 r2), .int .i64 0]) (results_row_tmp rfl _ _ k 52 _ _ rfl _ rfl U6.row Try.underlying52 rfl (infoPol _ _)) rfl ?_
  exact ⟨rfl, belZ⟩
/-- rate.Done. -/
theorem doneC (l r t : Int) (w : World) (h : 0 ≤ l ∧ l ≤ 2 ∧ 0 ≤ r ∧ r ≤ 3) (ht : 1 ≤ t) :
    Calls Try.prog 31 #[.agg (pv l r), .int .i64 t] w fun e w' => e = .returned (.tuple #[.agg (pv (dl l r t) (dr l r t)), .int .i64 0]) ∧ Below w.heap.size w w' := by
  unfold dl dr
  by_cases h1 : t = 1
  · rw [if_pos h1, if_pos h1]
    by_cases h3 : r = 3
    · rw [if_pos h3, if_pos h3]
      subst h3
      exact doneGood l 3 t w h h1 _ _ (fun W => wellB l _ W ⟨h.1, h.2.1⟩ rfl)
    · rw [if_neg h3, if_neg h3]
      exact doneGood l r t w h h1 _ _ (fun W => wellA l r W ⟨h.1, h.2.1, h.2.2.1, by omega⟩)
  · rw [if_neg h1, if_neg h1]
    by_cases h2 : t = 2
    · rw [if_pos h2]
      exact doneTwo l r t w h h2
    · rw [if_neg h2]
      exact doneBad l r t w h (by omega) _ rfl
set_option maxHeartbeats 400000 in
theorem refRight21 (l r : Int) (w : World) : Calls Try.prog 32 #[.int .i64 l, .int .i64 r] w fun e w' => e = .returned (.bool (decide (0 ≤ l ∧ l ≤ 2 ∧ 0 ≤ r ∧ r ≤ 3))) ∧ w = w' := by
  by_cases h0 : 0 ≤ l
  · by_cases h1 : l ≤ 2
    · by_cases h2 : 0 ≤ r
      · by_cases h3 : r ≤ 3
        · go_enter Try.func32, Try.ntmps32
          go_wp2
          go_ret
          exact ⟨ret_bool (by simp <;> omega), rfl⟩
        · go_enter Try.func32, Try.ntmps32
          go_wp2
          go_ret
          exact ⟨ret_bool (by simp <;> omega), rfl⟩
      · go_enter Try.func32, Try.ntmps32
        go_wp2
        go_ret
        exact ⟨ret_bool (by simp <;> omega), rfl⟩
    · go_enter Try.func32, Try.ntmps32
      go_wp2
      go_ret
      exact ⟨ret_bool (by simp <;> omega), rfl⟩
  · go_enter Try.func32, Try.ntmps32
    go_wp2
    go_ret
    exact ⟨ret_bool (by simp <;> omega), rfl⟩
theorem ret_ii {x y z u : Int} (h : x = z) (h2 : y = u) : Ending.returned (.tuple #[.int .i64 x, .int .i64 y]) = .returned (.tuple #[.int .i64 z, .int .i64 u]) := by rw [h, h2]
set_option maxHeartbeats 800000 in
theorem refDone21 (l r t : Int) (w : World) (h : 0 ≤ l ∧ l ≤ 2 ∧ 0 ≤ r ∧ r ≤ 3) (ht : 1 ≤ t) :
    Calls Try.prog 35 #[.int .i64 l, .int .i64 r, .int .i64 t] w fun e w' => e = .returned (.tuple #[.int .i64 (dl l r t), .int .i64 (dr l r t)]) ∧ w = w' := by
  by_cases h1 : t = 1
  · by_cases h3 : r < 3
    · have HA : Hid (l = dl l r t ∧ r + 1 = dr l r t) := Lib.hid (by unfold dl dr; (repeat' split); all_goals omega)
      subst h1
      go_enter Try.func35, Try.ntmps35
      go_wp2
      go_ret2
      exact ⟨ret_ii HA.out.1 HA.out.2, rfl⟩
    · have HA : Hid ((if l = 0 then 0 else l - 1) = dl l r t ∧ 0 = dr l r t) := Lib.hid (by unfold dl dr; (repeat' split); all_goals omega)
      obtain ⟨l2, hl⟩ : ∃ l2, l2 = (if l = 0 then 0 else l - 1) := ⟨_, rfl⟩
      rw [← hl] at HA
      have e1 : max (l - 1) 0 = l2 := by rw [hl]; split <;> omega
      have e2 : (if l - 1 < 0 then 0 else l - 1) = l2 := by rw [hl]; (repeat' split); all_goals omega
      subst h1
      clear hl
      go_enter Try.func35, Try.ntmps35
      go_wp2
      go_ret2
      exact ⟨ret_ii HA.out.1 HA.out.2, rfl⟩
  · by_cases h2 : t = 2
    · have HA : Hid (l = dl l r t ∧ 0 = dr l r t) := Lib.hid (by unfold dl dr; (repeat' split); all_goals omega)
      subst h2
      clear h1
      go_enter Try.func35, Try.ntmps35
      go_wp2
      go_ret2
      exact ⟨ret_ii HA.out.1 HA.out.2, rfl⟩
    · have HA : Hid ((if l = 2 then 2 else l + 1) = dl l r t ∧ 0 = dr l r t) := Lib.hid (by unfold dl dr; (repeat' split); all_goals omega)
      obtain ⟨l2, hl⟩ : ∃ l2, l2 = (if l = 2 then 2 else l + 1) := ⟨_, rfl⟩
      rw [← hl] at HA
      have e1 : min (l + 1) 2 = l2 := by rw [hl]; split <;> omega
      have e2 : (if 2 < l + 1 then 2 else l + 1) = l2 := by rw [hl]; (repeat' split); all_goals omega
      clear hl
      go_enter Try.func35, Try.ntmps35
      go_wp2
      go_ret2
      exact ⟨ret_ii HA.out.1 HA.out.2, rfl⟩
set_option maxHeartbeats 800000 in
/-- The first test. -/
theorem ratesC (w : World) : Calls Try.prog 33 #[] w fun e w' => e = .returned (.bool true) ∧ Below w.heap.size w w' := by
  have C1 : Hid (∀ W, Calls Try.prog 31 #[.agg (pv 1 3), .int .i64 1] W fun e w' => e = .returned (.tuple #[.agg (pv 0 0), .int .i64 0]) ∧ Below W.heap.size W w') := Lib.hid (fun W => doneC 1 3 1 W (by omega) (by omega))
  have C2 := Lib.hid (fun W => burstC 2 0 4 W (by omega) (by omega))
  go_enter Try.func33, Try.ntmps33
  go_wp2_with fail
  refine (C1.out _).mono ?_; rintro e w1 ⟨rfl, be1⟩
  go_upto_region 2 with (first | (refine at_alloc rfl 52 rfl (pv 0 0) zeroPol ?_; intro w2 L2) | (refine at_store rfl 52 _ _ rfl w1.heap.size (pv 0 0) rfl rfl 52 _ L2.row (infoPol _ _) rfl (pv_all _ _) ?_; intro w3 U3))
  have bel3 : Below w.heap.size w w3 := (Below.then_ be1 L2.bel).trans (U3.below be1.size)
  have q3 := U3.row
  clear L2 U3 be1
  generalize w1.heap.size = g at q3 ⊢
  go_wp2_with fail
  refine (C2.out _).mono ?_; rintro e w4 ⟨rfl, be4⟩
  have q4 := q3.after be4
  go_wp2_with (first | (refine at_load_g rfl 52 _ rfl g rfl 52 (pv 0 0) _ q4 Try.underlying52 rfl (infoPol _ _) ?_) | (refine at_eqS rfl .eql 52 _ _ _ rfl (pv 0 0) (pv 0 0) rfl rfl polGuard (.bool true) (polEq 0 0 0 0 true rfl) ?_))
  go_ret
  exact ⟨rfl, Below.then_ bel3 be4⟩
end Go.Proofs.Ytepcipcppdndfaa
