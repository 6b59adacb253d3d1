/-
  Layer 15: Missing; the first test (a map has what has come).
-/
import Derived.Test.YtboloaglakehkaaZd
namespace Go.Proofs.Ytboloaglakehkaa
open Go.RowKit
set_option linter.unusedVariables false
set_option linter.unusedSimpArgs false

section
variable {P : Program} {ops : Array Oper} {rest : List Oper} {o : Oper} {a : Act} {w : World} {Q : Exit → Act → World → Prop}
/-- '==' or '!=' of structs. -/
theorem at_eq (hw : Region.wanted o (yielded ops a.tmps) = true) (op : BinOp) (t : TypeId) (x y : Operand) (t2 : TypeId) (ho : o.op = .binOp op t x y t2) (xs ys : Array Value) (hx : a.eval x = .agg xs) (hy : a.eval y = .agg ys)
    (hm : P.eqGuardType P.depth t = false) (r : Value) (h : ∀ W, (binOp op t (.agg xs) (.agg ys)).run P W = .ok r W)
    (k : wpList P ops Q rest (a.put o.dst r) w) : wpList P ops Q (o :: rest) a w := by
  refine wpList_step fun K hK => ?_
  rw [if_pos hw]
  unfold Oper.wp execOp
  simp only [ho, hx, hy, Sem.run_bind, run_eqGuard_agg w op t x y xs ys hm, h, Result.andThen_ok, Sem.run_pure]
  exact hK _ _ k
end
theorem mapGuard : Try.prog.eqGuardType Try.prog.depth 39 = false := by kernel_rfl
theorem partN (cs : Array Value) (off : Nat) (v : Value) (h : cs[off]? = some v) (w : World) : (part 23 cs off).run Try.prog w = .ok v w := by
  simp [part, isAgg, run_underlying Try.underlying23, h]
theorem partM (cs : Array Value) (off : Nat) (v : Value) (h : cs[off]? = some v) (w : World) : (part 37 cs off).run Try.prog w = .ok v w := by
  simp [part, isAgg, run_underlying Try.underlying37, h]
/-- '==' of maps. -/
theorem mapEq (b b2 : Int) (m m2 : Nat) (r : Bool) (hr : ((b == b2) && ((m : Int) == (m2 : Int))) = r) (w : World) : (binOp .eql 39 (.agg (mv b m)) (.agg (mv b2 m2))).run Try.prog w = .ok (.bool r) w := by
  have h0 : ∀ b m, (mv b m)[0]? = some (.int .u16 b) := fun _ _ => rfl
  have h1 : ∀ b m, (mv b m)[1]? = some (.int .u32 (m : Int)) := fun _ _ => rfl
  subst hr
  rw [run_eql_struct, show (10000 : Nat) = 9999 + 1 from rfl, run_equalIn_agg _ _ _ _ _ (by kernel_rfl) (by kernel_rfl), show (9999 : Nat) = 9998 + 1 from rfl]
  cases e1 : (b == b2) <;> cases e2 : ((m : Int) == (m2 : Int)) <;>
    simp [Program.fieldsOf, Try.underlying39, Op.eqFields, partN _ _ _ (h0 _ _), partM _ _ _ (h1 _ _), run_equalIn_int, e1, e2]
/-- Which of so many haven't come. -/
def ms (base : Int) (more : Nat) (fr : Int) (k : Nat) : List Nat := ((List.range k).map fun (i : Nat) => ((fr + (i : Int)) % 65536).toNat).filter fun a => !hm base more a
theorem ms_yes (base : Int) (more : Nat) (fr : Int) (k a : Nat) (ha : (a : Int) = (fr + (k : Int)) % 65536) (h : hm base more a = true) : ms base more fr (k + 1) = ms base more fr k := by
  unfold ms
  rw [List.range_succ, List.map_append, List.filter_append, List.map_singleton, show ((fr + (k : Int)) % 65536).toNat = a by omega, List.filter_cons, h]
  simp
theorem ms_no (base : Int) (more : Nat) (fr : Int) (k a : Nat) (ha : (a : Int) = (fr + (k : Int)) % 65536) (h : hm base more a = false) : ms base more fr (k + 1) = ms base more fr k ++ [a] := by
  unfold ms
  rw [List.range_succ, List.map_append, List.filter_append, List.map_singleton, show ((fr + (k : Int)) % 65536).toNat = a by omega, List.filter_cons, h]
  simp
theorem ms_length (base : Int) (more : Nat) (fr : Int) (k : Nat) : (ms base more fr k).length ≤ k := by
  unfold ms
  refine Nat.le_trans (List.length_filter_le _ _) ?_
  simp
/-- How many are looked at. -/
def mk64 (n : Int) : Nat := (min (max n 0) 64).toNat

set_option maxHeartbeats 1000000 in
/-- ackmap.Missing. -/
theorem missingC (base fr n : Int) (more : Nat) (w : World) (h4 : more < 4294967296) (hn : -9223372036854775808 ≤ n ∧ n ≤ 9223372036854775807) :
    Calls Try.prog 20 #[.agg (mv base more), .int .u16 fr, .int .i64 n] w fun e w' => ∃ A k c, e = .returned (.slice A k c) ∧ Own w' w.heap.size 23 A k c (N16 (ms base more fr (mk64 n))) ∧ Below w.heap.size w w' := by
  obtain ⟨N, hN⟩ : ∃ N, N = mk64 n := ⟨_, rfl⟩
  have hN1 : N ≤ 64 := by rw [hN]; unfold mk64; omega
  obtain ⟨M, hM⟩ : ∃ M : Nat, (M : Int) = max n 0 := ⟨(max n 0).toNat, by omega⟩
  have hM1 : (if n < 0 then (0 : Int) else n) = (M : Int) := by rw [hM]; split <;> omega
  have hM2 : max n 0 = (M : Int) := hM.symm
  have hM3 : (if (0 : Int) < n then n else 0) = (M : Int) := by rw [hM]; split <;> omega
  have hM4 : (if n ≤ 0 then (0 : Int) else n) = (M : Int) := by rw [hM]; split <;> omega
  have hN2 : min (M : Int) 64 = (N : Int) := by rw [hN, hM]; unfold mk64; omega
  have hN3 : (if (64 : Int) < (M : Int) then 64 else (M : Int)) = (N : Int) := by rw [← hN2]; split <;> omega
  clear hM
  rw [← hN]
  clear hN
  go_enter Try.func20, Try.ntmps20
  go_upto_region 1 with (refine at_box rfl 39 _ rfl (mv base more) rfl ?_; intro w1 L1)
  have bel1 := L1.bel
  have q1 := L1.row
  have hs1 := Lib.hid L1.size
  clear L1
  obtain ⟨g, hg⟩ : ∃ g, g = w.heap.size := ⟨_, rfl⟩
  have HG := Lib.hid hg
  rw [← hg] at q1 ⊢
  have HGL : Hid (g < w1.heap.size) := q1.lt
  clear hg
  go_upto_region 3 with fail
  clear hM1 hM2 hM3 hM4 hN2 hN3
  go_loopw [7, 13] (fun v i wr => ∃ (k m : Nat) (A : Option Addr) (c : Nat), k ≤ N ∧ i = .int .i64 (k : Int) ∧ v = .slice A m c ∧ Own wr w1.heap.size 23 A m c (N16 (ms base more fr k)) ∧ m ≤ 64 ∧ Below w1.heap.size w1 wr) (fun _ i _ => N - (intOf i).toNat)
  case atStart => exact ⟨0, 0, none, 0, Nat.zero_le _, rfl, rfl, Own.nil _ _ _, by omega, Below.refl _ _⟩
  case round =>
    obtain ⟨k, m, A, c, hk, rfl, rfl, own, hm64, bel⟩ := hrel
    have qr := q1.below bel HGL.out
    by_cases hlt : k < N
    · obtain ⟨a, ha⟩ : ∃ a : Nat, (a : Int) = (fr + (k : Int)) % 65536 := ⟨((fr + (k : Int)) % 65536).toNat, by omega⟩
      have C1 := Lib.hid (plusC fr k)
      rw [← ha] at C1
      have C2 := Lib.hid (fun W => hasC base a more W h4)
      have HA := Lib.hid ha
      obtain ⟨β, hβ⟩ : ∃ β, β = hm base more a := ⟨_, rfl⟩
      have HB := Lib.hid hβ
      rw [← hβ] at C2
      clear ha hβ
      have hsz : w1.heap.size ≤ wr.heap.size := bel.size
      cases β with
      | true =>
        go_wp2_with (first | (go_at_call 9; refine (C1.out _).mono ?_; rintro e w' ⟨rfl, rfl⟩) | (refine at_load rfl 39 _ rfl g rfl 39 (mv base more) _ qr Try.underlying39 rfl (infoMap _ _) ?_) | (go_at_call 18; refine (C2.out _).mono ?_; rintro e w5 ⟨rfl, be5⟩))
        go_roundw
        case rel =>
          have be6 := bel.trans (be5.mono hsz)
          refine ⟨k + 1, m, A, c, by omega, by go_num, rfl, ?_, hm64, be6⟩
          rw [ms_yes base more fr k a HA.out HB.out.symm]
          exact own.below be5 (Nat.le_refl _)
        case measure => simp [intOf] <;> omega
      | false =>
        have hml : m ≤ k := by
          have h1 := own.len
          rw [N16_length] at h1
          have := ms_length base more fr k
          omega
        go_wp2_with (first | (go_at_call 9; refine (C1.out _).mono ?_; rintro e w' ⟨rfl, rfl⟩) | (refine at_load rfl 39 _ rfl g rfl 39 (mv base more) _ qr Try.underlying39 rfl (infoMap _ _) ?_) | (go_at_call 18; refine (C2.out _).mono ?_; rintro e w5 ⟨rfl, be5⟩; have own5 := own.below be5 (Nat.le_refl _); have hs5 := Nat.le_trans hsz be5.size) | (at_builtin; refine app16 _ rfl _ _ rfl w1.heap.size _ _ _ _ a _ rfl rfl own5 rfl (by omega) hs5 ?_; intro A6 c6 w6 own6 hgr6))
        go_roundw
        case rel =>
          refine ⟨k + 1, m + 1, A6, c6, by omega, by go_num, rfl, ?_, by omega, ?_⟩
          · rw [ms_no base more fr k a HA.out HB.out.symm]
            exact own6
          · refine (bel.trans (be5.mono hsz)).trans ⟨hgr6.os, hgr6.tape, hgr6.output, hgr6.size, fun j hj => hgr6.block j (by omega) (fun e => ?_)⟩
            have := (own5.block j e.symm).1
            omega
        case measure => simp [intOf] <;> omega
    · have HKN := Lib.hid (show k = N by omega)
      go_wp2
      go_ret
      exact ⟨A, m, c, rfl, (by rw [← HKN.out]; exact own.down bel1.size), Below.then_ bel1 bel⟩
theorem maps_of : ofV 5 [7, 6] = mv 5 3 ∧ ofE 5 [7, 6] = 0 := by
  have h1 : farA 5 [7, 6] = false := by decide +kernel
  have h2 : ownA 5 [7, 6] = false := by decide +kernel
  have h3 : orl 5 [7, 6] = 3 := by decide +kernel
  unfold ofV ofE
  rw [h1, h2, h3]
  exact ⟨rfl, rfl⟩
theorem maps_has : hm 5 3 4 = true ∧ hm 5 3 5 = false ∧ hm 5 3 7 = true := by decide +kernel
set_option maxHeartbeats 1000000 in
theorem mapsC (w : World) : Calls Try.prog 17 #[] w fun e w' => e = .returned (.bool true) ∧ Below w.heap.size w w' := by
  have C0 := Lib.hid (fun (A : Option Addr) (n c : Nat) (W : World) (h : Rd W W.heap.size A n (N16 [7, 6])) => ofC A n c [7, 6] 5 W h (by simp) (by have := h.len16; simp at this; omega) (by omega))
  rw [maps_of.1, maps_of.2] at C0
  have C1 := Lib.hid (fun W => hasC 5 4 3 W (by omega))
  have C2 := Lib.hid (fun W => hasC 5 5 3 W (by omega))
  have C3 := Lib.hid (fun W => hasC 5 7 3 W (by omega))
  rw [maps_has.1] at C1
  rw [maps_has.2.1] at C2
  rw [maps_has.2.2] at C3
  have R := Lib.hid (rd_block w 23 #[.int .u16 7, .int .u16 6] (0, 0) (N16 [7, 6]) 2 rfl rfl)
  go_enter Try.func17, Try.ntmps17
  go_upto_region 2 with (first | (go_at_call 16; refine (C0.out _ _ _ _ R.out).mono ?_; rintro e w1 ⟨rfl, be1⟩) | (refine at_alloc rfl 39 rfl (mv 0 0) zeroMap ?_; intro w2 L2) | (refine at_store rfl 39 _ _ rfl w1.heap.size (mv 5 3) rfl rfl 39 _ L2.row (infoMap _ _) rfl (mv_all _ _) ?_; intro w3 L3))
  have bel3 : Below w.heap.size w w3 := ((((Below.refl w.heap.size w).alloc (Nat.le_refl _) _).trans (be1.mono (by simp))).trans (L2.bel.mono (by have := be1.size; simp at this; omega))).trans (L3.below (by have := be1.size; simp at this; omega))
  have q3 := L3.row
  clear L2 L3 be1
  generalize w1.heap.size = g at *
  go_wp2_with (first | (refine at_load_g rfl 39 _ rfl g rfl 39 (mv 5 3) _ q3 Try.underlying39 rfl (infoMap _ _) ?_) | (refine at_eq rfl .eql 39 _ _ _ rfl (mv 5 3) (mv 5 3) rfl rfl mapGuard (.bool true) (mapEq 5 5 3 3 true rfl) ?_))
  refine (C1.out _).mono ?_; rintro e w4 ⟨rfl, be4⟩
  have q4 := q3.after be4
  go_wp2_with (refine at_load_g rfl 39 _ rfl g rfl 39 (mv 5 3) _ q4 Try.underlying39 rfl (infoMap _ _) ?_)
  refine (C2.out _).mono ?_; rintro e w5 ⟨rfl, be5⟩
  have q5 := q4.after be5
  go_wp2_with (refine at_load_g rfl 39 _ rfl g rfl 39 (mv 5 3) _ q5 Try.underlying39 rfl (infoMap _ _) ?_)
  refine (C3.out _).mono ?_; rintro e w6 ⟨rfl, be6⟩
  go_wp2
  go_ret
  exact ⟨rfl, Below.then_ (Below.then_ (Below.then_ bel3 be4) be5) be6⟩
end Go.Proofs.Ytboloaglakehkaa
