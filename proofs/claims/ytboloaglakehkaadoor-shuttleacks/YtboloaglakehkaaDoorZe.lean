/-
  Layer 15: Missing; the first test (a map has what has come).
-/
import Derived.Test.YtboloaglakehkaaDoorZd
namespace Go.Proofs.YtboloaglakehkaaDoor
open Go.RowKit
set_option maxRecDepth 100000
set_option linter.unusedVariables false
set_option linter.unusedSimpArgs false

section
variable {P : Program} {ops : Array Oper} {rest : List Oper} {o : Oper} {a : Act} {w : World} {Q : Exit → Act → World → Prop}
/-- '==' or '!=' of structs. -/
theorem at_eq (hw : Region.wanted o (yielded ops a.tmps) = true) (op : BinOp) (t : TypeId) (x y : Operand) (t2 : TypeId) (ho : o.op = .binOp op t x y t2) (xs ys : Array Value) (hx : a.eval x = .agg xs) (hy : a.eval y = .agg ys)
    (hm : P.eqGuardType P.depth t = false) (r : Value) (h : ∀ W, (binOp op t (.agg xs) (.agg ys)).run P W = .ok r W)
    (k : wpList P ops Q rest (a.put o.dst r) w) : wpList P ops Q (o :: rest) a w := by
  refine wpList_step fun K hK => ?_
  rw [if_pos hw]
  unfold Oper.wp execOp
  simp only [ho, hx, hy, Sem.run_bind, run_eqGuard_agg w op t x y xs ys hm, h, Result.andThen_ok, Sem.run_pure]
  exact hK _ _ k
end
theorem mapGuard : Tryd.prog.eqGuardType Tryd.prog.depth 30 = false := by kernel_rfl
theorem partN (cs : Array Value) (off : Nat) (v : Value) (h : cs[off]? = some v) (w : World) : (part 28 cs off).run Tryd.prog w = .ok v w := by
  simp [part, isAgg, run_underlying Tryd.underlying28, h]
theorem partM (cs : Array Value) (off : Nat) (v : Value) (h : cs[off]? = some v) (w : World) : (part 23 cs off).run Tryd.prog w = .ok v w := by
  simp [part, isAgg, run_underlying Tryd.underlying23, h]
/-- '==' of maps. -/
theorem mapEq (b b2 : Int) (m m2 : Nat) (r : Bool) (hr : ((b == b2) && ((m : Int) == (m2 : Int))) = r) (w : World) : (binOp .eql 30 (.agg (mv b m)) (.agg (mv b2 m2))).run Tryd.prog w = .ok (.bool r) w := by
  have h0 : ∀ b m, (mv b m)[0]? = some (.int .u16 b) := fun _ _ => rfl
  have h1 : ∀ b m, (mv b m)[1]? = some (.int .u32 (m : Int)) := fun _ _ => rfl
  subst hr
  rw [run_eql_struct, show (10000 : Nat) = 9999 + 1 from rfl, run_equalIn_agg _ _ _ _ _ (by kernel_rfl) (by kernel_rfl), show (9999 : Nat) = 9998 + 1 from rfl]
  cases e1 : (b == b2) <;> cases e2 : ((m : Int) == (m2 : Int)) <;>
    simp [Program.fieldsOf, Tryd.underlying30, Op.eqFields, partN _ _ _ (h0 _ _), partM _ _ _ (h1 _ _), run_equalIn_int, e1, e2]
/-- Which of so many haven't come. -/
def ms (base : Int) (more : Nat) (fr : Int) (k : Nat) : List Nat := ((List.range k).map fun (i : Nat) => ((fr + (i : Int)) % 65536).toNat).filter fun a => !hm base more a
theorem ms_yes (base : Int) (more : Nat) (fr : Int) (k a : Nat) (ha : (a : Int) = (fr + (k : Int)) % 65536) (h : hm base more a = true) : ms base more fr (k + 1) = ms base more fr k := by
  unfold ms
  rw [List.range_succ, List.map_append, List.filter_append, List.map_singleton, show ((fr + (k : Int)) % 65536).toNat = a by omega, List.filter_cons, h]
  simp
theorem ms_no (base : Int) (more : Nat) (fr : Int) (k a : Nat) (ha : (a : Int) = (fr + (k : Int)) % 65536) (h : hm base more a = false) : ms base more fr (k + 1) = ms base more fr k ++ [a] := by
  unfold ms
  rw [List.range_succ, List.map_append, List.filter_append, List.map_singleton, show ((fr + (k : Int)) % 65536).toNat = a by omega, List.filter_cons, h]
  simp
theorem ms_length (base : Int) (more : Nat) (fr : Int) (k : Nat) : (ms base more fr k).length ≤ k := by
  unfold ms
  refine Nat.le_trans (List.length_filter_le _ _) ?_
  simp
/-- How many are looked at. -/
def mk64 (n : Int) : Nat := (min (max n 0) 64).toNat

set_option maxHeartbeats 1000000 in
/-- ackmap.Missing. -/
theorem missingC (base fr n : Int) (more : Nat) (w : World) (h4 : more < 4294967296) (hn : -9223372036854775808 ≤ n ∧ n ≤ 9223372036854775807) :
    Calls Tryd.prog 25 #[.agg (mv base more), .int .u16 fr, .int .i64 n] w fun e w' => ∃ A k c, e = .returned (.slice A k c) ∧ Own w' w.heap.size 28 A k c (N16 (ms base more fr (mk64 n))) ∧ Below w.heap.size w w' := by
  obtain ⟨N, hN⟩ : ∃ N, N = mk64 n := ⟨_, rfl⟩
  have hN1 : N ≤ 64 := by rw [hN]; unfold mk64; omega
  obtain ⟨M, hM⟩ : ∃ M : Nat, (M : Int) = max n 0 := ⟨(max n 0).toNat, by omega⟩
  have hM1 : (if n < 0 then (0 : Int) else n) = (M : Int) := by rw [hM]; split <;> omega
  have hM2 : max n 0 = (M : Int) := hM.symm
  have hM3 : (if (0 : Int) < n then n else 0) = (M : Int) := by rw [hM]; split <;> omega
  have hM4 : (if n ≤ 0 then (0 : Int) else n) = (M : Int) := by rw [hM]; split <;> omega
  have hN2 : min (M : Int) 64 = (N : Int) := by rw [hN, hM]; unfold mk64; omega
  have hN3 : (if (64 : Int) < (M : Int) then 64 else (M : Int)) = (N : Int) := by rw [← hN2]; split <;> omega
  clear hM
  rw [← hN]
  clear hN
  go_enter Tryd.func25, Tryd.ntmps25
  go_upto_region 1 with (refine at_box rfl 30 _ rfl (mv base more) rfl ?_; intro w1 L1)
  have bel1 := L1.bel
  have q1 := L1.row
  have hs1 := Lib.hid L1.size
  clear L1
  obtain ⟨g, hg⟩ : ∃ g, g = w.heap.size := ⟨_, rfl⟩
  have HG := Lib.hid hg
  rw [← hg] at q1 ⊢
  have HGL : Hid (g < w1.heap.size) := q1.lt
  clear hg
  go_upto_region 3 with fail
  clear hM1 hM2 hM3 hM4 hN2 hN3
  go_loopw [7, 13] (fun v i wr => ∃ (k m : Nat) (A : Option Addr) (c : Nat), k ≤ N ∧ i = .int .i64 (k : Int) ∧ v = .slice A m c ∧ Own wr w1.heap.size 28 A m c (N16 (ms base more fr k)) ∧ m ≤ 64 ∧ Below w1.heap.size w1 wr) (fun _ i _ => N - (intOf i).toNat)
  case atStart => exact ⟨0, 0, none, 0, Nat.zero_le _, rfl, rfl, Own.nil _ _ _, by omega, Below.refl _ _⟩
  case round =>
    obtain ⟨k, m, A, c, hk, rfl, rfl, own, hm64, bel⟩ := hrel
    have qr := q1.below bel HGL.out
    by_cases hlt : k < N
    · obtain ⟨a, ha⟩ : ∃ a : Nat, (a : Int) = (fr + (k : Int)) % 65536 := ⟨((fr + (k : Int)) % 65536).toNat, by omega⟩
      have C1 := Lib.hid (plusC fr k)
      rw [← ha] at C1
      have C2 := Lib.hid (fun W => hasC base a more W h4)
      have HA := Lib.hid ha
      obtain ⟨β, hβ⟩ : ∃ β, β = hm base more a := ⟨_, rfl⟩
      have HB := Lib.hid hβ
      rw [← hβ] at C2
      clear ha hβ
      have hsz : w1.heap.size ≤ wr.heap.size := bel.size
      cases β with
      | true =>
        go_wp2_with (first | (go_at_call 22; refine (C1.out _).mono ?_; rintro e w' ⟨rfl, rfl⟩) | (refine at_load rfl 30 _ rfl g rfl 30 (mv base more) _ qr Tryd.underlying30 rfl (infoMap _ _) ?_) | (go_at_call 42; refine (C2.out _).mono ?_; rintro e w5 ⟨rfl, be5⟩))
        go_roundw
        case rel =>
          have be6 := bel.trans (be5.mono hsz)
          refine ⟨k + 1, m, A, c, by omega, by go_num, rfl, ?_, hm64, be6⟩
          rw [ms_yes base more fr k a HA.out HB.out.symm]
          exact own.below be5 (Nat.le_refl _)
        case measure => simp [intOf] <;> omega
      | false =>
        have hml : m ≤ k := by
          have h1 := own.len
          rw [N16_length] at h1
          have := ms_length base more fr k
          omega
        go_wp2_with (first | (go_at_call 22; refine (C1.out _).mono ?_; rintro e w' ⟨rfl, rfl⟩) | (refine at_load rfl 30 _ rfl g rfl 30 (mv base more) _ qr Tryd.underlying30 rfl (infoMap _ _) ?_) | (go_at_call 42; refine (C2.out _).mono ?_; rintro e w5 ⟨rfl, be5⟩; have own5 := own.below be5 (Nat.le_refl _); have hs5 := Nat.le_trans hsz be5.size) | (at_builtin; refine app16 _ rfl _ _ rfl w1.heap.size _ _ _ _ a _ rfl rfl own5 rfl (by omega) hs5 ?_; intro A6 c6 w6 own6 hgr6))
        go_roundw
        case rel =>
          refine ⟨k + 1, m + 1, A6, c6, by omega, by go_num, rfl, ?_, by omega, ?_⟩
          · rw [ms_no base more fr k a HA.out HB.out.symm]
            exact own6
          · refine (bel.trans (be5.mono hsz)).trans ⟨hgr6.os, hgr6.tape, hgr6.output, hgr6.size, fun j hj => hgr6.block j (by omega) (fun e => ?_)⟩
            have := (own5.block j e.symm).1
            omega
        case measure => simp [intOf] <;> omega
    · have HKN := Lib.hid (show k = N by omega)
      go_wp2
      go_ret
      exact ⟨A, m, c, rfl, (by rw [← HKN.out]; exact own.down bel1.size), Below.then_ bel1 bel⟩
end Go.Proofs.YtboloaglakehkaaDoor
