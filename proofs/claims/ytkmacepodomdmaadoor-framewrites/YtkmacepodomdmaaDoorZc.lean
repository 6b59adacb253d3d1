/-
  Layer 15: bit, Has; the reference's Before and Has.
-/
import Derived.Test.YtkmacepodomdmaaDoorZa
import Derived.Test.YtkmacepodomdmaaDoorBk
import Derived.Deep.CutRange
namespace Go.Proofs.YtkmacepodomdmaaDoor
open Go.RowKit
set_option maxRecDepth 100000
set_option linter.unusedVariables false

/-- Has a number come? -/
def hm (base : Int) (more : Nat) (a : Int) : Bool := bf a base || (decide (1 ≤ (a - base) % 65536) && decide ((a - base) % 65536 ≤ 32) && more.testBit (((a - base) % 65536).toNat - 1))

set_option maxHeartbeats 400000 in
/-- ackmap.bit. -/
theorem bitC (n : Nat) (w : World) (h : 1 ≤ n ∧ n ≤ 32) :
    Calls Tryd.prog 112 #[.int .i64 (n : Int)] w fun e w' => e = .returned (.int .u32 ((2 ^ (n - 1) : Nat) : Int)) ∧ w = w' := by
  obtain ⟨k, rfl⟩ : ∃ k, n = k + 1 := ⟨n - 1, by omega⟩
  have hk : k < 32 := by omega
  have e1 : ((k + 1 : Nat) : Int) - 1 = (k : Int) := by omega
  have e2 : (2 : Nat) ^ k < 4294967296 := Nat.lt_of_lt_of_le (Nat.pow_lt_pow_right (by omega) hk) (by decide)
  go_enter Tryd.func112, Tryd.ntmps112
  go_wp2
  go_ret
  refine ⟨ret_int' ?_, rfl⟩
  have e3 : ((2 ^ k : Nat) : Int) = (2 : Int) ^ k := by simp
  rw [Nat.add_sub_cancel, ← e3]
  generalize 2 ^ k = q at *
  omega
theorem and_pow (m k : Nat) (h : m.testBit k = true) : m &&& 2 ^ k ≠ 0 := by
  intro h0
  have := congrArg (fun x => x.testBit k) h0
  simp [Nat.testBit_and, h] at this
theorem and_pow0 (m k : Nat) (h : m.testBit k = false) : m &&& 2 ^ k = 0 := by
  apply Nat.eq_of_testBit_eq
  intro i
  rw [Nat.testBit_and, Nat.testBit_two_pow, Nat.zero_testBit]
  by_cases e : k = i
  · subst e; rw [h]; rfl
  · simp [e]
/-- A map as a value. -/
def mv (base : Int) (more : Nat) : Array Value := #[.int .u16 base, .int .u32 (more : Int)]
theorem hm_bf {base a : Int} {more : Nat} (h : bf a base = true) : hm base more a = true := by unfold hm; rw [h, Bool.true_or]
theorem hm_in {base a : Int} {more D : Nat} (h : bf a base = false) (hD : (D : Int) = (a - base) % 65536) (h1 : 1 ≤ D) (h2 : D ≤ 32) : hm base more a = more.testBit (D - 1) := by
  unfold hm
  rw [h, ← hD, decide_eq_true (by omega), decide_eq_true (by omega)]
  simp
theorem hm_out {base a : Int} {more D : Nat} (h : bf a base = false) (hD : (D : Int) = (a - base) % 65536) (h1 : D < 1 ∨ 32 < D) : hm base more a = false := by
  unfold hm
  rw [h, ← hD]
  rcases h1 with h1 | h1
  · rw [decide_eq_false (by omega)]; simp
  · rw [decide_eq_false (p := (D : Int) ≤ 32) (by omega)]; simp
set_option maxHeartbeats 400000 in
/-- ackmap.Has. -/
theorem hasC (base a : Int) (more : Nat) (w : World) (h4 : more < 4294967296) :
    Calls Tryd.prog 67 #[.agg (mv base more), .int .u16 a] w fun e w' => e = .returned (.bool (hm base more a)) ∧ Below w.heap.size w w' := by
  have C1 := Lib.hid (beforeC a base)
  have C2 := Lib.hid (aheadC base a)
  obtain ⟨D, hD⟩ : ∃ D : Nat, (D : Int) = (a - base) % 65536 := ⟨((a - base) % 65536).toNat, by omega⟩
  have HD := Lib.hid hD
  rw [← hD] at C2
  have hD2 : D < 65536 := by omega
  clear hD
  obtain ⟨β, hb⟩ : ∃ β, β = bf a base := ⟨_, rfl⟩
  rw [← hb] at C1
  have HB := Lib.hid hb
  clear hb
  go_enter Tryd.func67, Tryd.ntmps67
  go_upto_region 1 with (refine at_box rfl 30 _ rfl (mv base more) rfl ?_; intro w1 L1)
  have bel := L1.bel
  have hc0 : w1.cell? ⟨w.heap.size, 0, none⟩ = some (.int .u16 base) := by rw [L1.row.cell]; rfl
  have hc1 : w1.cell? ⟨w.heap.size, 1, none⟩ = some (.int .u32 (more : Int)) := by rw [L1.row.cell]; rfl
  have f0 : w1.frozen? ⟨w.heap.size, 0, none⟩ = false := L1.row.froz 0
  clear L1
  generalize w.heap.size = g at hc0 hc1 f0 ⊢
  cases β with
  | true =>
    have HH := Lib.hid (hm_bf (more := more) HB.out.symm)
    go_wp2_with (go_at_call 111; refine (C1.out _).mono ?_; rintro e w' ⟨rfl, rfl⟩)
    go_ret
    exact ⟨ret_bool HH.out.symm, bel⟩
  | false =>
    by_cases h1 : 1 ≤ D
    · by_cases h2 : D ≤ 32
      · have HH := Lib.hid (hm_in (more := more) HB.out.symm HD.out h1 h2)
        have C3 := Lib.hid (fun j : Nat => Calls.quiet_of_same ((bitC D (w1.drewN j) ⟨h1, h2⟩).mono fun e w' h => ⟨h.1, h.2.symm⟩))
        obtain ⟨v, hv⟩ : ∃ v : Nat, v = more &&& 2 ^ (D - 1) := ⟨_, rfl⟩
        have e1 : bits BinOp.and IntKind.u32 (more : Int) ((2 ^ (D - 1) : Nat) : Int) = (v : Int) := by
          rw [hv]; exact u32_and_nat _ _ h4 (Nat.lt_of_lt_of_le (Nat.pow_lt_pow_right (by omega) (show D - 1 < 32 by omega)) (by decide))
        have e2 : ((v : Int) != 0) = more.testBit (D - 1) := by
          cases ht : more.testBit (D - 1) with
          | true => have := and_pow _ _ ht; simp; omega
          | false => have := and_pow0 _ _ ht; simp; omega
        rw [← e2] at HH
        clear hv e2
        have t1 : decide ((1 : Int) ≤ (D : Int)) = true := decide_eq_true (by omega)
        have t2 : decide ((D : Int) ≤ 32) = true := decide_eq_true (by omega)
        generalize 2 ^ (D - 1) = p at *
        go_wp2_with (first | (go_at_call 111; refine (C1.out _).mono ?_; rintro e w' ⟨rfl, rfl⟩) | (go_at_call 63; refine (C2.out _).mono ?_; rintro e w' ⟨rfl, rfl⟩))
        go_quiet ((go_at_call 112; exact C3.out _))
        go_wp2
        go_ret
        exact ⟨ret_bool HH.out.symm, bel.trans (below_drawn _)⟩
      · have HH := Lib.hid (hm_out (more := more) HB.out.symm HD.out (by omega))
        have t1 : decide ((1 : Int) ≤ (D : Int)) = true := decide_eq_true (by omega)
        have t2 : decide ((D : Int) ≤ 32) = false := decide_eq_false (by omega)
        go_wp2_with (first | (go_at_call 111; refine (C1.out _).mono ?_; rintro e w' ⟨rfl, rfl⟩) | (go_at_call 63; refine (C2.out _).mono ?_; rintro e w' ⟨rfl, rfl⟩))
        go_quiet (fail)
        go_wp2
        go_ret
        exact ⟨ret_bool HH.out.symm, bel.trans (below_drawn _)⟩
    · have HH := Lib.hid (hm_out (more := more) HB.out.symm HD.out (by omega))
      have t1 : decide ((1 : Int) ≤ (D : Int)) = false := decide_eq_false (by omega)
      go_wp2_with (first | (go_at_call 111; refine (C1.out _).mono ?_; rintro e w' ⟨rfl, rfl⟩) | (go_at_call 63; refine (C2.out _).mono ?_; rintro e w' ⟨rfl, rfl⟩))
      go_quiet (fail)
      go_wp2
      go_ret
      exact ⟨ret_bool HH.out.symm, bel.trans (below_drawn _)⟩
end Go.Proofs.YtkmacepodomdmaaDoor
