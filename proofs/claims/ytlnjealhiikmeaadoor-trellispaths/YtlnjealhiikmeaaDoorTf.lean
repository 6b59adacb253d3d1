/-
  Layer 7: From and Into of what is no state; parts of two edges; '==' with noughts.
-/
import Derived.Test.YtlnjealhiikmeaaDoorTc
import Derived.Test.YtlnjealhiikmeaaDoorTe
import Derived.Test.YtlnjealhiikmeaaDoorTs
import Derived.Test.YtlnjealhiikmeaaDoorMg
namespace Go.Proofs.YtlnjealhiikmeaaDoor
open Go.RowKit
set_option linter.unusedVariables false
set_option linter.unusedSimpArgs false

set_option maxHeartbeats 400000 in
/-- trellis.From of what is no state. -/
theorem fromNo (z : Int) (w : World) (h : z < 0 ∨ 63 < z) :
    Calls Tryd.prog 21 #[.int .i64 z] w fun e w' => e = .returned (.tuple #[.agg Z14, .int .i64 1]) ∧ Below w.heap.size w w' := by
  have C0 := Lib.hid (fun W => thereNo z W h)
  clear h
  have z14 : Z14.size = Z14.size := rfl
  have H1 : Hid (Z14.all (·.oneCell') = true) := by unfold Hid; kernel_rfl
  have I14 : Hid ((Tryd.prog.info? 45).map (·.size) = some Z14.size) := info14
  have ZE := Lib.hid Z14_eq
  have HL : Hid (Z14 = #[.int .i64 0, .int .i64 0, .int .u8 0, .int .u8 0, .int .u8 0, .int .u8 0, .int .u8 0, .int .i64 0, .int .i64 0, .int .u8 0, .int .u8 0, .int .u8 0, .int .u8 0, .int .u8 0]) := rfl
  go_enter Tryd.func21, Tryd.ntmps21
  go_wp2_with (first | (go_at_call 34; refine (C0.out _).mono ?_; rintro e w' ⟨rfl, rfl⟩) | (refine at_alloc rfl 45 rfl Z14 ZE.out ?_; intro w1 h1) | (refine at_store rfl 45 _ _ rfl w.heap.size Z14 rfl (by rw [HL.out]; rfl) 45 Z14 h1.row I14.out rfl H1.out ?_; intro w8 h8))
  refine bodyPost_ret (v := .tuple #[.agg Z14, .int .i64 1]) (results_row_tmp rfl _ _ w.heap.size 45 _ _ rfl _ rfl h8.row Tryd.underlying45 rfl I14.out) rfl ⟨rfl, ?_⟩
  exact h1.bel.trans (h8.below (Nat.le_refl _))
set_option maxHeartbeats 400000 in
/-- trellis.Into of what is no state. -/
theorem intoNo (z : Int) (w : World) (h : z < 0 ∨ 63 < z) :
    Calls Tryd.prog 22 #[.int .i64 z] w fun e w' => e = .returned (.tuple #[.agg Z14, .int .i64 1]) ∧ Below w.heap.size w w' := by
  have C0 := Lib.hid (fun W => thereNo z W h)
  clear h
  have H1 : Hid (Z14.all (·.oneCell') = true) := by unfold Hid; kernel_rfl
  have I14 : Hid ((Tryd.prog.info? 45).map (·.size) = some Z14.size) := info14
  have ZE := Lib.hid Z14_eq
  have HL : Hid (Z14 = #[.int .i64 0, .int .i64 0, .int .u8 0, .int .u8 0, .int .u8 0, .int .u8 0, .int .u8 0, .int .i64 0, .int .i64 0, .int .u8 0, .int .u8 0, .int .u8 0, .int .u8 0, .int .u8 0]) := rfl
  go_enter Tryd.func22, Tryd.ntmps22
  go_wp2_with (first | (go_at_call 34; refine (C0.out _).mono ?_; rintro e w' ⟨rfl, rfl⟩) | (refine at_alloc rfl 45 rfl Z14 ZE.out ?_; intro w1 h1) | (refine at_store rfl 45 _ _ rfl w.heap.size Z14 rfl (by rw [HL.out]; rfl) 45 Z14 h1.row I14.out rfl H1.out ?_; intro w8 h8))
  refine bodyPost_ret (v := .tuple #[.agg Z14, .int .i64 1]) (results_row_tmp rfl _ _ w.heap.size 45 _ _ rfl _ rfl h8.row Tryd.underlying45 rfl I14.out) rfl ⟨rfl, ?_⟩
  exact h1.bel.trans (h8.below (Nat.le_refl _))

/-- Noughts are noughts. -/
theorem eqZ14 (w : World) : (Op.equalIn 10000 45 (.agg #[.int .i64 0, .int .i64 0, .int .u8 0, .int .u8 0, .int .u8 0, .int .u8 0, .int .u8 0, .int .i64 0, .int .i64 0, .int .u8 0, .int .u8 0, .int .u8 0, .int .u8 0, .int .u8 0]) (.agg #[.int .i64 0, .int .i64 0, .int .u8 0, .int .u8 0, .int .u8 0, .int .u8 0, .int .u8 0, .int .i64 0, .int .i64 0, .int .u8 0, .int .u8 0, .int .u8 0, .int .u8 0, .int .u8 0])).run Tryd.prog w = .ok true w := by kernel_rfl
theorem eqlZ14 (w : World) : (binOp .eql 45 (.agg #[.int .i64 0, .int .i64 0, .int .u8 0, .int .u8 0, .int .u8 0, .int .u8 0, .int .u8 0, .int .i64 0, .int .i64 0, .int .u8 0, .int .u8 0, .int .u8 0, .int .u8 0, .int .u8 0]) (.agg #[.int .i64 0, .int .i64 0, .int .u8 0, .int .u8 0, .int .u8 0, .int .u8 0, .int .u8 0, .int .i64 0, .int .i64 0, .int .u8 0, .int .u8 0, .int .u8 0, .int .u8 0, .int .u8 0])).run Tryd.prog w = .ok (.bool true) w := by kernel_rfl

theorem E14_k (a x b y k p q : Nat) (h : (k = 0 ∧ p = a ∧ q = x) ∨ (k = 1 ∧ p = b ∧ q = y)) : ∀ i u, (E7 p q).toList[i]? = some u → (E14 a x b y)[7 * k + i]? = some u := by
  intro i u hu
  have hi : i < 7 := by
    have := (List.getElem?_eq_some_iff.1 hu).1
    rw [Array.length_toList, E7_size] at this
    exact this
  rw [Array.getElem?_toList] at hu
  unfold E14
  rcases h with ⟨rfl, rfl, rfl⟩ | ⟨rfl, rfl, rfl⟩
  · rw [Nat.mul_zero, Nat.zero_add, Array.getElem?_append_left (by rw [E7_size]; exact hi)]
    exact hu
  · rw [Array.getElem?_append_right (by rw [E7_size]; omega), E7_size, show 7 * 1 + i - 7 = i by omega]
    exact hu
theorem neE7 (s k : Nat) : ∀ W, (binOp .neq 44 (.agg (E7 s k)) (.agg (E7 s k))).run Tryd.prog W = .ok (.bool false) W := fun W => eqE _ _ _ _ _ _ _ W
theorem neE7' (s r k : Nat) (h : s ≠ r) : ∀ W, (binOp .neq 44 (.agg (E7 s k)) (.agg (E7 r k))).run Tryd.prog W = .ok (.bool true) W := fun W => neE _ _ _ _ _ _ _ _ _ _ _ _ _ _ h W
end Go.Proofs.YtlnjealhiikmeaaDoor
