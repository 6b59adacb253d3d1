/-
  The first test of layer 2's statements; the walk of the statement BitioSame.
-/
import Derived.Test.YtcddbcknjcedfaaWa
namespace Go.Proofs.Ytcddbcknjcedfaa
open Go.RowKit
set_option linter.unusedVariables false
set_option linter.unusedSimpArgs false

/-- A new Writer. -/
theorem newWr (w : World) (base : Nat) : Wr (w.alloc (.cells #[.slice none 0 0] 44)) base w.heap.size none 0 0 [] := ⟨heap_alloc_new w _, Own.nil _ _ _⟩

theorem puts_str : ((str (Bm.toBytes (([] ++ pre 5 3 3) ++ pre 1 2 2))).toList == [168]) = true := by decide +kernel

set_option maxHeartbeats 1000000 in
theorem puts (w : World) : Calls Try.prog 28 #[] w fun e w' => e = .returned (.bool true) ∧ Below w.heap.size w w' := by
  have c1 : Calls Try.prog 29 #[.pointer (some ⟨w.heap.size, 0, none⟩), .int .i64 5, .int .i64 3] (w.alloc (.cells #[.slice none 0 0] 44)) (PutOk (w.alloc (.cells #[.slice none 0 0] 44)) w.heap.size w.heap.size none 3 ([] ++ pre 5 3 3)) :=
    putOk w.heap.size w.heap.size none 0 0 [] 5 3 _ (newWr w _) (by simp) (by omega) (by omega) (by decide) (by omega)
  have c2 : ∀ (W : World) (A : Option Addr) (c : Nat), Wr W w.heap.size w.heap.size A 3 c ([] ++ pre 5 3 3) → w.heap.size ≤ W.heap.size → Calls Try.prog 29 #[.pointer (some ⟨w.heap.size, 0, none⟩), .int .i64 1, .int .i64 2] W (PutOk W w.heap.size w.heap.size (Value.slice A 3 c).ownBlock 5 (([] ++ pre 5 3 3) ++ pre 1 2 2)) :=
    fun W A c h hb => putOk w.heap.size w.heap.size A 3 c _ 1 2 W h hb (by omega) (by omega) (by decide) (by omega)
  have hbit : ∀ b ∈ (([] ++ pre 5 3 3) ++ pre 1 2 2), b ≤ 1 := by decide
  have hs := puts_str
  generalize ([] ++ pre 5 3 3) ++ pre 1 2 2 = l2 at *
  generalize [] ++ pre 5 3 3 = l1 at *
  generalize hse : str (Bm.toBytes l2) = s at *
  have HSE := Lib.hid hse
  have C1 := Lib.hid c1
  have C2 := Lib.hid c2
  have HB := Lib.hid hbit
  clear c1 c2 hse hbit
  go_enter Try.func28, Try.ntmps28
  go_wp2_with fail
  refine C1.out.mono ?_
  rintro e w1 ⟨rfl, A1, n1, c1, wr1, rfl, fr1, hr1⟩
  have be1 : Below w.heap.size w w1 := ((Below.refl _ _).alloc (Nat.le_refl _) _).trans (fr1.below (Nat.le_refl _) (fun k h => by cases h) (by simp))
  have rowlt := wr1.own.block
  clear fr1 hr1
  go_wp2_with fail
  refine (C2.out _ A1 c1 wr1 be1.size).mono ?_
  rintro e w2 ⟨rfl, A2, n2, c2, wr2, rfl, fr2, hr2⟩
  have be2 : Below w.heap.size w w2 := be1.trans (fr2.below (Nat.le_refl _) (fun k h => (rowlt k h).1) be1.size)
  clear fr2 hr2 wr1 be1 rowlt
  go_wp2_with fail
  refine (wbytes w.heap.size w.heap.size A2 5 c2 l2 w2 wr2 HB.out (by omega)).mono ?_
  rintro e w3 ⟨A3, n3, c3, rfl, ow3, be3⟩
  have hcv := ow3.conv w3 (Below.refl _ _)
  rw [HSE.out] at hcv
  have wr3 : Wr w3 w.heap.size w.heap.size A2 5 c2 l2 := ⟨wr2.box.keep (be3.block _ wr2.box.lt), wr2.own.below be3 (Nat.le_refl _)⟩
  have bel := be2.trans (be3.mono be2.size)
  clear ow3 be3 be2 wr2
  go_wp2_with fail
  refine (wlen w.heap.size w.heap.size A2 5 c2 l2 w3 wr3).mono ?_
  rintro e w4 ⟨rfl, rfl⟩
  go_wp2_with fail
  go_ret
  exact ⟨rfl, bel⟩
end Go.Proofs.Ytcddbcknjcedfaa
