/-
  Contracts of layer 6: what the variable holds; odd, word, behind, right, told, Steps.
-/
import Derived.Test.YtibddlldgmidlabDoorMem
import Derived.Test.YtibddlldgmidlabDoorMw
import Derived.Test.YtibddlldgmidlabDoorKm
import Derived.Test.YtibddlldgmidlabDoorRr
namespace Go.Proofs.YtibddlldgmidlabDoor
open Go.RowKit
set_option maxRecDepth 100000
set_option linter.unusedVariables false

/-- The variable holds the taps. -/
structure Taps (w : World) : Prop where
  c0 : w.cell? ⟨0, 0, none⟩ = some (.int .i64 79)
  c1 : w.cell? ⟨0, 1, none⟩ = some (.int .i64 87)
  c2 : w.cell? ⟨0, 2, none⟩ = some (.int .i64 109)
  c3 : w.cell? ⟨0, 3, none⟩ = some (.int .i64 121)
theorem Taps.pos {w : World} (h : Taps w) : 0 < w.heap.size := block_lt_of_cell (a := ⟨0, 0, none⟩) h.c0
theorem Taps.below {w w' : World} {B : Nat} (h : Taps w) (hb : Below B w w') (hB : w.heap.size ≤ B) : Taps w' := by
  have h0 := h.pos
  exact ⟨(hb.cell (p := ⟨0, 0, none⟩) (by show 0 < B; omega)).trans h.c0, (hb.cell (p := ⟨0, 1, none⟩) (by show 0 < B; omega)).trans h.c1, (hb.cell (p := ⟨0, 2, none⟩) (by show 0 < B; omega)).trans h.c2, (hb.cell (p := ⟨0, 3, none⟩) (by show 0 < B; omega)).trans h.c3⟩
theorem Taps.after {w w' : World} (h : Taps w) (hb : Below w.heap.size w w') : Taps w' := h.below hb (Nat.le_refl _)

/-- Parity of the first f bits. -/
def pr : Nat → Nat → Nat
  | 0, _ => 0
  | f + 1, n => n % 2 ^^^ pr f (n / 2)
theorem pr_zero : ∀ f, pr f 0 = 0
  | 0 => rfl
  | f + 1 => by show 0 % 2 ^^^ pr f (0 / 2) = 0; rw [pr_zero f]; rfl
theorem pr_bit : ∀ f n, pr f n ≤ 1
  | 0, _ => by simp [pr]
  | f + 1, n => Cv.xor_bit (by omega) (pr_bit f _)
/-- The bits that a stream looks at. -/
def tapOf : Nat → Nat
  | 0 => 79
  | 1 => 87
  | 2 => 109
  | _ => 121
theorem pr_out : ∀ s, s < 64 → ∀ x, x < 2 → ∀ i, i < 4 → pr 7 ((64 * x + s) &&& tapOf i) = Cv.out s x i := by decide +kernel
theorem word_or : ∀ s, s < 64 → ∀ x, x < 2 → (64 * x) ||| s = 64 * x + s := by decide +kernel

set_option maxHeartbeats 400000 in
/-- conv.odd. -/
theorem oddC (n : Nat) (w : World) (hn : n < 128) : Calls Tryd.prog 75 #[.int .i64 (n : Int)] w fun e w' => e = .returned (.int .u8 (pr 7 n : Nat)) ∧ w = w' := by
  go_enter Tryd.func75, Tryd.ntmps75
  go_wp2
  go_loop [0, 3] (fun m s => ∃ f k r : Nat, f ≤ 7 ∧ k < 2 ^ f ∧ k < 128 ∧ r ≤ 1 ∧ m = .int .i64 (k : Int) ∧ s = .int .u8 (r : Int) ∧ Hid (r ^^^ pr f k = pr 7 n)) (fun m _ => (intOf m).toNat)
  case atStart => exact ⟨7, n, 0, by omega, by omega, by omega, by omega, rfl, rfl, by unfold Hid; rw [Nat.zero_xor]⟩
  case round =>
    obtain ⟨f, k, r, hf, hk, hk2, hr, rfl, rfl, HR⟩ := hrel
    by_cases h0 : 0 < k
    · have e1 : bits BinOp.and IntKind.i64 (k : Int) 1 = ((k % 2 : Nat) : Int) := by
        have := i64_and_nat k 1 (by omega) (by omega)
        rw [nat_mask1] at this
        exact this
      have e2 : (k : Int) / 2 = ((k / 2 : Nat) : Int) := by omega
      obtain ⟨g, rfl⟩ : ∃ g, f = g + 1 := by
        cases f with
        | zero => simp at hk; omega
        | succ g => exact ⟨g, rfl⟩
      have hk3 : k / 2 < 2 ^ g := by rw [Nat.pow_succ] at hk; omega
      have HR2 : Hid ((r ^^^ k % 2) ^^^ pr g (k / 2) = pr 7 n) := by unfold Hid; rw [Nat.xor_assoc]; exact HR.out
      have e3 : bits BinOp.xor IntKind.u8 (r : Int) ((k % 2 : Nat) : Int) = ((r ^^^ k % 2 : Nat) : Int) := u8_xor_nat r (k % 2) (by omega) (by omega)
      have hb : r ^^^ k % 2 ≤ 1 := Cv.xor_bit hr (by omega)
      have hm : k % 2 ≤ 1 := by omega
      have hkk : k / 2 < k := by omega
      obtain ⟨m, hme⟩ : ∃ m, m = k % 2 := ⟨_, rfl⟩
      obtain ⟨j, hje⟩ : ∃ j, j = k / 2 := ⟨_, rfl⟩
      rw [← hme] at e1 e3 hb hm HR2
      rw [← hje] at e2 hk3 HR2 hkk
      clear hme hje hk HR
      go_wp2
      go_round
      case rel => exact ⟨g, j, r ^^^ m, by omega, hk3, by omega, hb, rfl, rfl, HR2.out⟩
      case measure => simp [intOf] <;> omega
    · go_wp2
      go_ret
      refine ⟨ret_int' ?_, rfl⟩
      rw [← HR.out, show k = 0 by omega, pr_zero, Nat.xor_zero]
set_option maxHeartbeats 400000 in
/-- conv.word. -/
theorem wordC (s x : Nat) (w : World) (hs : s < 64) (hx : x ≤ 1) : Calls Tryd.prog 52 #[.int .i64 (s : Int), .int .u8 (x : Int)] w fun e w' => e = .returned (.int .i64 ((64 * x + s : Nat) : Int)) ∧ w = w' := by
  have e1 : bits BinOp.or IntKind.i64 ((x : Int) * 64) (s : Int) = ((64 * x + s : Nat) : Int) := by
    have := i64_or_nat (64 * x) s (by omega) (by omega)
    rw [word_or s hs x (by omega)] at this
    rw [← this]
    congr 1
    omega
  generalize 64 * x + s = q at *
  go_enter Tryd.func52, Tryd.ntmps52
  go_wp2
  go_ret
  exact ⟨rfl, rfl⟩
set_option maxHeartbeats 400000 in
/-- conv.behind. -/
theorem behindC (q : Nat) (w : World) (hq : q < 128) : Calls Tryd.prog 54 #[.int .i64 (q : Int)] w fun e w' => e = .returned (.int .i64 ((q / 2 : Nat) : Int)) ∧ w = w' := by
  go_enter Tryd.func54, Tryd.ntmps54
  go_wp2
  go_ret
  exact ⟨ret_int' (by omega), rfl⟩
set_option maxHeartbeats 400000 in
/-- conv.right of a state and a bit. -/
theorem convRight (s x : Nat) (w : World) (hs : s < 64) (hx : x ≤ 1) : Calls Tryd.prog 89 #[.int .i64 (s : Int), .int .u8 (x : Int)] w fun e w' => e = .returned (.bool true) ∧ w = w' := by
  have hx2 : decide ((x : Int) ≤ 1) = true := by simp; omega
  go_enter Tryd.func89, Tryd.ntmps89
  go_wp2
  go_ret
  exact ⟨rfl, rfl⟩
set_option maxHeartbeats 400000 in
/-- conv.right else. -/
theorem convRightNo (s : Int) (x : Nat) (w : World) (h : s < 0 ∨ 63 < s ∨ 1 < x) : Calls Tryd.prog 89 #[.int .i64 s, .int .u8 (x : Int)] w fun e w' => e = .returned (.bool false) ∧ w = w' := by
  by_cases h1 : 0 ≤ s
  · by_cases h2 : s < 64
    · have h3 : decide ((x : Int) ≤ 1) = false := by simp; omega
      go_enter Tryd.func89, Tryd.ntmps89
      go_wp2
      go_ret
      exact ⟨rfl, rfl⟩
    · go_enter Tryd.func89, Tryd.ntmps89
      go_wp2
      go_ret
      exact ⟨rfl, rfl⟩
  · go_enter Tryd.func89, Tryd.ntmps89
    go_wp2
    go_ret
    exact ⟨rfl, rfl⟩
set_option maxHeartbeats 400000 in
/-- conv.Steps. -/
theorem stepsC (n : Nat) (w : World) (hn : n ≤ 4611686018427387904) : Calls Tryd.prog 51 #[.int .i64 (n : Int)] w fun e w' => e = .returned (.int .i64 ((n + 6 : Nat) : Int)) ∧ w = w' := by
  go_enter Tryd.func51, Tryd.ntmps51
  go_wp2
  go_ret
  exact ⟨ret_int' (by omega), rfl⟩
end Go.Proofs.YtibddlldgmidlabDoor
