/-
  Plain mathematics for layers 4 and 5: what is closed by its sum leads to one value of the register. No program is named.
-/
import Derived.Test.YtkmacepodomdmaaDoorCm
namespace Go.Proofs.YtkmacepodomdmaaDoor.Crc
set_option linter.unusedVariables false

theorem up8_16 : ∀ y, y < 256 → it s16 8 y = y * 256 := by decide +kernel
theorem join16 (x y : Nat) (hy : y < 256) : x * 256 ^^^ y = x * 256 + y := by
  have e := Nat.two_pow_add_eq_or_of_lt (i := 8) (b := y) (by omega) x
  have e2 : x * 256 ||| y = x * 256 ^^^ y := by
    apply Nat.eq_of_testBit_eq
    intro j
    rw [Nat.testBit_xor, Nat.testBit_or]
    by_cases hj : j < 8
    · have : (x * 256).testBit j = false := by
        rw [show x * 256 = 2 ^ 8 * x by omega, Nat.testBit_two_pow_mul]
        simp; omega
      rw [this]; simp
    · have : y.testBit j = false := Nat.testBit_lt_two_pow (Nat.lt_of_lt_of_le hy (Nat.pow_le_pow_right (n := 2) (i := 8) (by decide) (by omega)))
      rw [this]; simp
  rw [← e2, Nat.mul_comm x 256]; exact e.symm
/-- Two bytes behind. -/
theorem tail16 (l : List Nat) (x y : Nat) (hy : y < 256) : r16 (l ++ [x, y]) = it s16 16 (r16 l ^^^ (x * 256 + y)) := by
  have e : l ++ [x, y] = (l ++ [x]) ++ [y] := by simp
  unfold r16
  rw [e, run_snoc, run_snoc]
  unfold tk
  rw [← up8_16 y hy, ← (s16_lin.it 8), ← it_add, Nat.xor_assoc, join16 x y hy]
theorem right16 (l : List Nat) (x y : Nat) (hl : ∀ b ∈ l, b < 256) (hx : x < 256) (hy : y < 256) : r16 (l ++ [x, y]) = 0 ↔ r16 l = x * 256 + y := by
  rw [tail16 l x y hy]
  have h1 := r16_lt l hl
  constructor
  · intro h
    exact Poly.xor_eq_zero _ _ (it16_zero 16 _ (Nat.xor_lt_two_pow (n := 16) h1 (by omega)) h)
  · intro h
    rw [h, Nat.xor_self]; exact (s16_lin.it 16).zero
theorem split2 (bs : List Nat) (h : 2 ≤ bs.length) : bs = bs.take (bs.length - 2) ++ [bs.getD (bs.length - 2) 0, bs.getD (bs.length - 1) 0] := by
  conv => lhs; rw [← List.take_append_drop (bs.length - 2) bs]
  congr 1
  rw [Bm.getD_lt _ _ _ (by omega), Bm.getD_lt _ _ _ (by omega), ← List.getElem_cons_drop (h := by omega)]
  congr 1
  have e : bs.length - 2 + 1 = bs.length - 1 := by omega
  rw [List.drop_eq_getElem_cons (by omega : bs.length - 2 + 1 < bs.length)]
  simp only [e]
  rw [List.drop_of_length_le (by omega)]
/-- Are the last two bytes the sum of those ahead? -/
def ok16 (bs : List Nat) : Bool := decide (2 ≤ bs.length ∧ r16 (bs.take (bs.length - 2)) = bs.getD (bs.length - 2) 0 * 256 + bs.getD (bs.length - 1) 0)
theorem ok16_eq (bs : List Nat) (hb : ∀ b ∈ bs, b < 256) (h : 2 ≤ bs.length) : ok16 bs = decide (r16 bs = 0) := by
  have e := split2 bs h
  have h2 := right16 (bs.take (bs.length - 2)) (bs.getD (bs.length - 2) 0) (bs.getD (bs.length - 1) 0) (fun b hh => hb b (List.mem_of_mem_take hh)) (Bm.byte_lt bs hb _) (Bm.byte_lt bs hb _)
  rw [← e] at h2
  unfold ok16
  rw [Bool.eq_iff_iff]
  simp only [decide_eq_true_eq]
  rw [h2]
  exact ⟨fun h => h.2, fun h3 => ⟨h, h3⟩⟩
/-- Bytes with their sum behind. -/
def seal16 (l : List Nat) : List Nat := l ++ [r16 l / 256, r16 l % 256]
theorem seal16_length (l : List Nat) : (seal16 l).length = l.length + 2 := by simp [seal16]
theorem seal16_lt (l : List Nat) (h : ∀ b ∈ l, b < 256) : ∀ b ∈ seal16 l, b < 256 := by
  intro b hb
  have := r16_lt l h
  simp only [seal16, List.mem_append, List.mem_cons, List.not_mem_nil, or_false] at hb
  rcases hb with hb | rfl | rfl
  · exact h b hb
  · omega
  · omega
theorem seal16_zero (l : List Nat) (h : ∀ b ∈ l, b < 256) : r16 (seal16 l) = 0 := by
  have := r16_lt l h
  exact (right16 l _ _ h (by omega) (by omega)).2 (by omega)

/-- What a byte of which one bit is turned does. -/
theorem flip16 (bs : List Nat) (q r k i : Nat) (hr : r ≤ 7) (hi : i ≤ 15) (h : 8 * q + r = k + i) (hn : k + i < 8 * bs.length) :
    r16 (bs.set q (bs.getD q 0 ^^^ 2 ^ (7 - r))) = r16 bs ^^^ it s16 (8 * bs.length - k) (2 ^ (15 - i)) := by
  have := run_set s16_lin 8 bs q (2 ^ (7 - r)) 65535 (by omega)
  rw [place16 bs.length q r k i hr hi h hn] at this
  exact this
theorem flip32 (bs : List Nat) (q r k i : Nat) (hr : r ≤ 7) (hi : i ≤ 31) (h : 8 * q + r = k + i) (hn : k + i < 8 * bs.length) :
    r32 (bs.set q (bs.getD q 0 ^^^ 2 ^ r)) = r32 bs ^^^ it s32 (8 * bs.length - k) (2 ^ i) := by
  have := run_set s32_lin 0 bs q (2 ^ r) 4294967295 (by omega)
  rw [place32 bs.length q r k i hr hi h hn] at this
  exact this
end Go.Proofs.YtkmacepodomdmaaDoor.Crc
