/-
  Plain mathematics for layer 4: what is closed by its sum leads to one value of the register. No program is named.
-/
import Derived.Test.YtmafkcjlehlebaaCn
namespace Go.Proofs.Ytmafkcjlehlebaa.Crc
set_option linter.unusedVariables false

theorem dn8 : ∀ y, y < 256 → it s32 8 (y * 256) = y := by decide +kernel
theorem dn16 : ∀ y, y < 256 → it s32 16 (y * 65536) = y := by decide +kernel
theorem dn24 : ∀ y, y < 256 → it s32 24 (y * 16777216) = y := by decide +kernel

/-- The number of the first k bytes, the lowest first. -/
def leTo (l : List Nat) : Nat → Nat
  | 0 => 0
  | k + 1 => leTo l k + l.getD k 0 * 2 ^ (8 * k)
theorem leTo_lt (l : List Nat) (h : ∀ b ∈ l, b < 256) : ∀ k, leTo l k < 2 ^ (8 * k)
  | 0 => by simp [leTo]
  | k + 1 => by
    have h1 := leTo_lt l h k
    have h2 := Bm.byte_lt l h k
    unfold leTo
    have e : 2 ^ (8 * (k + 1)) = 256 * 2 ^ (8 * k) := by rw [Nat.mul_add, Nat.pow_add, Nat.mul_comm]
    have h3 : l.getD k 0 * 2 ^ (8 * k) ≤ 255 * 2 ^ (8 * k) := Nat.mul_le_mul_right _ (by omega)
    omega
theorem add_xor (i a y : Nat) (h : y < 2 ^ i) : y + a * 2 ^ i = y ^^^ a * 2 ^ i := by
  have e := Nat.two_pow_add_eq_or_of_lt h a
  have e2 : a * 2 ^ i ||| y = y ^^^ a * 2 ^ i := by
    apply Nat.eq_of_testBit_eq
    intro j
    rw [Nat.testBit_xor, Nat.testBit_or]
    by_cases hj : j < i
    · have : (a * 2 ^ i).testBit j = false := by
        rw [Nat.mul_comm, Nat.testBit_two_pow_mul]
        simp; omega
      rw [this]; simp
    · have : y.testBit j = false := Nat.testBit_lt_two_pow (Nat.lt_of_lt_of_le h (Nat.pow_le_pow_right (n := 2) (i := i) (by decide) (by omega)))
      rw [this]; simp
  rw [← e2, Nat.mul_comm a, ← e, Nat.add_comm]

/-- Four bytes behind. -/
theorem tail32 (l : List Nat) (a b c d : Nat) (ha : a < 256) (hb : b < 256) (hc : c < 256) (hd : d < 256) : r32 (l ++ [a, b, c, d]) = it s32 32 (r32 l ^^^ leTo [a, b, c, d] 4) := by
  have e : l ++ [a, b, c, d] = ((((l ++ [a]) ++ [b]) ++ [c]) ++ [d]) := by simp
  have hv : leTo [a, b, c, d] 4 = a ^^^ b * 256 ^^^ c * 65536 ^^^ d * 16777216 := by
    show 0 + a * 2 ^ 0 + b * 2 ^ 8 + c * 2 ^ 16 + d * 2 ^ 24 = _
    rw [add_xor 24 d _ (by omega), add_xor 16 c _ (by omega), add_xor 8 b _ (by omega)]
    simp
  rw [hv]
  unfold r32
  rw [e, run_snoc, run_snoc, run_snoc, run_snoc]
  generalize run s32 1 4294967295 l = s
  unfold tk
  simp only [Nat.mul_one]
  have e1 : it s32 8 (s ^^^ a) ^^^ b = it s32 8 (s ^^^ a ^^^ b * 256) := by rw [s32_lin.it 8 (s ^^^ a), dn8 b hb]
  have e2 : it s32 8 (it s32 8 (s ^^^ a ^^^ b * 256)) ^^^ c = it s32 16 (s ^^^ a ^^^ b * 256 ^^^ c * 65536) := by
    rw [← it_add, s32_lin.it 16 (s ^^^ a ^^^ b * 256), dn16 c hc]
  have e3 : it s32 8 (it s32 16 (s ^^^ a ^^^ b * 256 ^^^ c * 65536)) ^^^ d = it s32 24 (s ^^^ a ^^^ b * 256 ^^^ c * 65536 ^^^ d * 16777216) := by
    rw [← it_add, s32_lin.it 24 (s ^^^ a ^^^ b * 256 ^^^ c * 65536), dn24 d hd]
  have e4 : s ^^^ a ^^^ b * 256 ^^^ c * 65536 ^^^ d * 16777216 = s ^^^ (a ^^^ b * 256 ^^^ c * 65536 ^^^ d * 16777216) := by simp only [Nat.xor_assoc]
  rw [e1, e2, e3, e4]
  exact (it_add s32 24 8 _).symm

/-- What the register is behind whatever is closed. -/
def key : Nat := it s32 32 4294967295
theorem inj32 (n a b : Nat) (ha : a < 4294967296) (hb : b < 4294967296) (h : it s32 n a = it s32 n b) : a = b := by
  apply Poly.xor_eq_zero
  refine it32_zero n _ (Nat.xor_lt_two_pow (n := 32) ha hb) ?_
  rw [s32_lin.it n, h, Nat.xor_self]
theorem full_xor (r v : Nat) : 4294967295 ^^^ r = v ↔ r ^^^ v = 4294967295 := by
  constructor
  · intro h; rw [← h, Nat.xor_comm, Nat.xor_assoc, Nat.xor_self, Nat.xor_zero]
  · intro h; rw [← h, Nat.xor_comm, ← Nat.xor_assoc, Nat.xor_self, Nat.zero_xor]
theorem right32 (l : List Nat) (a b c d : Nat) (hl : ∀ b ∈ l, b < 256) (ha : a < 256) (hb : b < 256) (hc : c < 256) (hd : d < 256) : r32 (l ++ [a, b, c, d]) = key ↔ c32 l = leTo [a, b, c, d] 4 := by
  have h4 : ∀ x ∈ [a, b, c, d], x < 256 := by intro x hx; simp at hx; omega
  have hv := leTo_lt [a, b, c, d] h4 4
  rw [tail32 l a b c d ha hb hc hd, c32, full_xor]
  constructor
  · intro h; exact inj32 32 _ _ (Nat.xor_lt_two_pow (n := 32) (r32_lt l hl) hv) (by decide) h
  · intro h; rw [h]; rfl
theorem split4 (bs : List Nat) (h : 4 ≤ bs.length) : ∃ a b c d, bs.drop (bs.length - 4) = [a, b, c, d] := by
  have hl : (bs.drop (bs.length - 4)).length = 4 := by simp; omega
  match hd : bs.drop (bs.length - 4), hl with
  | [a, b, c, d], _ => exact ⟨a, b, c, d, rfl⟩
/-- Are the last four bytes the sum of those ahead? -/
def ok32 (bs : List Nat) : Bool := decide (4 ≤ bs.length ∧ c32 (bs.take (bs.length - 4)) = leTo (bs.drop (bs.length - 4)) 4)
theorem ok32_eq (bs : List Nat) (hb : ∀ b ∈ bs, b < 256) (h : 4 ≤ bs.length) : ok32 bs = decide (r32 bs = key) := by
  obtain ⟨a, b, c, d, e⟩ := split4 bs h
  have h4 : ∀ x ∈ [a, b, c, d], x < 256 := fun x hx => hb x (List.mem_of_mem_drop (by rw [e]; exact hx))
  have h2 := right32 (bs.take (bs.length - 4)) a b c d (fun b hh => hb b (List.mem_of_mem_take hh)) (h4 a (by simp)) (h4 b (by simp)) (h4 c (by simp)) (h4 d (by simp))
  rw [← e, List.take_append_drop] at h2
  unfold ok32
  rw [Bool.eq_iff_iff]
  simp only [decide_eq_true_eq]
  rw [h2]
  exact ⟨fun h => h.2, fun h3 => ⟨h, h3⟩⟩
/-- A number's four bytes, the lowest first. -/
def le4 (s : Nat) : List Nat := [s % 256, s / 256 % 256, s / 65536 % 256, s / 16777216 % 256]
theorem le4_lt (s : Nat) : ∀ x ∈ le4 s, x < 256 := by intro x hx; simp [le4] at hx; omega
theorem leTo_le4 (s : Nat) (hs : s < 4294967296) : leTo (le4 s) 4 = s := by
  show 0 + s % 256 * 2 ^ 0 + s / 256 % 256 * 2 ^ 8 + s / 65536 % 256 * 2 ^ 16 + s / 16777216 % 256 * 2 ^ 24 = s
  omega
theorem le4_take (s k : Nat) (h : k < 4) : (le4 s).take (k + 1) = (le4 s).take k ++ [s / 2 ^ (8 * k) % 256] := by
  match k, h with
  | 0, _ => simp [le4]
  | 1, _ => simp [le4]
  | 2, _ => simp [le4]
  | 3, _ => simp [le4]
/-- Bytes with their sum behind. -/
def close32 (l : List Nat) : List Nat := l ++ le4 (c32 l)
theorem close32_length (l : List Nat) : (close32 l).length = l.length + 4 := by simp [close32, le4]
theorem close32_lt (l : List Nat) (h : ∀ b ∈ l, b < 256) : ∀ b ∈ close32 l, b < 256 := by
  intro b hb
  rcases List.mem_append.1 hb with hb | hb
  · exact h b hb
  · exact le4_lt _ b hb
theorem close32_key (l : List Nat) (h : ∀ b ∈ l, b < 256) : r32 (close32 l) = key := by
  have h4 := le4_lt (c32 l)
  refine (right32 l _ _ _ _ h ?_ ?_ ?_ ?_).2 ?_
  · exact h4 _ (by simp [le4])
  · exact h4 _ (by simp [le4])
  · exact h4 _ (by simp [le4])
  · exact h4 _ (by simp [le4])
  · exact (leTo_le4 _ (c32_lt l h)).symm
theorem close32_take (l : List Nat) : (close32 l).take ((close32 l).length - 4) = l := by
  rw [close32_length, Nat.add_sub_cancel]; simp [close32]
end Go.Proofs.Ytmafkcjlehlebaa.Crc
