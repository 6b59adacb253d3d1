/-
  Plain mathematics for layer 3's Rest: the rest of a list of coefficients. No program is named.
-/
import Derived.Test.YtmafkcjlehlebaaPoly
namespace Go.Proofs.Ytmafkcjlehlebaa.Poly
set_option linter.unusedVariables false

/-- One coefficient more is taken in. -/
def st (b r x : Nat) : Nat := if (2 * r + x % 2) / 2 ^ (bl b - 1) % 2 = 1 then (2 * r + x % 2) ^^^ b else 2 * r + x % 2
/-- The rest of coefficients. -/
def restL (b : Nat) (l : List Nat) : Nat := l.foldl (st b) 0
/-- The polynomial of coefficients. -/
def val (l : List Nat) : Nat := l.foldl (fun v x => 2 * v + x % 2) 0

theorem restL_snoc (b : Nat) (l : List Nat) (x : Nat) : restL b (l ++ [x]) = st b (restL b l) x := by simp [restL]
theorem val_snoc (l : List Nat) (x : Nat) : val (l ++ [x]) = 2 * val l + x % 2 := by simp [val]

theorem two_add (v c : Nat) (hc : c ≤ 1) : 2 * v + c = 2 * v ^^^ c := by
  have h := split2 (2 * v + c)
  have e : (2 * v + c) / 2 = v := by omega
  rw [e] at h
  rw [h]
  conv => lhs; rw [← h]
  rw [Nat.xor_comm] at h
  rw [h]
  congr 1
  have : c = 0 ∨ c = 1 := by omega
  rcases this with rfl | rfl
  · simp
  · rw [if_pos (by omega)]

theorem st_div (b v q r x : Nat) (hb : b ≠ 0) (h : Div v b q r) : ∃ q', Div (2 * v + x % 2) b q' (st b r x) := by
  obtain ⟨h1, h2⟩ := h
  have p := (bl_pos b).2 hb
  have hlt : 2 * r + x % 2 < 2 ^ bl b := by
    have := (bl_le r (bl b - 1)).1 (by omega)
    have e : 2 ^ bl b = 2 * 2 ^ (bl b - 1) := by rw [show bl b = bl b - 1 + 1 by omega, Nat.pow_succ, Nat.mul_comm, Nat.add_sub_cancel]
    omega
  have base : 2 * v + x % 2 = pm (2 * q) b ^^^ (2 * r + x % 2) := by
    rw [two_add v _ (by omega), two_add r _ (by omega), ← Nat.xor_assoc, pm_two_left, ← two_mul_xor, ← h1]
  unfold st
  split
  · rename_i ht
    refine ⟨2 * q ^^^ 1, ?_, ?_⟩
    · rw [pm_xor_left, one_pm, xor4, base, Nat.xor_self, Nat.xor_zero]
    · have hge : 2 ^ (bl b - 1) ≤ 2 * r + x % 2 := by
        apply Nat.le_of_not_lt
        intro hc
        rw [Nat.div_eq_of_lt hc] at ht
        omega
      have e : bl (2 * r + x % 2) = bl b := by
        have := bl_of (2 * r + x % 2) (bl b - 1) hge (by rw [show bl b - 1 + 1 = bl b by omega]; exact hlt)
        omega
      have := bl_xor_top (2 * r + x % 2) b (by have := Nat.two_pow_pos (bl b - 1); omega) e
      omega
  · rename_i ht
    refine ⟨2 * q, base, ?_⟩
    have hlt2 : 2 * r + x % 2 < 2 ^ (bl b - 1) := by
      apply Nat.lt_of_not_le
      intro hc
      apply ht
      have e : 2 ^ bl b = 2 * 2 ^ (bl b - 1) := by rw [show bl b = bl b - 1 + 1 by omega, Nat.pow_succ, Nat.mul_comm, Nat.add_sub_cancel]
      rw [Nat.div_eq_of_lt_le (k := 1) (by omega) (by omega)]
    have := (bl_le _ _).2 hlt2
    omega

theorem restL_div (b : Nat) (hb : b ≠ 0) (l : List Nat) : ∃ q, Div (val l) b q (restL b l) := by
  suffices h : ∀ (l : List Nat) (v r : Nat), (∃ q, Div v b q r) → ∃ q, Div (l.foldl (fun v x => 2 * v + x % 2) v) b q (l.foldl (st b) r) by
    exact h l 0 0 ⟨0, by rw [zero_pm, Nat.zero_xor], by rw [bl_zero]; exact (bl_pos b).2 hb⟩
  intro l
  induction l with
  | nil => intro v r h; exact h
  | cons x l ih =>
    intro v r ⟨q, h⟩
    exact ih _ _ (st_div b v q r x hb h)

theorem restL_rem (b : Nat) (hb : b ≠ 0) (l : List Nat) : restL b l = rem (val l) b := by
  obtain ⟨q, h⟩ := restL_div b hb l
  exact (h.uniq (div_rem (val l) b hb)).2
theorem restL_lt (b : Nat) (hb : b ≠ 0) (l : List Nat) : restL b l < 2 ^ (bl b - 1) := by
  obtain ⟨q, h1, h2⟩ := restL_div b hb l
  exact (bl_le _ _).1 (by omega)

/-- The coefficients of a, the highest of k first. -/
def coefs (a : Nat) : Nat → List Nat
  | 0 => []
  | k + 1 => a / 2 ^ k % 2 :: coefs a k
/-- The first j of 64. -/
def coefsTo (a : Nat) : Nat → List Nat
  | 0 => []
  | j + 1 => coefsTo a j ++ [a / 2 ^ (63 - j) % 2]
theorem coefsTo_length (a : Nat) : ∀ j, (coefsTo a j).length = j
  | 0 => rfl
  | j + 1 => by simp [coefsTo, coefsTo_length a j]
theorem coefsTo_bit (a : Nat) : ∀ j, ∀ x ∈ coefsTo a j, x ≤ 1
  | 0, x, h => by simp [coefsTo] at h
  | j + 1, x, h => by
    simp only [coefsTo, List.mem_append, List.mem_cons, List.not_mem_nil, or_false] at h
    rcases h with h | h
    · exact coefsTo_bit a j x h
    · omega
theorem val_coefsTo (a : Nat) (ha : a < 2 ^ 64) : ∀ j, j ≤ 64 → val (coefsTo a j) = a / 2 ^ (64 - j)
  | 0, _ => by rw [Nat.div_eq_of_lt ha]; rfl
  | j + 1, h => by
    rw [coefsTo, val_snoc, val_coefsTo a ha j (by omega)]
    have e : a / 2 ^ (64 - j) = a / 2 ^ (63 - j) / 2 := by rw [show 64 - j = 63 - j + 1 by omega, Nat.pow_succ, Nat.div_div_eq_div_mul]
    rw [e, show 64 - (j + 1) = 63 - j by omega]
    omega
theorem val_all (a : Nat) (ha : a < 2 ^ 64) : val (coefsTo a 64) = a := by
  rw [val_coefsTo a ha 64 (Nat.le_refl _)]; simp
end Go.Proofs.Ytmafkcjlehlebaa.Poly
