/-
  Plain mathematics for layer 3 (gf2): polynomials over two numbers as natural numbers: product, degree, division with rest, what divides both. No program is named.
-/
namespace Go.Proofs.Ytoiibjblaafgpab.Poly

theorem two_mul_xor (x y : Nat) : 2 * (x ^^^ y) = 2 * x ^^^ 2 * y := by
  have h := Nat.shiftLeft_xor_distrib (a := x) (b := y) (i := 1)
  simp only [Nat.shiftLeft_eq, Nat.pow_one] at h
  rw [Nat.mul_comm 2 x, Nat.mul_comm 2 y, Nat.mul_comm 2]; exact h

theorem xor_div (x y : Nat) : (x ^^^ y) / 2 = x / 2 ^^^ y / 2 := Nat.xor_div_two

theorem split2 (b : Nat) : b = (if b % 2 = 1 then 1 else 0) ^^^ 2 * (b / 2) := by
  apply Nat.eq_of_testBit_eq
  intro i
  rw [Nat.testBit_xor]
  cases i with
  | zero => 
    have h2 : (2 * (b / 2)).testBit 0 = false := by simp [Nat.testBit_zero]
    rw [h2]; split <;> rename_i h <;> simp [Nat.testBit_zero, h]
  | succ i =>
    rw [show 2 * (b / 2) = 2 ^ 1 * (b / 2) by omega]
    rw [Nat.testBit_succ, Nat.testBit_two_pow_mul]
    have : (if b % 2 = 1 then 1 else 0 : Nat).testBit (i + 1) = false := by split <;> simp [Nat.testBit_succ]
    rw [this]; simp

/-- The product. -/
def pm (a b : Nat) : Nat := if h : b = 0 then 0 else (if b % 2 = 1 then a else 0) ^^^ (2 * pm a (b / 2))
  termination_by b
  decreasing_by omega

theorem pm_zero (a : Nat) : pm a 0 = 0 := by unfold pm; simp
theorem pm_eq (a b : Nat) : pm a b = (if b % 2 = 1 then a else 0) ^^^ (2 * pm a (b / 2)) := by
  by_cases h : b = 0
  · subst h; simp [pm_zero]
  · conv => lhs; unfold pm
    simp [h]

theorem zero_pm (b : Nat) : pm 0 b = 0 := by
  induction b using Nat.strongRecOn with
  | ind b ih =>
    by_cases h : b = 0
    · subst h; exact pm_zero 0
    · rw [pm_eq, ih (b / 2) (by omega)]; simp

theorem xor4 (a b c d : Nat) : (a ^^^ b) ^^^ (c ^^^ d) = (a ^^^ c) ^^^ (b ^^^ d) := by
  rw [Nat.xor_assoc, Nat.xor_assoc, ← Nat.xor_assoc b c d, ← Nat.xor_assoc c b d, Nat.xor_comm b c]

theorem pm_xor_left (x y b : Nat) : pm (x ^^^ y) b = pm x b ^^^ pm y b := by
  induction b using Nat.strongRecOn with
  | ind b ih =>
    by_cases h : b = 0
    · subst h; simp [pm_zero]
    · rw [pm_eq, pm_eq x, pm_eq y, ih (b / 2) (by omega), two_mul_xor]
      rw [xor4]
      split <;> simp

theorem pm_xor_right (a : Nat) : ∀ n x y : Nat, x ≤ n → y ≤ n → pm a (x ^^^ y) = pm a x ^^^ pm a y := by
  intro n
  induction n using Nat.strongRecOn with
  | ind n ih =>
    intro x y hx hy
    by_cases h0 : n = 0
    · have : x = 0 := by omega
      have : y = 0 := by omega
      subst x y; simp [pm_zero]
    · rw [pm_eq, pm_eq a x, pm_eq a y, xor_div, ih (n / 2) (by omega) (x / 2) (y / 2) (by omega) (by omega), two_mul_xor, xor4]
      congr 1
      have hm : (x ^^^ y) % 2 = 1 ↔ ¬ (x % 2 = 1 ↔ y % 2 = 1) := Nat.xor_mod_two_eq_one
      by_cases h1 : x % 2 = 1 <;> by_cases h2 : y % 2 = 1 <;> simp [h1, h2, hm]

theorem pm_xor (a x y : Nat) : pm a (x ^^^ y) = pm a x ^^^ pm a y := pm_xor_right a (max x y) x y (Nat.le_max_left _ _) (Nat.le_max_right _ _)

theorem pm_two_left (a b : Nat) : pm (2 * a) b = 2 * pm a b := by
  induction b using Nat.strongRecOn with
  | ind b ih =>
    by_cases h : b = 0
    · subst h; simp [pm_zero]
    · rw [pm_eq, pm_eq a b, ih (b / 2) (by omega), two_mul_xor]
      congr 1
      split <;> simp

theorem pm_two_right (a b : Nat) : pm a (2 * b) = 2 * pm a b := by
  rw [pm_eq]; simp

theorem one_pm (b : Nat) : pm 1 b = b := by
  induction b using Nat.strongRecOn with
  | ind b ih =>
    by_cases h : b = 0
    · subst h; exact pm_zero 1
    · rw [pm_eq, ih (b / 2) (by omega)]; exact (split2 b).symm

theorem pm_one (a : Nat) : pm a 1 = a := by
  rw [pm_eq]; simp [pm_zero]

theorem pm_comm (a b : Nat) : pm a b = pm b a := by
  induction b using Nat.strongRecOn with
  | ind b ih =>
    by_cases h : b = 0
    · subst h; rw [pm_zero, zero_pm]
    · rw [pm_eq, ih (b / 2) (by omega)]
      conv => rhs; rw [split2 b, pm_xor_left, pm_two_left]
      congr 1
      split
      · rw [one_pm]
      · rw [zero_pm]

theorem pm_assoc (a b c : Nat) : pm (pm a b) c = pm a (pm b c) := by
  induction c using Nat.strongRecOn with
  | ind c ih =>
    by_cases h : c = 0
    · subst h; simp [pm_zero]
    · rw [pm_eq (pm a b) c, ih (c / 2) (by omega), pm_eq b c, pm_xor, pm_two_right]
      congr 1
      split
      · rfl
      · rw [pm_zero]

theorem pm_pow_left (b : Nat) : ∀ d : Nat, pm (2 ^ d) b = b * 2 ^ d
  | 0 => by rw [Nat.pow_zero, one_pm, Nat.mul_one]
  | d + 1 => by
    rw [Nat.pow_succ, Nat.mul_comm (2 ^ d) 2, pm_two_left, pm_pow_left b d, ← Nat.mul_assoc, Nat.mul_comm 2 b, Nat.mul_assoc]

theorem xor_self_cancel (x y : Nat) : (x ^^^ y) ^^^ y = x := by rw [Nat.xor_assoc, Nat.xor_self, Nat.xor_zero]
theorem xor_eq_zero (x y : Nat) (h : x ^^^ y = 0) : x = y := by
  have := xor_self_cancel x y; rw [h] at this; simpa using this.symm

/-- With something lower, the highest power stays. -/
theorem xor_top (n x y : Nat) (hy : y < 2 ^ n) (h1 : 2 ^ n ≤ x) (h2 : x < 2 ^ (n + 1)) : 2 ^ n ≤ x ^^^ y ∧ x ^^^ y < 2 ^ (n + 1) := by
  refine ⟨?_, Nat.xor_lt_two_pow h2 (Nat.lt_of_lt_of_le hy (Nat.pow_le_pow_right (by decide) (by omega)))⟩
  apply Nat.le_of_not_lt
  intro h
  have := Nat.xor_lt_two_pow h hy
  rw [xor_self_cancel] at this
  omega

theorem pm_top (a k : Nat) (h1 : 2 ^ k ≤ a) (h2 : a < 2 ^ (k + 1)) : ∀ l b : Nat, 2 ^ l ≤ b → b < 2 ^ (l + 1) → 2 ^ (k + l) ≤ pm a b ∧ pm a b < 2 ^ (k + l + 1)
  | 0, b, hb1, hb2 => by
    have : b = 1 := by simp at hb1 hb2; omega
    subst this; rw [pm_one]; exact ⟨h1, h2⟩
  | l + 1, b, hb1, hb2 => by
    have ih := pm_top a k h1 h2 l (b / 2) (by rw [Nat.pow_succ] at hb1; omega) (by rw [Nat.pow_succ] at hb2; omega)
    rw [pm_eq, Nat.xor_comm]
    refine xor_top (k + (l + 1)) _ _ ?_ ?_ ?_
    · have : 2 ^ (k + 1) ≤ 2 ^ (k + (l + 1)) := Nat.pow_le_pow_right (by decide) (by omega)
      have : 0 < 2 ^ (k + (l + 1)) := Nat.two_pow_pos _
      split <;> omega
    · rw [← Nat.add_assoc, Nat.pow_succ]; omega
    · rw [← Nat.add_assoc, Nat.pow_succ]; omega

/-- How many bits: of 0 none. -/
def bl (x : Nat) : Nat := if x = 0 then 0 else Nat.log2 x + 1

theorem bl_zero : bl 0 = 0 := rfl
theorem bl_le (x n : Nat) : bl x ≤ n ↔ x < 2 ^ n := by
  unfold bl
  split
  · rename_i h; subst h; simp [Nat.two_pow_pos]
  · rename_i h
    rw [← Nat.log2_lt h]; omega
theorem bl_lt (x n : Nat) : n < bl x ↔ 2 ^ n ≤ x := by
  have := bl_le x n; omega
theorem bl_bounds (x : Nat) (h : x ≠ 0) : 2 ^ (bl x - 1) ≤ x ∧ x < 2 ^ (bl x - 1 + 1) := by
  have h1 : 0 < bl x := by unfold bl; simp [h]
  refine ⟨(bl_lt x (bl x - 1)).1 (by omega), (bl_le x _).1 (by omega)⟩
theorem bl_of (x n : Nat) (h1 : 2 ^ n ≤ x) (h2 : x < 2 ^ (n + 1)) : bl x = n + 1 := by
  have := (bl_le x (n + 1)).2 h2
  have := (bl_lt x n).2 h1
  omega
theorem bl_pos (x : Nat) : 0 < bl x ↔ x ≠ 0 := by
  rw [bl_lt]; simp; omega
theorem bl_eq_zero (x : Nat) : bl x = 0 ↔ x = 0 := by have := bl_pos x; omega

theorem bl_pm (a b : Nat) (ha : a ≠ 0) (hb : b ≠ 0) : bl (pm a b) + 1 = bl a + bl b := by
  have h1 := bl_bounds a ha
  have h2 := bl_bounds b hb
  have p1 := (bl_pos a).2 ha
  have p2 := (bl_pos b).2 hb
  have h3 := pm_top a (bl a - 1) h1.1 h1.2 (bl b - 1) b h2.1 h2.2
  have := bl_of _ _ h3.1 h3.2
  omega
theorem pm_ne (a b : Nat) (ha : a ≠ 0) (hb : b ≠ 0) : pm a b ≠ 0 := by
  have h := bl_pm a b ha hb
  have p1 := (bl_pos a).2 ha
  have p2 := (bl_pos b).2 hb
  rw [← bl_pos]; omega
theorem pm_eq_zero (a b : Nat) (h : pm a b = 0) : a = 0 ∨ b = 0 := by
  by_cases ha : a = 0
  · exact .inl ha
  · by_cases hb : b = 0
    · exact .inr hb
    · exact absurd h (pm_ne a b ha hb)

theorem bl_xor_lt (x y n : Nat) (hx : bl x ≤ n) (hy : bl y ≤ n) : bl (x ^^^ y) ≤ n := by
  rw [bl_le] at *; exact Nat.xor_lt_two_pow hx hy

/-- Two of the same degree: their sum has a lower one. -/
theorem bl_xor_top (x y : Nat) (hx : x ≠ 0) (h : bl x = bl y) : bl (x ^^^ y) < bl x := by
  have p := (bl_pos x).2 hx
  have hy : y ≠ 0 := by rw [← bl_pos]; omega
  have b1 := bl_bounds x hx
  have b2 := bl_bounds y hy
  rw [← h] at b2
  have : bl (x ^^^ y) ≤ bl x - 1 := by
    rw [bl_le]
    apply Nat.lt_of_not_le
    intro hc
    have hc2 : x ^^^ y < 2 ^ (bl x - 1 + 1) := Nat.xor_lt_two_pow b1.2 b2.2
    have e1 : x.testBit (bl x - 1) = true := by
      rw [Nat.testBit_eq_decide_div_mod_eq]
      have : x / 2 ^ (bl x - 1) = 1 := by
        rw [Nat.pow_succ] at b1
        exact Nat.div_eq_of_lt_le (by omega) (by omega)
      simp [this]
    have e2 : y.testBit (bl x - 1) = true := by
      rw [Nat.testBit_eq_decide_div_mod_eq]
      have : y / 2 ^ (bl x - 1) = 1 := by
        rw [Nat.pow_succ] at b2
        exact Nat.div_eq_of_lt_le (by omega) (by omega)
      simp [this]
    have e3 : (x ^^^ y).testBit (bl x - 1) = true := by
      rw [Nat.testBit_eq_decide_div_mod_eq]
      have : (x ^^^ y) / 2 ^ (bl x - 1) = 1 := by
        rw [Nat.pow_succ] at hc2
        exact Nat.div_eq_of_lt_le (by omega) (by omega)
      simp [this]
    rw [Nat.testBit_xor, e1, e2] at e3
    cases e3
  omega

theorem bl_shl (b d : Nat) (hb : b ≠ 0) : bl (b * 2 ^ d) = bl b + d := by
  have h := bl_bounds b hb
  have p := (bl_pos b).2 hb
  have := bl_of (b * 2 ^ d) (bl b - 1 + d) (by rw [Nat.pow_add]; exact Nat.mul_le_mul_right _ h.1) (by
    rw [show bl b - 1 + d + 1 = (bl b - 1 + 1) + d by omega, Nat.pow_add]
    exact Nat.mul_lt_mul_of_pos_right h.2 (Nat.two_pow_pos d))
  omega

/-- 'q' and 'r' are quotient and rest of a by b. -/
def Div (a b q r : Nat) : Prop := a = pm q b ^^^ r ∧ bl r < bl b

/-- Quotient and rest are told by that. -/
theorem Div.uniq {a b q r q' r' : Nat} (h : Div a b q r) (h' : Div a b q' r') : q = q' ∧ r = r' := by
  obtain ⟨h1, h2⟩ := h
  obtain ⟨h1', h2'⟩ := h'
  have e : pm q b ^^^ r = pm q' b ^^^ r' := h1.symm.trans h1'
  have e2 : pm (q ^^^ q') b = r ^^^ r' := by
    rw [pm_xor_left]
    apply xor_eq_zero
    rw [xor4, e, Nat.xor_self]
  have hq : q ^^^ q' = 0 := by
    apply Decidable.byContradiction
    intro hne
    have hb : b ≠ 0 := by rw [← bl_pos]; omega
    have h3 := bl_pm _ b hne hb
    have h4 := (bl_pos _).2 hne
    rw [e2] at h3
    have h5 := bl_xor_lt r r' (bl b - 1) (by omega) (by omega)
    have h6 := (bl_pos _).2 hb
    omega
  have hq' := xor_eq_zero _ _ hq
  refine ⟨hq', ?_⟩
  rw [hq, zero_pm] at e2
  exact xor_eq_zero _ _ e2.symm

theorem Div.times {a b q r : Nat} (h : Div a b q r) (c : Nat) (hc : c ≠ 0) : Div (pm a c) (pm b c) q (pm r c) := by
  obtain ⟨h1, h2⟩ := h
  have hb : b ≠ 0 := by rw [← bl_pos]; omega
  refine ⟨?_, ?_⟩
  · rw [h1, pm_xor_left, pm_assoc]
  · have e1 := bl_pm b c hb hc
    by_cases hr : r = 0
    · subst hr; rw [zero_pm, bl_zero]
      have := (bl_pos _).2 (pm_ne b c hb hc); omega
    · have e2 := bl_pm r c hr hc
      have := (bl_pos c).2 hc
      omega

/-- One step of a division. -/
theorem step_lt (a b : Nat) (hb : b ≠ 0) (h : bl b ≤ bl a) : bl (a ^^^ b * 2 ^ (bl a - bl b)) < bl a := by
  have p := (bl_pos b).2 hb
  have ha : a ≠ 0 := by rw [← bl_pos]; omega
  refine bl_xor_top a _ ha ?_
  rw [bl_shl b _ hb]; omega

theorem step_inv (a0 a b q d : Nat) (h : a0 = pm q b ^^^ a) : a0 = pm (q ^^^ 2 ^ d) b ^^^ (a ^^^ b * 2 ^ d) := by
  rw [pm_xor_left, pm_pow_left, xor4, Nat.xor_self, Nat.xor_zero]
  exact h

/-- The rest. -/
def rem (a b : Nat) : Nat := if h : b ≠ 0 ∧ bl b ≤ bl a then rem (a ^^^ b * 2 ^ (bl a - bl b)) b else a
  termination_by bl a
  decreasing_by exact step_lt a b h.1 h.2
/-- The quotient. -/
def quo (a b : Nat) : Nat := if h : b ≠ 0 ∧ bl b ≤ bl a then 2 ^ (bl a - bl b) ^^^ quo (a ^^^ b * 2 ^ (bl a - bl b)) b else 0
  termination_by bl a
  decreasing_by exact step_lt a b h.1 h.2

theorem div_of (b : Nat) (hb : b ≠ 0) : ∀ n a : Nat, bl a ≤ n → Div a b (quo a b) (rem a b) := by
  intro n
  induction n using Nat.strongRecOn with
  | ind n ih =>
    intro a hn
    by_cases h : bl b ≤ bl a
    · have hlt := step_lt a b hb h
      obtain ⟨i1, i2⟩ := ih (bl (a ^^^ b * 2 ^ (bl a - bl b))) (by omega) _ (Nat.le_refl _)
      unfold quo rem
      rw [dif_pos ⟨hb, h⟩, dif_pos ⟨hb, h⟩]
      refine ⟨?_, i2⟩
      rw [pm_xor_left, pm_pow_left, Nat.xor_assoc, ← i1, Nat.xor_comm, xor_self_cancel]
    · unfold quo rem
      rw [dif_neg (fun c => h c.2), dif_neg (fun c => h c.2)]
      exact ⟨by rw [zero_pm, Nat.zero_xor], by omega⟩

theorem div_rem (a b : Nat) (hb : b ≠ 0) : Div a b (quo a b) (rem a b) := div_of b hb (bl a) a (Nat.le_refl _)

/-- What divides both. -/
def gcd (a b : Nat) : Nat := if _h : b = 0 then a else gcd b (rem a b)
  termination_by bl b
  decreasing_by exact (div_rem a b ‹_›).2

theorem gcd_zero (a : Nat) : gcd a 0 = a := by unfold gcd; simp
theorem gcd_step (a b : Nat) (h : b ≠ 0) : gcd a b = gcd b (rem a b) := by
  conv => lhs; unfold gcd
  simp [h]

theorem rem_times (a b c : Nat) (hb : b ≠ 0) (hc : c ≠ 0) : rem (pm a c) (pm b c) = pm (rem a b) c :=
  ((div_rem (pm a c) (pm b c) (pm_ne b c hb hc)).uniq ((div_rem a b hb).times c hc)).2

theorem gcd_times (c : Nat) (hc : c ≠ 0) : ∀ n a b : Nat, bl b ≤ n → gcd (pm a c) (pm b c) = pm (gcd a b) c := by
  intro n
  induction n using Nat.strongRecOn with
  | ind n ih =>
    intro a b hn
    by_cases hb : b = 0
    · subst hb; rw [zero_pm, gcd_zero, gcd_zero]
    · rw [gcd_step _ _ (pm_ne b c hb hc), gcd_step a b hb, rem_times a b c hb hc]
      have := (div_rem a b hb).2
      exact ih (bl (rem a b)) (by omega) b (rem a b) (Nat.le_refl _)

theorem gcd_times_any (a b c : Nat) : gcd (pm a c) (pm b c) = pm (gcd a b) c := by
  by_cases hc : c = 0
  · subst hc; simp [pm_zero, gcd_zero]
  · exact gcd_times c hc (bl b) a b (Nat.le_refl _)

/-- It divides both. -/
theorem gcd_divides : ∀ n a b : Nat, bl b ≤ n → (∃ x, a = pm x (gcd a b)) ∧ (∃ y, b = pm y (gcd a b)) := by
  intro n
  induction n using Nat.strongRecOn with
  | ind n ih =>
    intro a b hn
    by_cases hb : b = 0
    · subst hb; rw [gcd_zero]; exact ⟨⟨1, (one_pm a).symm⟩, ⟨0, (zero_pm a).symm⟩⟩
    · have hd := div_rem a b hb
      obtain ⟨⟨x, hx⟩, ⟨y, hy⟩⟩ := ih (bl (rem a b)) (by have := hd.2; omega) b (rem a b) (Nat.le_refl _)
      rw [gcd_step a b hb]
      refine ⟨⟨pm (quo a b) x ^^^ y, ?_⟩, ⟨x, hx⟩⟩
      rw [pm_xor_left, pm_assoc, ← hx, ← hy]
      exact hd.1

theorem rem_zero_of (a g x : Nat) (hg : g ≠ 0) (h : a = pm x g) : rem a g = 0 := by
  refine ((div_rem a g hg).uniq (q' := x) (r' := 0) ⟨by rw [Nat.xor_zero]; exact h, ?_⟩).2
  rw [bl_zero]; exact (bl_pos g).2 hg

theorem gcd_eq_zero (a b : Nat) : gcd a b = 0 ↔ a = 0 ∧ b = 0 := by
  constructor
  · intro h
    obtain ⟨⟨x, hx⟩, ⟨y, hy⟩⟩ := gcd_divides (bl b) a b (Nat.le_refl _)
    rw [h, pm_zero] at hx hy
    exact ⟨hx, hy⟩
  · rintro ⟨rfl, rfl⟩; exact gcd_zero 0

/-- The bounds of what comes. -/
theorem gcd_bl (n : Nat) : ∀ m a b : Nat, bl b ≤ m → bl a ≤ n → bl b ≤ n → bl (gcd a b) ≤ n := by
  intro m
  induction m using Nat.strongRecOn with
  | ind m ih =>
    intro a b hm ha hb'
    by_cases hb : b = 0
    · subst hb; rw [gcd_zero]; exact ha
    · rw [gcd_step a b hb]
      have := (div_rem a b hb).2
      exact ih (bl (rem a b)) (by omega) b (rem a b) (Nat.le_refl _) hb' (by omega)

end Go.Proofs.Ytoiibjblaafgpab.Poly
