/-
  Plain mathematics for layer 1 (bits): lists of bits of bytes and back, turned lists, how far lists are apart. No program is named.
-/
namespace Go.Proofs.Ytoiibjblaafgpaa.Bm

theorem getD_lt {α : Type} (l : List α) (d : α) (i : Nat) (h : i < l.length) : l.getD i d = l[i] := by simp [List.getD, h]
theorem getD_ge {α : Type} (l : List α) (d : α) (i : Nat) (h : l.length ≤ i) : l.getD i d = d := by simp [List.getD, h]
theorem getD_left {α : Type} (l m : List α) (d : α) (i : Nat) (h : i < l.length) : (l ++ m).getD i d = l.getD i d := by simp [List.getD, List.getElem?_append_left h]
theorem getD_right {α : Type} (l m : List α) (d : α) (i : Nat) (h : l.length ≤ i) : (l ++ m).getD i d = m.getD (i - l.length) d := by simp [List.getD, List.getElem?_append_right h]

/-- The bits of one byte, the highest first. -/
def bits8 (b : Nat) : List Nat := [b / 128 % 2, b / 64 % 2, b / 32 % 2, b / 16 % 2, b / 8 % 2, b / 4 % 2, b / 2 % 2, b % 2]
/-- The bits of bytes. -/
def ofBytes (bs : List Nat) : List Nat := bs.flatMap bits8

theorem ofBytes_length (bs : List Nat) : (ofBytes bs).length = 8 * bs.length := by
  induction bs with
  | nil => rfl
  | cons b bs ih => simp only [ofBytes, List.flatMap_cons, List.length_append, List.length_cons] at *; rw [ih]; simp [bits8]; omega
theorem ofBytes_snoc (bs : List Nat) (b : Nat) : ofBytes (bs ++ [b]) = ofBytes bs ++ bits8 b := by simp [ofBytes]
theorem ofBytes_take (bs : List Nat) (k : Nat) (h : k < bs.length) : ofBytes (bs.take (k + 1)) = ofBytes (bs.take k) ++ bits8 (bs.getD k 0) := by
  rw [List.take_succ_eq_append_getElem h, ofBytes_snoc]
  simp [List.getD, h]
theorem bits8_bit (b k : Nat) (h : k < 8) : (bits8 b).getD k 0 = b / 2 ^ (7 - k) % 2 := by
  match k, h with
  | 0, _ | 1, _ | 2, _ | 3, _ | 4, _ | 5, _ | 6, _ => rfl
  | 7, _ => simp [bits8]
theorem bits8_all (b : Nat) : (bits8 b).take 8 = bits8 b := rfl
theorem bits8_take (b k : Nat) (h : k < 8) : (bits8 b).take (k + 1) = (bits8 b).take k ++ [b / 2 ^ (7 - k) % 2] := by
  rw [List.take_succ_eq_append_getElem (by simpa [bits8] using h), ← bits8_bit b k h]
  simp [List.getD, bits8, h]

theorem bit_le (l : List Nat) (hl : ∀ x ∈ l, x ≤ 1) (i : Nat) : l.getD i 0 ≤ 1 := by
  by_cases h : i < l.length
  · rw [getD_lt _ _ _ h]; exact hl _ (List.getElem_mem h)
  · rw [getD_ge _ _ _ (by omega)]; omega

/-- The byte of the eight bits from i on (noughts behind the end). -/
def hb (l : List Nat) (i : Nat) : Nat :=
  128 * l.getD i 0 + 64 * l.getD (i + 1) 0 + 32 * l.getD (i + 2) 0 + 16 * l.getD (i + 3) 0 + 8 * l.getD (i + 4) 0 + 4 * l.getD (i + 5) 0 + 2 * l.getD (i + 6) 0 + l.getD (i + 7) 0
/-- The bytes of bits. -/
def toBytes (l : List Nat) : List Nat := (List.range ((l.length + 7) / 8)).map fun j => hb l (8 * j)

theorem toBytes_length (l : List Nat) : (toBytes l).length = (l.length + 7) / 8 := by simp [toBytes]
theorem hb_lt (l : List Nat) (hl : ∀ x ∈ l, x ≤ 1) (i : Nat) : hb l i < 256 := by
  unfold hb
  have h0 := bit_le l hl i
  have h1 := bit_le l hl (i + 1)
  have h2 := bit_le l hl (i + 2)
  have h3 := bit_le l hl (i + 3)
  have h4 := bit_le l hl (i + 4)
  have h5 := bit_le l hl (i + 5)
  have h6 := bit_le l hl (i + 6)
  have h7 := bit_le l hl (i + 7)
  omega

theorem ofBytes_getD (bs : List Nat) : ∀ j k : Nat, k < 8 → (ofBytes bs).getD (8 * j + k) 0 = bs.getD j 0 / 2 ^ (7 - k) % 2 := by
  induction bs with
  | nil => intro j k _; simp [ofBytes]
  | cons b bs ih =>
    intro j k hk
    have e : ofBytes (b :: bs) = bits8 b ++ ofBytes bs := rfl
    have hl : (bits8 b).length = 8 := rfl
    rw [e]
    cases j with
    | zero =>
      rw [getD_left _ _ _ _ (by omega), Nat.mul_zero, Nat.zero_add, bits8_bit b k hk]
      simp
    | succ j =>
      rw [getD_right _ _ _ _ (by omega), hl, show 8 * (j + 1) + k - 8 = 8 * j + k by omega, ih j k hk]
      simp

theorem byte_lt (bs : List Nat) (hb : ∀ x ∈ bs, x < 256) (i : Nat) : bs.getD i 0 < 256 := by
  by_cases h : i < bs.length
  · rw [getD_lt _ _ _ h]; exact hb _ (List.getElem_mem h)
  · rw [getD_ge _ _ _ (by omega)]; omega

theorem byte_join : ∀ b : Fin 256, 128 * (b.val / 2 ^ (7 - 0) % 2) + 64 * (b.val / 2 ^ (7 - 1) % 2) + 32 * (b.val / 2 ^ (7 - 2) % 2) + 16 * (b.val / 2 ^ (7 - 3) % 2) + 8 * (b.val / 2 ^ (7 - 4) % 2) + 4 * (b.val / 2 ^ (7 - 5) % 2) + 2 * (b.val / 2 ^ (7 - 6) % 2) + b.val / 2 ^ (7 - 7) % 2 = b.val := by decide +kernel

theorem hb_ofBytes (bs : List Nat) (h : ∀ x ∈ bs, x < 256) (j : Nat) : hb (ofBytes bs) (8 * j) = bs.getD j 0 := by
  have h0 := ofBytes_getD bs j 0 (by omega)
  have h1 := ofBytes_getD bs j 1 (by omega)
  have h2 := ofBytes_getD bs j 2 (by omega)
  have h3 := ofBytes_getD bs j 3 (by omega)
  have h4 := ofBytes_getD bs j 4 (by omega)
  have h5 := ofBytes_getD bs j 5 (by omega)
  have h6 := ofBytes_getD bs j 6 (by omega)
  have h7 := ofBytes_getD bs j 7 (by omega)
  have hlt := byte_lt bs h j
  unfold hb
  rw [Nat.add_zero] at h0
  rw [h0, h1, h2, h3, h4, h5, h6, h7]
  exact byte_join ⟨bs.getD j 0, hlt⟩

/-- Back. -/
theorem toBytes_ofBytes (bs : List Nat) (h : ∀ x ∈ bs, x < 256) : toBytes (ofBytes bs) = bs := by
  unfold toBytes
  rw [ofBytes_length, show (8 * bs.length + 7) / 8 = bs.length by omega]
  apply List.ext_getElem
  · simp
  · intro i h1 h2
    rw [List.getElem_map, List.getElem_range, hb_ofBytes bs h i, getD_lt _ _ _ h2]

theorem ofBytes_bit (bs : List Nat) : ∀ x ∈ ofBytes bs, x ≤ 1 := by
  intro x hx
  obtain ⟨b, _, hb⟩ := List.mem_flatMap.1 hx
  simp only [bits8, List.mem_cons, List.not_mem_nil, or_false] at hb
  omega

theorem take_getD (l : List Nat) (i m : Nat) : (l.take i).getD m 0 = if m < i then l.getD m 0 else 0 := by
  by_cases h : m < i
  · rw [if_pos h]; simp [List.getD, h]
  · rw [if_neg h]; simp [List.getD, List.getElem?_take, h]

/-- One bit more. -/
theorem hb_step (l : List Nat) (i j : Nat) : hb (l.take (i + 1)) (8 * j) = if i / 8 = j then hb (l.take i) (8 * j) + l.getD i 0 * 2 ^ (7 - i % 8) else hb (l.take i) (8 * j) := by
  by_cases h : i / 8 = j
  · rw [if_pos h]
    obtain ⟨r, hr, rfl⟩ : ∃ r, r < 8 ∧ i = 8 * j + r := ⟨i % 8, by omega, by omega⟩
    rw [show (8 * j + r) % 8 = r by omega]
    unfold hb
    simp only [take_getD]
    match r, hr with
    | 0, _ | 1, _ | 2, _ | 3, _ | 4, _ | 5, _ | 6, _ | 7, _ =>
      simp (disch := omega) only [if_pos, if_neg, Nat.add_zero, Nat.reduceSub, Nat.reducePow]
      omega
  · rw [if_neg h]
    unfold hb
    simp only [take_getD]
    have e : ∀ k, k < 8 → (if 8 * j + k < i + 1 then l.getD (8 * j + k) 0 else 0) = (if 8 * j + k < i then l.getD (8 * j + k) 0 else 0) := by
      intro k hk
      by_cases h1 : 8 * j + k < i
      · rw [if_pos h1, if_pos (by omega)]
      · rw [if_neg h1, if_neg (by omega)]
    have e0 := e 0 (by omega)
    rw [Nat.add_zero] at e0
    rw [e0, e 1 (by omega), e 2 (by omega), e 3 (by omega), e 4 (by omega), e 5 (by omega), e 6 (by omega), e 7 (by omega)]

/-- What is there has room for the next bit. -/
theorem hb_room (l : List Nat) (i : Nat) : hb (l.take i) (8 * (i / 8)) % 2 ^ (8 - i % 8) = 0 := by
  obtain ⟨j, r, hr, rfl⟩ : ∃ j r, r < 8 ∧ i = 8 * j + r := ⟨i / 8, i % 8, by omega, by omega⟩
  rw [show (8 * j + r) % 8 = r by omega, show (8 * j + r) / 8 = j by omega]
  unfold hb
  simp only [take_getD]
  match r, hr with
  | 0, _ | 1, _ | 2, _ | 3, _ | 4, _ | 5, _ | 6, _ | 7, _ =>
    simp (disch := omega) only [if_pos, if_neg, Nat.add_zero, Nat.reduceSub, Nat.reducePow]
    try omega

end Go.Proofs.Ytoiibjblaafgpaa.Bm
