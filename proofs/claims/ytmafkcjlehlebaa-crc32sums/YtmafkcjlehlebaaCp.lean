/-
  Plain mathematics for layer 4's reference: the rest by the polynomial, coefficient by coefficient, on a list. No program is named.
-/
import Derived.Test.YtmafkcjlehlebaaCo
namespace Go.Proofs.Ytmafkcjlehlebaa.Crc
set_option linter.unusedVariables false

/-- The bits of a byte, the lowest first. -/
def lo8 (x : Nat) : List Nat := [x % 2, x / 2 % 2, x / 4 % 2, x / 8 % 2, x / 16 % 2, x / 32 % 2, x / 64 % 2, x / 128 % 2]
/-- The bits of bytes, of each the lowest first. -/
def lo (bs : List Nat) : List Nat := bs.flatMap lo8
theorem lo_length (bs : List Nat) : (lo bs).length = 8 * bs.length := by
  induction bs with
  | nil => rfl
  | cons x bs ih =>
    show (lo8 x ++ lo bs).length = _
    rw [List.length_append, ih, List.length_cons]
    show 8 + _ = _
    omega
theorem lo_snoc (bs : List Nat) (b : Nat) : lo (bs ++ [b]) = lo bs ++ lo8 b := by simp [lo]
theorem lo_take (bs : List Nat) (k : Nat) (h : k < bs.length) : lo (bs.take (k + 1)) = lo (bs.take k) ++ lo8 (bs.getD k 0) := by
  rw [List.take_succ_eq_append_getElem h, lo_snoc, Bm.getD_lt _ _ _ h]
theorem lo8_all (b : Nat) : (lo8 b).take 8 = lo8 b := rfl
theorem lo8_take (b k : Nat) (h : k < 8) : (lo8 b).take (k + 1) = (lo8 b).take k ++ [b / 2 ^ k % 2] := by
  match k, h with
  | 0, _ => simp [lo8]
  | 1, _ => simp [lo8]
  | 2, _ => simp [lo8]
  | 3, _ => simp [lo8]
  | 4, _ => simp [lo8]
  | 5, _ => simp [lo8]
  | 6, _ => simp [lo8]
  | 7, _ => simp [lo8]
theorem lo_bit (bs : List Nat) : ∀ x ∈ lo bs, x ≤ 1 := by
  intro x hx
  simp only [lo, List.mem_flatMap] at hx
  obtain ⟨b, _, hb⟩ := hx
  simp only [lo8, List.mem_cons, List.not_mem_nil, or_false] at hb
  omega

/-- The register takes a bit. -/
def ub (s x : Nat) : Nat := s32 (s ^^^ x)
/-- The register behind bits. -/
def tb (l : List Nat) : Nat := l.foldl ub 4294967295
theorem tb_snoc (l : List Nat) (x : Nat) : tb (l ++ [x]) = ub (tb l) x := by simp [tb]
theorem ub_lo8 (s x : Nat) : ∀ k, k ≤ 8 → ((lo8 x).take k).foldl ub s = it s32 k (s ^^^ low32 x k)
  | 0, _ => by show s = s ^^^ 0; simp
  | k + 1, h => by
    rw [lo8_take x k (by omega), List.foldl_append, ub_lo8 s x k (by omega)]
    show s32 (it s32 k (s ^^^ low32 x k) ^^^ x / 2 ^ k % 2) = _
    have e : x / 2 ^ k % 2 = it s32 k ((x / 2 ^ k % 2) * 2 ^ k) := by
      have hb : x / 2 ^ k % 2 = 0 ∨ x / 2 ^ k % 2 = 1 := by omega
      rcases hb with e | e <;> rw [e]
      · rw [Nat.zero_mul, (s32_lin.it k).zero]
      · rw [Nat.one_mul, up32 k (by omega)]
    conv => lhs; rw [e]
    rw [← s32_lin.it k, ← it_succ s32 k, Nat.xor_assoc]
    rfl
theorem tb_lo (bs : List Nat) (hb : ∀ b ∈ bs, b < 256) : tb (lo bs) = r32 bs := by
  suffices h : ∀ (bs : List Nat) (s : Nat), (∀ b ∈ bs, b < 256) → (lo bs).foldl ub s = run s32 1 s bs from h bs _ hb
  intro bs
  induction bs with
  | nil => intro s _; rfl
  | cons x bs ih =>
    intro s h
    show (lo8 x ++ lo bs).foldl ub s = _
    rw [List.foldl_append, run_cons, ← ih _ (fun b hb => h b (List.mem_cons_of_mem _ hb))]
    congr 1
    have := ub_lo8 s x 8 (by omega)
    rw [lo8_all, low32_eq, Nat.mod_eq_of_lt (show x < 2 ^ 8 from h x List.mem_cons_self)] at this
    rw [this]
    unfold tk
    rw [Nat.mul_one]

/-- Bits from a place on, as a number, the first the lowest. -/
def win (l : List Nat) (i : Nat) : Nat → Nat
  | 0 => 0
  | k + 1 => win l i k ^^^ l.getD (i + k) 0 * 2 ^ k
theorem win_lt (l : List Nat) (hl : ∀ x ∈ l, x ≤ 1) (i : Nat) : ∀ k, win l i k < 2 ^ k
  | 0 => by simp [win]
  | k + 1 => by
    have h1 := win_lt l hl i k
    have h2 := Bm.bit_le l hl (i + k)
    have e : 2 ^ (k + 1) = 2 * 2 ^ k := by rw [Nat.pow_succ, Nat.mul_comm]
    refine Nat.xor_lt_two_pow (n := k + 1) (by omega) ?_
    have : l.getD (i + k) 0 * 2 ^ k ≤ 1 * 2 ^ k := Nat.mul_le_mul_right _ h2
    omega
theorem win_add (l : List Nat) (hl : ∀ x ∈ l, x ≤ 1) (i k : Nat) : win l i (k + 1) = win l i k + l.getD (i + k) 0 * 2 ^ k :=
  (add_xor k _ _ (win_lt l hl i k)).symm
theorem s32_pow (k : Nat) : s32 (2 ^ (k + 1)) = 2 ^ k := by
  unfold s32
  rw [if_neg (by rw [Nat.pow_succ]; omega), Nat.pow_succ]; omega
theorem s32_bit_pow (x k : Nat) (hx : x ≤ 1) : s32 (x * 2 ^ (k + 1)) = x * 2 ^ k := by
  have : x = 0 ∨ x = 1 := by omega
  rcases this with rfl | rfl
  · simp [s32_lin.zero]
  · rw [Nat.one_mul, Nat.one_mul, s32_pow]
theorem s32_bit (x : Nat) (hx : x ≤ 1) : s32 x = x * 3988292384 := by
  have : x = 0 ∨ x = 1 := by omega
  rcases this with rfl | rfl
  · simp [s32_lin.zero]
  · decide
/-- A step takes the first bit off. -/
theorem s32_win (l : List Nat) (hl : ∀ x ∈ l, x ≤ 1) (i : Nat) : ∀ k, s32 (win l i (k + 1)) = l.getD i 0 * 3988292384 ^^^ win l (i + 1) k
  | 0 => by
    show s32 (0 ^^^ l.getD (i + 0) 0 * 2 ^ 0) = _ ^^^ 0
    rw [Nat.zero_xor, Nat.pow_zero, Nat.mul_one, Nat.xor_zero, Nat.add_zero]
    exact s32_bit _ (Bm.bit_le l hl i)
  | k + 1 => by
    show s32 (win l i (k + 1) ^^^ l.getD (i + (k + 1)) 0 * 2 ^ (k + 1)) = _ ^^^ (win l (i + 1) k ^^^ l.getD (i + 1 + k) 0 * 2 ^ k)
    rw [s32_lin, s32_win l hl i k, s32_bit_pow _ _ (Bm.bit_le l hl _), Nat.xor_assoc, show i + (k + 1) = i + 1 + k by omega]

/-- The polynomial's coefficients, the highest first. -/
def pcL : List Nat := [1, 0, 0, 0, 0, 0, 1, 0, 0, 1, 1, 0, 0, 0, 0, 0, 1, 0, 0, 0, 1, 1, 1, 0, 1, 1, 0, 1, 1, 0, 1, 1, 1]
theorem pcL_bit : ∀ x ∈ pcL, x ≤ 1 := by decide
theorem pcL_win : win pcL 1 32 = 3988292384 := by decide

/-- The first k coefficients are taken away from place i on. -/
def dv (l : List Nat) (i k : Nat) : List Nat := (List.range l.length).map fun j => if i ≤ j ∧ j < i + k then l.getD j 0 ^^^ pcL.getD (j - i) 0 else l.getD j 0
theorem dv_length (l : List Nat) (i k : Nat) : (dv l i k).length = l.length := by simp [dv]
theorem dv_getD (l : List Nat) (i k j : Nat) (h : j < l.length) : (dv l i k).getD j 0 = if i ≤ j ∧ j < i + k then l.getD j 0 ^^^ pcL.getD (j - i) 0 else l.getD j 0 := by
  simp [dv, List.getD, h]
theorem dv_zero (l : List Nat) (i : Nat) : dv l i 0 = l := by
  apply Bm.ext_getD (dv_length l i 0)
  intro j hj
  rw [dv_length] at hj
  rw [dv_getD l i 0 j hj, if_neg (by omega)]
theorem dv_succ (l : List Nat) (i k : Nat) (h : i + k < l.length) : dv l i (k + 1) = (dv l i k).set (i + k) ((dv l i k).getD (i + k) 0 ^^^ pcL.getD k 0) := by
  apply Bm.ext_getD (by rw [dv_length, List.length_set, dv_length])
  intro j hj
  rw [dv_length] at hj
  rw [Bm.set_getD _ _ _ _ (by rw [dv_length]; exact h), dv_getD l i (k + 1) j hj, dv_getD l i k j hj, dv_getD l i k (i + k) h]
  by_cases hjk : i + k = j
  · subst hjk
    rw [if_pos (show i ≤ i + k ∧ i + k < i + (k + 1) by omega), if_pos rfl, if_neg (by omega), show i + k - i = k by omega]
  · rw [if_neg hjk]
    by_cases h2 : i ≤ j ∧ j < i + k
    · rw [if_pos (by omega), if_pos h2]
    · rw [if_neg (by omega), if_neg h2]
theorem xor_bit (a b : Nat) (ha : a ≤ 1) (hb : b ≤ 1) : a ^^^ b ≤ 1 := by
  have := Nat.xor_lt_two_pow (n := 1) (x := a) (y := b) (by omega) (by omega)
  omega
theorem dv_bit (l : List Nat) (hl : ∀ x ∈ l, x ≤ 1) (i k : Nat) : ∀ x ∈ dv l i k, x ≤ 1 := by
  intro x hx
  simp only [dv, List.mem_map, List.mem_range] at hx
  obtain ⟨j, _, rfl⟩ := hx
  split
  · exact xor_bit _ _ (Bm.bit_le l hl j) (Bm.bit_le pcL pcL_bit _)
  · exact Bm.bit_le l hl j
theorem dv_win (l : List Nat) (i : Nat) (h : i + 33 ≤ l.length) : ∀ k, k ≤ 32 → win (dv l i 33) (i + 1) k = win l (i + 1) k ^^^ win pcL 1 k
  | 0, _ => by simp [win]
  | k + 1, hk => by
    show win (dv l i 33) (i + 1) k ^^^ (dv l i 33).getD (i + 1 + k) 0 * 2 ^ k = (win l (i + 1) k ^^^ l.getD (i + 1 + k) 0 * 2 ^ k) ^^^ (win pcL 1 k ^^^ pcL.getD (1 + k) 0 * 2 ^ k)
    rw [dv_win l i h k (by omega), dv_getD l i 33 _ (by omega), if_pos (by omega), mul_pow_xor, show i + 1 + k - i = 1 + k by omega, xor_swap]

/-- What holds at place i of the division: the bits ahead of it are as they were, and the window is told by the register. -/
structure Dvd (L X : List Nat) (i : Nat) : Prop where
  len : X.length = L.length
  bit : ∀ x ∈ X, x ≤ 1
  beyond : ∀ j, i + 32 ≤ j → X.getD j 0 = L.getD j 0
  window : win X i 32 = tb (L.take i) ^^^ win L i 32
theorem Dvd.next {L X : List Nat} {i : Nat} (h : Dvd L X i) (hL : ∀ x ∈ L, x ≤ 1) (hi : i + 32 < L.length) : Dvd L (if X.getD i 0 = 0 then X else dv X i 33) (i + 1) := by
  have hx := Bm.bit_le X h.bit i
  have h1 := s32_win X h.bit i 31
  have h2 := s32_win L hL i 31
  have h3 : X.getD (i + 1 + 31) 0 = L.getD (i + 1 + 31) 0 := h.beyond _ (by omega)
  have hw : win X (i + 1) 32 ^^^ X.getD i 0 * 3988292384 = tb (L.take (i + 1)) ^^^ win L (i + 1) 32 := by
    have e1 : win X (i + 1) 32 = win X (i + 1) 31 ^^^ X.getD (i + 1 + 31) 0 * 2 ^ 31 := rfl
    have e2 : win L (i + 1) 32 = win L (i + 1) 31 ^^^ L.getD (i + 1 + 31) 0 * 2 ^ 31 := rfl
    have e3 : tb (L.take (i + 1)) = s32 (tb (L.take i)) ^^^ L.getD i 0 * 3988292384 := by
      rw [List.take_succ_eq_append_getElem (by omega), tb_snoc, ← Bm.getD_lt L 0 i (by omega)]
      show s32 _ = _
      rw [s32_lin, s32_bit _ (Bm.bit_le L hL i)]
    have e4 : X.getD i 0 * 3988292384 ^^^ win X (i + 1) 31 = s32 (tb (L.take i)) ^^^ (L.getD i 0 * 3988292384 ^^^ win L (i + 1) 31) := by
      rw [← h1, ← h2, ← s32_lin, ← h.window]
    rw [e1, e2, e3, h3, Nat.xor_assoc, Nat.xor_comm (_ * 2 ^ 31), ← Nat.xor_assoc, Nat.xor_comm (win X (i + 1) 31), e4]
    simp only [Nat.xor_assoc]
  split
  · rename_i h0
    rw [h0, Nat.zero_mul, Nat.xor_zero] at hw
    exact ⟨h.len, h.bit, fun j hj => h.beyond j (by omega), hw⟩
  · rename_i h0
    have h5 : X.getD i 0 = 1 := by omega
    have hl := h.len
    rw [h5, Nat.one_mul] at hw
    refine ⟨by rw [dv_length]; exact h.len, dv_bit X h.bit i 33, fun j hj => ?_, ?_⟩
    · by_cases hjl : j < X.length
      · rw [dv_getD X i 33 j hjl, if_neg (by omega)]; exact h.beyond j (by omega)
      · rw [Bm.getD_ge _ _ _ (by rw [dv_length]; omega), Bm.getD_ge _ _ _ (by omega)]
    · rw [dv_win X i (by omega) 32 (Nat.le_refl _), pcL_win]; exact hw

/-- The list that is divided: the bits, and thirty-two noughts. -/
def lz (bs : List Nat) : List Nat := lo bs ++ List.replicate 32 0
theorem lz_length (bs : List Nat) : (lz bs).length = 8 * bs.length + 32 := by simp [lz, lo_length]
theorem lz_bit (bs : List Nat) : ∀ x ∈ lz bs, x ≤ 1 := by
  intro x hx
  rcases List.mem_append.1 hx with h | h
  · exact lo_bit bs x h
  · have := List.eq_of_mem_replicate h; omega
theorem trn_win (L : List Nat) (h : 32 ≤ L.length) : ∀ k, k ≤ 32 → win (Bm.trn L (Bm.allTo 32)) 0 k = (2 ^ k - 1) ^^^ win L 0 k
  | 0, _ => by simp [win]
  | k + 1, hk => by
    show win (Bm.trn L (Bm.allTo 32)) 0 k ^^^ (Bm.trn L (Bm.allTo 32)).getD (0 + k) 0 * 2 ^ k = _ ^^^ (win L 0 k ^^^ L.getD (0 + k) 0 * 2 ^ k)
    rw [trn_win L h k (by omega), Nat.zero_add, Bm.trn_getD L _ k (by omega), Bm.tgl_allTo, if_pos (by omega), mul_pow_xor, Nat.one_mul]
    have e : 2 ^ (k + 1) - 1 = (2 ^ k - 1) ^^^ 2 ^ k := by
      have := pow_xor k (2 ^ k - 1) (by have := Nat.two_pow_pos k; omega)
      rw [Nat.xor_comm, this, Nat.pow_succ]
      have := Nat.two_pow_pos k
      omega
    rw [e, Nat.xor_comm (L.getD k 0 * 2 ^ k), xor_swap]
theorem Dvd.start (L : List Nat) (hL : ∀ x ∈ L, x ≤ 1) (h : 32 ≤ L.length) : Dvd L (Bm.trn L (Bm.allTo 32)) 0 := by
  refine ⟨Bm.trn_length _ _, ?_, fun j hj => ?_, ?_⟩
  · intro x hx
    have := Bm.trn_lt 1 (by omega) L (Bm.allTo 32) (fun y hy => by have := hL y hy; omega) x hx
    omega
  · by_cases hjl : j < L.length
    · rw [Bm.trn_getD L _ j hjl, Bm.tgl_allTo, if_neg (by omega)]
    · rw [Bm.getD_ge _ _ _ (by rw [Bm.trn_length]; omega), Bm.getD_ge _ _ _ (by omega)]
  · exact trn_win L h 32 (Nat.le_refl _)
theorem Dvd.stop {bs X : List Nat} (h : Dvd (lz bs) X (8 * bs.length)) (hb : ∀ b ∈ bs, b < 256) : win X (8 * bs.length) 32 = r32 bs := by
  have h0 : ∀ k, win (lz bs) (8 * bs.length) k = 0 := by
    intro k
    induction k with
    | zero => rfl
    | succ k ih =>
      show win (lz bs) (8 * bs.length) k ^^^ (lz bs).getD (8 * bs.length + k) 0 * 2 ^ k = 0
      have e : (lz bs).getD (8 * bs.length + k) 0 = 0 := by
        unfold lz
        rw [Bm.getD_right _ _ _ _ (by rw [lo_length]; omega)]
        by_cases hk : 8 * bs.length + k - (lo bs).length < 32
        · rw [Bm.getD_lt _ _ _ (by rw [List.length_replicate]; exact hk), List.getElem_replicate]
        · rw [Bm.getD_ge _ _ _ (by rw [List.length_replicate]; omega)]
      rw [ih, e]; simp
  rw [h.window, h0, Nat.xor_zero]
  have e : (lz bs).take (8 * bs.length) = lo bs := by
    unfold lz
    rw [← lo_length, List.take_left]
  rw [e, tb_lo bs hb]
end Go.Proofs.Ytmafkcjlehlebaa.Crc
