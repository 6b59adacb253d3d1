/-
  Plain mathematics for layer 6 (conv): what the coder tells of a list, by the last seven bits and by its state; lists together, behind noughts, told by one stream; how much a code weighs. No program is named.
-/
import Derived.Test.YtknfpdlomgllhaaCm
namespace Go.Proofs.Ytknfpdlomgllhaa.Cv
set_option linter.unusedVariables false

/-- Of each stream what it looks at, from the newest bit on. -/
def tp : Nat → List Nat
  | 0 => [1, 0, 0, 1, 1, 1, 1]
  | 1 => [1, 0, 1, 0, 1, 1, 1]
  | 2 => [1, 1, 0, 1, 1, 0, 1]
  | _ => [1, 1, 1, 1, 0, 0, 1]
theorem tp_bit (i k : Nat) : (tp i).getD k 0 ≤ 1 := by
  refine Bm.bit_le _ ?_ k
  unfold tp
  split <;> decide
theorem tp_first (i : Nat) : (tp i).getD 0 0 = 1 := by
  unfold tp
  split <;> rfl

/-- The bit that came k ahead of step t. -/
def pv (l : List Nat) (t k : Nat) : Nat := if k ≤ t then l.getD (t - k) 0 else 0
theorem pv_bit (l : List Nat) (hl : ∀ x ∈ l, x ≤ 1) (t k : Nat) : pv l t k ≤ 1 := by
  unfold pv
  split
  · exact Bm.bit_le l hl _
  · omega
/-- What the first k taps of a stream tell at step t. -/
def bt (l : List Nat) (t i : Nat) : Nat → Nat
  | 0 => 0
  | k + 1 => bt l t i k ^^^ (tp i).getD k 0 * pv l t k
/-- What a stream tells at a step. -/
def bitAt (l : List Nat) (t i : Nat) : Nat := bt l t i 7
theorem mul_bit {a b : Nat} (ha : a ≤ 1) (hb : b ≤ 1) : a * b ≤ 1 := by
  have : a * b ≤ 1 * 1 := Nat.mul_le_mul ha hb
  omega
theorem xor_bit {a b : Nat} (ha : a ≤ 1) (hb : b ≤ 1) : a ^^^ b ≤ 1 := by
  have := Nat.xor_lt_two_pow (n := 1) (x := a) (y := b) (by omega) (by omega)
  omega
theorem bt_bit (l : List Nat) (hl : ∀ x ∈ l, x ≤ 1) (t i : Nat) : ∀ k, bt l t i k ≤ 1
  | 0 => by simp [bt]
  | k + 1 => xor_bit (bt_bit l hl t i k) (mul_bit (tp_bit i k) (pv_bit l hl t k))
theorem bitAt_bit (l : List Nat) (hl : ∀ x ∈ l, x ≤ 1) (t i : Nat) : bitAt l t i ≤ 1 := bt_bit l hl t i 7
/-- What is told at a step. -/
def four (l : List Nat) (t : Nat) : List Nat := [bitAt l t 0, bitAt l t 1, bitAt l t 2, bitAt l t 3]
/-- What is told at the first k steps. -/
def codeTo (l : List Nat) : Nat → List Nat
  | 0 => []
  | k + 1 => codeTo l k ++ four l k
/-- The code of a list. -/
def code (l : List Nat) : List Nat := codeTo l (l.length + 6)
theorem codeTo_length (l : List Nat) : ∀ k, (codeTo l k).length = 4 * k
  | 0 => rfl
  | k + 1 => by
    rw [codeTo, List.length_append, codeTo_length l k]
    show _ + 4 = _
    omega
theorem code_length (l : List Nat) : (code l).length = 4 * (l.length + 6) := codeTo_length l _
theorem four_bit (l : List Nat) (hl : ∀ x ∈ l, x ≤ 1) (t : Nat) : ∀ x ∈ four l t, x ≤ 1 := by
  intro x hx
  simp only [four, List.mem_cons, List.not_mem_nil, or_false] at hx
  rcases hx with rfl | rfl | rfl | rfl <;> exact bitAt_bit l hl t _
theorem codeTo_bit (l : List Nat) (hl : ∀ x ∈ l, x ≤ 1) : ∀ k, ∀ x ∈ codeTo l k, x ≤ 1
  | 0, x, h => by simp [codeTo] at h
  | k + 1, x, h => by
    rcases List.mem_append.1 h with h | h
    · exact codeTo_bit l hl k x h
    · exact four_bit l hl k x h
theorem code_bit (l : List Nat) (hl : ∀ x ∈ l, x ≤ 1) : ∀ x ∈ code l, x ≤ 1 := codeTo_bit l hl _
theorem four_getD (l : List Nat) (t i : Nat) (hi : i < 4) : (four l t).getD i 0 = bitAt l t i := by
  match i, hi with
  | 0, _ => rfl
  | 1, _ => rfl
  | 2, _ => rfl
  | 3, _ => rfl
theorem codeTo_getD (l : List Nat) (i : Nat) (hi : i < 4) : ∀ k t, t < k → (codeTo l k).getD (4 * t + i) 0 = bitAt l t i
  | 0, t, h => by omega
  | k + 1, t, h => by
    rw [codeTo]
    by_cases ht : t < k
    · rw [Bm.getD_left _ _ _ _ (by rw [codeTo_length]; omega), codeTo_getD l i hi k t ht]
    · have e : t = k := by omega
      subst e
      rw [Bm.getD_right _ _ _ _ (by rw [codeTo_length]; omega), codeTo_length, show 4 * t + i - 4 * t = i by omega, four_getD l t i hi]
theorem code_getD (l : List Nat) (t i : Nat) (hi : i < 4) (ht : t < l.length + 6) : (code l).getD (4 * t + i) 0 = bitAt l t i := codeTo_getD l i hi _ t ht

/-! Lists together -/
theorem zx_length (a b : List Nat) (h : a.length = b.length) : (Crc.zx a b).length = a.length := by simp [Crc.zx]; omega
theorem getD_zx (a b : List Nat) (h : a.length = b.length) (i : Nat) : (Crc.zx a b).getD i 0 = a.getD i 0 ^^^ b.getD i 0 := by
  have hz := zx_length a b h
  by_cases hi : i < a.length
  · rw [Bm.getD_lt (Crc.zx a b) 0 i (by omega), Bm.getD_lt a 0 i hi, Bm.getD_lt b 0 i (by omega)]
    simp [Crc.zx]
  · rw [Bm.getD_ge (Crc.zx a b) 0 i (by omega), Bm.getD_ge a 0 i (by omega), Bm.getD_ge b 0 i (by omega)]
    rfl
theorem pv_zx (a b : List Nat) (h : a.length = b.length) (t k : Nat) : pv (Crc.zx a b) t k = pv a t k ^^^ pv b t k := by
  unfold pv
  split
  · exact getD_zx a b h _
  · rfl
theorem tap_xor (c a b : Nat) (hc : c ≤ 1) : c * (a ^^^ b) = c * a ^^^ c * b := by
  have : c = 0 ∨ c = 1 := by omega
  rcases this with rfl | rfl <;> simp
theorem bt_zx (a b : List Nat) (h : a.length = b.length) (t i : Nat) : ∀ k, bt (Crc.zx a b) t i k = bt a t i k ^^^ bt b t i k
  | 0 => by simp [bt]
  | k + 1 => by
    show bt (Crc.zx a b) t i k ^^^ _ = (bt a t i k ^^^ _) ^^^ (bt b t i k ^^^ _)
    rw [bt_zx a b h t i k, pv_zx a b h, tap_xor _ _ _ (tp_bit i k), Crc.xor_swap]
theorem bitAt_zx (a b : List Nat) (h : a.length = b.length) (t i : Nat) : bitAt (Crc.zx a b) t i = bitAt a t i ^^^ bitAt b t i := bt_zx a b h t i 7
theorem codeTo_zx (a b : List Nat) (h : a.length = b.length) : ∀ k, codeTo (Crc.zx a b) k = Crc.zx (codeTo a k) (codeTo b k)
  | 0 => rfl
  | k + 1 => by
    have e : four (Crc.zx a b) k = Crc.zx (four a k) (four b k) := by
      unfold four
      rw [bitAt_zx a b h, bitAt_zx a b h, bitAt_zx a b h, bitAt_zx a b h]
      rfl
    rw [codeTo, codeTo, codeTo, codeTo_zx a b h k, e]
    unfold Crc.zx
    rw [List.zipWith_append (by rw [codeTo_length, codeTo_length])]
theorem code_zx (a b : List Nat) (h : a.length = b.length) : code (Crc.zx a b) = Crc.zx (code a) (code b) := by
  unfold code
  rw [show (Crc.zx a b).length = a.length by simp [Crc.zx]; omega, codeTo_zx a b h, h]

/-! One stream at each step tells the list -/
theorem bt_first (l : List Nat) (t i : Nat) : ∀ k, bt l t i (k + 1) = l.getD t 0 ^^^ bt l t i (k + 1) ^^^ l.getD t 0 := by
  intro k
  rw [Nat.xor_comm (l.getD t 0), Nat.xor_assoc, Nat.xor_self, Nat.xor_zero]
theorem bt_diff (a b : List Nat) (t i : Nat) (h : ∀ j, j < t → a.getD j 0 = b.getD j 0) : ∀ k, bt a t i (k + 1) ^^^ bt b t i (k + 1) = a.getD t 0 ^^^ b.getD t 0
  | 0 => by
    show (0 ^^^ (tp i).getD 0 0 * pv a t 0) ^^^ (0 ^^^ (tp i).getD 0 0 * pv b t 0) = _
    rw [tp_first]
    simp [pv]
  | k + 1 => by
    show (bt a t i (k + 1) ^^^ (tp i).getD (k + 1) 0 * pv a t (k + 1)) ^^^ (bt b t i (k + 1) ^^^ (tp i).getD (k + 1) 0 * pv b t (k + 1)) = _
    have e : pv a t (k + 1) = pv b t (k + 1) := by
      unfold pv
      split
      · exact h _ (by omega)
      · rfl
    rw [e, Crc.xor_swap, Nat.xor_self, Nat.xor_zero, bt_diff a b t i h k]
theorem bitAt_alone (a b : List Nat) (t i : Nat) (h : ∀ j, j < t → a.getD j 0 = b.getD j 0) (he : bitAt a t i = bitAt b t i) : a.getD t 0 = b.getD t 0 := by
  have := bt_diff a b t i h 6
  unfold bitAt at he
  rw [he, Nat.xor_self] at this
  exact Poly.xor_eq_zero _ _ this.symm
/-- Two lists of one length that tell the same, one stream at each step, are the same. -/
theorem alone (a b : List Nat) (n : Nat) (ha : a.length = n) (hb : b.length = n) (s : Nat → Nat) (h : ∀ t, t < n → bitAt a t (s t) = bitAt b t (s t)) : a = b := by
  have key : ∀ t, t ≤ n → ∀ j, j < t → a.getD j 0 = b.getD j 0 := by
    intro t
    induction t with
    | zero => intro _ j hj; omega
    | succ t ih =>
      intro ht j hj
      by_cases hjt : j < t
      · exact ih (by omega) j hjt
      · obtain rfl : j = t := by omega
        exact bitAt_alone a b j (s j) (ih (by omega)) (h j (by omega))
  apply Bm.ext_getD (by omega)
  intro j hj
  exact key n (Nat.le_refl _) j (by omega)

/-! Behind noughts -/
theorem pv_late (l : List Nat) (n t k : Nat) : pv (List.replicate n 0 ++ l) (n + t) k = pv l t k := by
  unfold pv
  by_cases hk : k ≤ t
  · rw [if_pos (by omega), if_pos hk, Bm.getD_right _ _ _ _ (by rw [List.length_replicate]; omega), List.length_replicate, show n + t - k - n = t - k by omega]
  · rw [if_neg hk]
    split
    · rw [Bm.getD_left _ _ _ _ (by rw [List.length_replicate]; omega), Bm.getD_lt _ _ _ (by rw [List.length_replicate]; omega), List.getElem_replicate]
    · rfl
theorem bt_late (l : List Nat) (n t i : Nat) : ∀ k, bt (List.replicate n 0 ++ l) (n + t) i k = bt l t i k
  | 0 => rfl
  | k + 1 => by
    show _ ^^^ _ = _ ^^^ _
    rw [bt_late l n t i k, pv_late]
theorem bt_nought (l : List Nat) (n t i : Nat) (h : t < n) : ∀ k, bt (List.replicate n 0 ++ l) t i k = 0
  | 0 => rfl
  | k + 1 => by
    have e : pv (List.replicate n 0 ++ l) t k = 0 := by
      unfold pv
      split
      · rw [Bm.getD_left _ _ _ _ (by rw [List.length_replicate]; omega), Bm.getD_lt _ _ _ (by rw [List.length_replicate]; omega), List.getElem_replicate]
      · rfl
    show bt (List.replicate n 0 ++ l) t i k ^^^ _ = 0
    rw [bt_nought l n t i h k, e]; simp
theorem codeTo_late (l : List Nat) (n : Nat) : ∀ k, codeTo (List.replicate n 0 ++ l) (n + k) = List.replicate (4 * n) 0 ++ codeTo l k
  | 0 => by
    have key : ∀ m, m ≤ n → codeTo (List.replicate n 0 ++ l) m = List.replicate (4 * m) 0 := by
      intro m
      induction m with
      | zero => intro _; rfl
      | succ m ih =>
        intro hm
        have e : four (List.replicate n 0 ++ l) m = List.replicate 4 0 := by
          unfold four bitAt
          rw [bt_nought l n m 0 (by omega), bt_nought l n m 1 (by omega), bt_nought l n m 2 (by omega), bt_nought l n m 3 (by omega)]
          rfl
        rw [codeTo, ih (by omega), e, List.replicate_append_replicate, show 4 * m + 4 = 4 * (m + 1) by omega]
    rw [Nat.add_zero, key n (Nat.le_refl _)]
    simp [codeTo]
  | k + 1 => by
    have e : four (List.replicate n 0 ++ l) (n + k) = four l k := by
      unfold four bitAt
      rw [bt_late, bt_late, bt_late, bt_late]
    rw [← Nat.add_assoc, codeTo, codeTo_late l n k, e, codeTo, List.append_assoc]
theorem code_late (l : List Nat) (n : Nat) : code (List.replicate n 0 ++ l) = List.replicate (4 * n) 0 ++ code l := by
  unfold code
  rw [List.length_append, List.length_replicate, Nat.add_assoc, codeTo_late]

/-! States -/
/-- The state behind a step. -/
def nx (s x : Nat) : Nat := s / 2 + 32 * x
/-- The state ahead of step t. -/
def sv (l : List Nat) : Nat → Nat
  | 0 => 0
  | t + 1 => nx (sv l t) (l.getD t 0)
/-- What the first k taps of a stream tell of a state and a bit. -/
def ot (s x i : Nat) : Nat → Nat
  | 0 => 0
  | k + 1 => ot s x i k ^^^ (tp i).getD k 0 * ((64 * x + s) / 2 ^ (6 - k) % 2)
/-- What a stream tells of a state and a bit. -/
def out (s x i : Nat) : Nat := ot s x i 7
theorem nx_lt (s x : Nat) (hs : s < 64) (hx : x ≤ 1) : nx s x < 64 := by unfold nx; omega
theorem sv_lt (l : List Nat) (hl : ∀ x ∈ l, x ≤ 1) : ∀ t, sv l t < 64
  | 0 => by simp [sv]
  | t + 1 => nx_lt _ _ (sv_lt l hl t) (Bm.bit_le l hl t)
theorem sv_bit (l : List Nat) (hl : ∀ x ∈ l, x ≤ 1) : ∀ t k, k ≤ 6 → 1 ≤ k → sv l t / 2 ^ (6 - k) % 2 = pv l t k
  | 0, k, h, h1 => by simp [sv, pv]; omega
  | t + 1, k, h, h1 => by
    have hs := sv_lt l hl t
    have hx := Bm.bit_le l hl t
    show nx (sv l t) (l.getD t 0) / 2 ^ (6 - k) % 2 = _
    by_cases hk : k = 1
    · subst hk
      have e : pv l (t + 1) 1 = l.getD t 0 := by simp [pv]
      rw [e]
      unfold nx
      show (sv l t / 2 + 32 * l.getD t 0) / 32 % 2 = _
      omega
    · have ih := sv_bit l hl t (k - 1) (by omega) (by omega)
      have e : pv l (t + 1) k = pv l t (k - 1) := by
        unfold pv
        by_cases hkt : k ≤ t + 1
        · rw [if_pos hkt, if_pos (by omega), show t + 1 - k = t - (k - 1) by omega]
        · rw [if_neg hkt, if_neg (by omega)]
      rw [e, ← ih]
      unfold nx
      have ek : k = 2 ∨ k = 3 ∨ k = 4 ∨ k = 5 ∨ k = 6 := by omega
      generalize sv l t = s at *
      generalize l.getD t 0 = x at *
      rcases ek with rfl | rfl | rfl | rfl | rfl <;> simp only [Nat.reduceSub, Nat.reducePow] <;> omega
theorem word_bit (l : List Nat) (hl : ∀ x ∈ l, x ≤ 1) (t k : Nat) (hk : k < 7) : (64 * l.getD t 0 + sv l t) / 2 ^ (6 - k) % 2 = pv l t k := by
  have hs := sv_lt l hl t
  have hx := Bm.bit_le l hl t
  by_cases h0 : k = 0
  · subst h0
    have e : pv l t 0 = l.getD t 0 := by simp [pv]
    rw [e]
    show (64 * l.getD t 0 + sv l t) / 64 % 2 = _
    omega
  · rw [← sv_bit l hl t k (by omega) (by omega)]
    have ek : k = 1 ∨ k = 2 ∨ k = 3 ∨ k = 4 ∨ k = 5 ∨ k = 6 := by omega
    generalize sv l t = s at *
    generalize l.getD t 0 = x at *
    rcases ek with rfl | rfl | rfl | rfl | rfl | rfl <;> simp only [Nat.reduceSub, Nat.reducePow] <;> omega
theorem ot_bt (l : List Nat) (hl : ∀ x ∈ l, x ≤ 1) (t i : Nat) : ∀ k, k ≤ 7 → ot (sv l t) (l.getD t 0) i k = bt l t i k
  | 0, _ => rfl
  | k + 1, h => by
    show ot _ _ i k ^^^ _ = bt l t i k ^^^ _
    rw [ot_bt l hl t i k (by omega), word_bit l hl t k (by omega)]
/-- The state and the bit tell what the last seven bits tell. -/
theorem out_bitAt (l : List Nat) (hl : ∀ x ∈ l, x ≤ 1) (t i : Nat) : out (sv l t) (l.getD t 0) i = bitAt l t i := ot_bt l hl t i 7 (Nat.le_refl _)
theorem out_bit (s x i : Nat) : out s x i ≤ 1 := by
  have key : ∀ k, ot s x i k ≤ 1 := by
    intro k
    induction k with
    | zero => simp [ot]
    | succ k ih => exact xor_bit ih (mul_bit (tp_bit i k) (by omega))
  exact key 7
/-- Six noughts lead to state 0. -/
theorem sv_end (l : List Nat) (hl : ∀ x ∈ l, x ≤ 1) : sv l (l.length + 6) = 0 := by
  have hs := sv_lt l hl l.length
  have e : ∀ j, sv l (l.length + j + 1) = sv l (l.length + j) / 2 := by
    intro j
    show nx _ (l.getD (l.length + j) 0) = _
    rw [Bm.getD_ge _ _ _ (by omega)]
    rfl
  have e0 := e 0
  have e1 := e 1
  have e2 := e 2
  have e3 := e 3
  have e4 := e 4
  have e5 := e 5
  simp only [Nat.add_assoc, Nat.reduceAdd, Nat.add_zero] at e0 e1 e2 e3 e4 e5
  omega

/-! How much a code weighs -/
/-- What a step weighs. -/
def wt4 (s x : Nat) : Nat := out s x 0 + out s x 1 + out s x 2 + out s x 3
/-- From each state the way to state 0 weighs that much, at least. -/
def hh : List Nat := [0, 4, 6, 6, 9, 7, 7, 9, 12, 10, 10, 8, 9, 9, 11, 11, 14, 14, 12, 12, 13, 11, 11, 9, 12, 10, 10, 12, 11, 11, 13, 13, 16, 16, 14, 14, 13, 13, 13, 13, 14, 12, 12, 14, 13, 13, 11, 11, 14, 14, 12, 12, 11, 13, 13, 15, 14, 12, 12, 14, 15, 15, 13, 13]
theorem hh_step : ∀ s, s < 64 → ∀ x, x < 2 → hh.getD s 0 ≤ wt4 s x + hh.getD (nx s x) 0 := by decide +kernel
theorem hh_first : wt4 0 1 = 4 ∧ hh.getD (nx 0 1) 0 = 16 := by decide
/-- What the steps from t on, k of them, weigh. -/
def wf (l : List Nat) (t : Nat) : Nat → Nat
  | 0 => 0
  | k + 1 => wt4 (sv l t) (l.getD t 0) + wf l (t + 1) k
theorem wf_ge (l : List Nat) (hl : ∀ x ∈ l, x ≤ 1) : ∀ k t, hh.getD (sv l t) 0 ≤ wf l t k + hh.getD (sv l (t + k)) 0
  | 0, t => by simp [wf]
  | k + 1, t => by
    have h1 := hh_step (sv l t) (sv_lt l hl t) (l.getD t 0) (by have := Bm.bit_le l hl t; omega)
    have h2 := wf_ge l hl k (t + 1)
    rw [show t + 1 + k = t + (k + 1) by omega] at h2
    show _ ≤ wt4 (sv l t) (l.getD t 0) + wf l (t + 1) k + _
    have e : sv l (t + 1) = nx (sv l t) (l.getD t 0) := rfl
    rw [e] at h2
    omega
theorem wf_add (l : List Nat) : ∀ a t b, wf l t (a + b) = wf l t a + wf l (t + a) b
  | 0, t, b => by simp [wf]
  | a + 1, t, b => by
    rw [show a + 1 + b = (a + b) + 1 by omega]
    show _ + wf l (t + 1) (a + b) = _ + wf l (t + 1) a + _
    rw [wf_add l a (t + 1) b, show t + 1 + a = t + (a + 1) by omega]
    omega
/-- The code of a list that is not noughts alone weighs twenty, at least. -/
theorem weighs (l : List Nat) (hl : ∀ x ∈ l, x ≤ 1) (j : Nat) (hj : j < l.length) (h1 : l.getD j 0 = 1) : 20 ≤ wf l 0 (l.length + 6) := by
  -- the first 1
  have first : ∃ p, p < l.length ∧ l.getD p 0 = 1 ∧ ∀ q, q < p → l.getD q 0 = 0 := by
    induction j using Nat.strongRecOn with
    | ind j ih =>
      by_cases h : ∃ q, q < j ∧ l.getD q 0 = 1
      · obtain ⟨q, hq, h2⟩ := h
        exact ih q hq (by omega) h2
      · refine ⟨j, hj, h1, fun q hq => ?_⟩
        have := Bm.bit_le l hl q
        have : l.getD q 0 ≠ 1 := fun h2 => h ⟨q, hq, h2⟩
        omega
  obtain ⟨p, hp, hp1, hp0⟩ := first
  have hs : ∀ t, t ≤ p → sv l t = 0 := by
    intro t
    induction t with
    | zero => intro _; rfl
    | succ t ih =>
      intro ht
      show nx (sv l t) (l.getD t 0) = 0
      rw [ih (by omega), hp0 t (by omega)]
      rfl
  have e := wf_add l p 0 (l.length + 6 - p)
  rw [show p + (l.length + 6 - p) = l.length + 6 by omega, Nat.zero_add] at e
  have e2 : wf l p (l.length + 6 - p) = wt4 (sv l p) (l.getD p 0) + wf l (p + 1) (l.length + 6 - p - 1) := by
    rw [show l.length + 6 - p = (l.length + 6 - p - 1) + 1 by omega]
    rfl
  have h3 := wf_ge l hl (l.length + 6 - p - 1) (p + 1)
  rw [show p + 1 + (l.length + 6 - p - 1) = l.length + 6 by omega, sv_end l hl] at h3
  have e3 : sv l (p + 1) = nx 0 1 := by
    show nx (sv l p) (l.getD p 0) = _
    rw [hs p (Nat.le_refl _), hp1]
  rw [e3, hh_first.2] at h3
  rw [hs p (Nat.le_refl _), hp1, hh_first.1] at e2
  have h0 : hh.getD 0 0 = 0 := rfl
  rw [h0] at h3
  omega
end Go.Proofs.Ytknfpdlomgllhaa.Cv
