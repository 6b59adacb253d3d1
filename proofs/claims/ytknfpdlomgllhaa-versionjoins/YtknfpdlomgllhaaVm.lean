/-
  Plain mathematics for layers 8 and 9 (soft, viterbi): scores; of all lists the best, the first of several; the best from each state on, step by step; all lists one by one; lists that are mended. No program is named.
-/
import Derived.Test.YtknfpdlomgllhaaKm
namespace Go.Proofs.Ytknfpdlomgllhaa.Cv
set_option linter.unusedVariables false

/-- A number, or its opposite, as a bit says. -/
def sg (c : Nat) (x : Int) : Int := if c = 0 then x else -x
/-- The score of the first k places. -/
def scTo (l : List Int) (c : List Nat) : Nat → Int
  | 0 => 0
  | k + 1 => scTo l c k + sg (c.getD k 0) (l.getD k 0)
/-- The score. -/
def score (l : List Int) (c : List Nat) : Int := scTo l c l.length
/-- What a step scores. -/
def gn (l : List Int) (t s x : Nat) : Int := sg (out s x 0) (l.getD (4 * t) 0) + sg (out s x 1) (l.getD (4 * t + 1) 0) + sg (out s x 2) (l.getD (4 * t + 2) 0) + sg (out s x 3) (l.getD (4 * t + 3) 0)
/-- What bits score, from a state on. -/
def fw (l : List Int) : Nat → Nat → List Nat → Int
  | _, _, [] => 0
  | t, s, x :: c => gn l t s x + fw l (t + 1) (nx s x) c
/-- Six noughts. -/
def z6 : List Nat := [0, 0, 0, 0, 0, 0]
/-- What a list scores. -/
def tot (l : List Int) (b : List Nat) : Int := fw l 0 0 (b ++ z6)

theorem fw_append (l : List Int) : ∀ (a : List Nat) (t s : Nat) (b : List Nat), fw l t s (a ++ b) = fw l t s a + fw l (t + a.length) (a.foldl nx s) b
  | [], t, s, b => by simp [fw]
  | x :: a, t, s, b => by
    show gn l t s x + fw l (t + 1) (nx s x) (a ++ b) = gn l t s x + fw l (t + 1) (nx s x) a + fw l (t + (a.length + 1)) (a.foldl nx (nx s x)) b
    rw [fw_append l a, show t + 1 + a.length = t + (a.length + 1) by omega]
    omega
theorem getD_z6 (b : List Nat) (t : Nat) : (b ++ z6).getD t 0 = b.getD t 0 := by
  by_cases h : t < b.length
  · rw [Bm.getD_left _ _ _ _ h]
  · rw [Bm.getD_right _ _ _ _ (by omega), Bm.getD_ge b _ _ (by omega)]
    generalize t - b.length = j
    match j with
    | 0 => rfl
    | 1 => rfl
    | 2 => rfl
    | 3 => rfl
    | 4 => rfl
    | 5 => rfl
    | j + 6 => rw [Bm.getD_ge _ _ _ (by show 6 ≤ _; omega)]
theorem fold_sv (b : List Nat) : ∀ k, k ≤ b.length + 6 → ((b ++ z6).take k).foldl nx 0 = sv b k
  | 0, _ => rfl
  | k + 1, h => by
    have hl : (b ++ z6).length = b.length + 6 := by rw [List.length_append]; rfl
    rw [List.take_succ_eq_append_getElem (by omega), List.foldl_append, fold_sv b k (by omega)]
    show nx (sv b k) _ = nx (sv b k) (b.getD k 0)
    rw [← getD_z6 b k, Bm.getD_lt (b ++ z6) 0 k (by omega)]
theorem sc_four (l : List Int) (b : List Nat) (hb : ∀ x ∈ b, x ≤ 1) (t : Nat) (ht : t < b.length + 6) : scTo l (code b) (4 * t + 4) = scTo l (code b) (4 * t) + gn l t (sv b t) (b.getD t 0) := by
  show scTo l (code b) (4 * t) + sg ((code b).getD (4 * t) 0) _ + sg ((code b).getD (4 * t + 1) 0) _ + sg ((code b).getD (4 * t + 2) 0) _ + sg ((code b).getD (4 * t + 3) 0) _ = _
  have e0 := code_getD b t 0 (by omega) ht
  rw [Nat.add_zero] at e0
  rw [e0, code_getD b t 1 (by omega) ht, code_getD b t 2 (by omega) ht, code_getD b t 3 (by omega) ht]
  unfold gn
  rw [out_bitAt b hb, out_bitAt b hb, out_bitAt b hb, out_bitAt b hb]
  omega
theorem sc_fw (l : List Int) (b : List Nat) (hb : ∀ x ∈ b, x ≤ 1) : ∀ k, k ≤ b.length + 6 → scTo l (code b) (4 * k) = fw l 0 0 ((b ++ z6).take k)
  | 0, _ => rfl
  | k + 1, h => by
    have hl : (b ++ z6).length = b.length + 6 := by rw [List.length_append]; rfl
    rw [show 4 * (k + 1) = 4 * k + 4 by omega, sc_four l b hb k (by omega), sc_fw l b hb k (by omega), List.take_succ_eq_append_getElem (by omega), fw_append, fold_sv b k (by omega), List.length_take, Nat.min_eq_left (by omega), Nat.zero_add]
    show _ = _ + (gn l k (sv b k) _ + 0)
    rw [← Bm.getD_lt (b ++ z6) 0 k (by omega), getD_z6]
    omega
/-- The score of a list's code, step by step. -/
theorem score_tot (l : List Int) (b : List Nat) (hb : ∀ x ∈ b, x ≤ 1) (hl : l.length = 4 * (b.length + 6)) : score l (code b) = tot l b := by
  unfold score tot
  have hl2 : (b ++ z6).length = b.length + 6 := by rw [List.length_append]; rfl
  rw [hl, sc_fw l b hb _ (Nat.le_refl _), List.take_of_length_le (by omega)]

/-! The order, and the best -/
/-- One list is ahead of another one in order, or they are the same. -/
def lexle : List Nat → List Nat → Prop
  | [], _ => True
  | _ :: _, [] => False
  | x :: a, y :: b => x < y ∨ (x = y ∧ lexle a b)
theorem lexle_refl : ∀ a, lexle a a
  | [] => trivial
  | x :: a => .inr ⟨rfl, lexle_refl a⟩
theorem lexle_anti : ∀ a b : List Nat, a.length = b.length → lexle a b → lexle b a → a = b
  | [], [], _, _, _ => rfl
  | x :: a, y :: b, hl, h1, h2 => by
    rcases h1 with h1 | ⟨rfl, h1⟩
    · rcases h2 with h2 | ⟨h2, _⟩ <;> omega
    · rcases h2 with h2 | ⟨_, h2⟩
      · omega
      · rw [lexle_anti a b (by simpa using hl) h1 h2]
/-- b is the best of all lists of its length by f, and the first of several. -/
structure Best (f : List Nat → Int) (n : Nat) (b : List Nat) : Prop where
  len : b.length = n
  bit : ∀ x ∈ b, x ≤ 1
  top : ∀ c, c.length = n → (∀ x ∈ c, x ≤ 1) → f c < f b ∨ (f c = f b ∧ lexle b c)
theorem Best.uniq {f : List Nat → Int} {n : Nat} {a b : List Nat} (h1 : Best f n a) (h2 : Best f n b) : a = b := by
  have p := h1.top b h2.len h2.bit
  have q := h2.top a h1.len h1.bit
  rcases p with p | ⟨_, p⟩
  · rcases q with q | ⟨q, _⟩ <;> omega
  · rcases q with q | ⟨_, q⟩
    · omega
    · exact lexle_anti a b (by rw [h1.len, h2.len]) p q
theorem Best.ge {f : List Nat → Int} {n : Nat} {b : List Nat} (h : Best f n b) (c : List Nat) (hc : c.length = n) (hb : ∀ x ∈ c, x ≤ 1) : f c ≤ f b := by
  rcases h.top c hc hb with h | h <;> omega
theorem Best.congr {f g : List Nat → Int} {n : Nat} {b : List Nat} (h : Best f n b) (e : ∀ c, c.length = n → (∀ x ∈ c, x ≤ 1) → (g c < g b ↔ f c < f b) ∧ (g c = g b ↔ f c = f b)) : Best g n b :=
  ⟨h.len, h.bit, fun c h1 h2 => by
    rcases h.top c h1 h2 with h3 | ⟨h3, h4⟩
    · exact .inl ((e c h1 h2).1.2 h3)
    · exact .inr ⟨(e c h1 h2).2.2 h3, h4⟩⟩
/-- A list that scores more than each other one is the best. -/
theorem Best.strict {f : List Nat → Int} {n : Nat} {b : List Nat} (hl : b.length = n) (hb : ∀ x ∈ b, x ≤ 1) (h : ∀ c, c.length = n → (∀ x ∈ c, x ≤ 1) → c ≠ b → f c < f b) : Best f n b :=
  ⟨hl, hb, fun c h1 h2 => by
    by_cases hc : c = b
    · subst hc; exact .inr ⟨rfl, lexle_refl _⟩
    · exact .inl (h c h1 h2 hc)⟩

/-! The best from each state on -/
def mb (l : List Int) : Nat → Nat → Nat → Int
  | 0, t, s => fw l t s z6
  | m + 1, t, s => max (gn l t s 0 + mb l m (t + 1) (nx s 0)) (gn l t s 1 + mb l m (t + 1) (nx s 1))
def rb (l : List Int) : Nat → Nat → Nat → List Nat
  | 0, _, _ => []
  | m + 1, t, s => if gn l t s 0 + mb l m (t + 1) (nx s 0) = mb l (m + 1) t s then 0 :: rb l m (t + 1) (nx s 0) else 1 :: rb l m (t + 1) (nx s 1)
theorem rb_length (l : List Int) : ∀ m t s, (rb l m t s).length = m
  | 0, _, _ => rfl
  | m + 1, t, s => by
    unfold rb
    split <;> simp [rb_length l m]
theorem rb_bit (l : List Int) : ∀ m t s, ∀ x ∈ rb l m t s, x ≤ 1
  | 0, _, _, x, h => by simp [rb] at h
  | m + 1, t, s, x, h => by
    unfold rb at h
    split at h
    · rcases List.mem_cons.1 h with rfl | h
      · omega
      · exact rb_bit l m _ _ x h
    · rcases List.mem_cons.1 h with rfl | h
      · omega
      · exact rb_bit l m _ _ x h
theorem mb_ge (l : List Int) : ∀ m t s c, c.length = m → (∀ x ∈ c, x ≤ 1) → fw l t s (c ++ z6) ≤ mb l m t s
  | 0, t, s, [], _, _ => Int.le_refl _
  | m + 1, t, s, x :: c, hc, hb => by
    have hx := hb x List.mem_cons_self
    have ih := mb_ge l m (t + 1) (nx s x) c (by simpa using hc) (fun y hy => hb y (List.mem_cons_of_mem _ hy))
    show gn l t s x + fw l (t + 1) (nx s x) (c ++ z6) ≤ max _ _
    have : x = 0 ∨ x = 1 := by omega
    rcases this with rfl | rfl <;> omega
theorem rb_eq (l : List Int) : ∀ m t s, fw l t s (rb l m t s ++ z6) = mb l m t s
  | 0, _, _ => rfl
  | m + 1, t, s => by
    unfold rb
    split
    · rename_i h
      show gn l t s 0 + fw l (t + 1) (nx s 0) (rb l m (t + 1) (nx s 0) ++ z6) = _
      rw [rb_eq l m, h]
    · rename_i h
      show gn l t s 1 + fw l (t + 1) (nx s 1) (rb l m (t + 1) (nx s 1) ++ z6) = _
      rw [rb_eq l m]
      have e : mb l (m + 1) t s = max (gn l t s 0 + mb l m (t + 1) (nx s 0)) (gn l t s 1 + mb l m (t + 1) (nx s 1)) := rfl
      omega
theorem rb_first (l : List Int) : ∀ m t s c, c.length = m → (∀ x ∈ c, x ≤ 1) → fw l t s (c ++ z6) = mb l m t s → lexle (rb l m t s) c
  | 0, _, _, _, _, _, _ => trivial
  | m + 1, t, s, x :: c, hc, hb, he => by
    have hx := hb x List.mem_cons_self
    have hc2 : c.length = m := by simpa using hc
    have hb2 : ∀ y ∈ c, y ≤ 1 := fun y hy => hb y (List.mem_cons_of_mem _ hy)
    have ge := mb_ge l m (t + 1) (nx s x) c hc2 hb2
    change gn l t s x + fw l (t + 1) (nx s x) (c ++ z6) = mb l (m + 1) t s at he
    have e : mb l (m + 1) t s = max (gn l t s 0 + mb l m (t + 1) (nx s 0)) (gn l t s 1 + mb l m (t + 1) (nx s 1)) := rfl
    have hx2 : x = 0 ∨ x = 1 := by omega
    unfold rb
    split
    · rename_i h
      rcases hx2 with rfl | rfl
      · exact .inr ⟨rfl, rb_first l m _ _ c hc2 hb2 (by omega)⟩
      · exact .inl (by omega)
    · rename_i h
      rcases hx2 with rfl | rfl
      · exfalso; omega
      · exact .inr ⟨rfl, rb_first l m _ _ c hc2 hb2 (by omega)⟩
/-- Step by step from the end, the best list is told. -/
theorem rb_best (l : List Int) (n : Nat) : Best (tot l) n (rb l n 0 0) := by
  refine ⟨rb_length l n 0 0, rb_bit l n 0 0, fun c h1 h2 => ?_⟩
  have h3 := mb_ge l n 0 0 c h1 h2
  have h4 := rb_eq l n 0 0
  unfold tot
  by_cases h : fw l 0 0 (c ++ z6) = mb l n 0 0
  · exact .inr ⟨by rw [h, h4], rb_first l n 0 0 c h1 h2 h⟩
  · exact .inl (by rw [h4]; omega)

/-! All lists one by one -/
/-- The n bits of k, the highest first. -/
def bin : Nat → Nat → List Nat
  | 0, _ => []
  | n + 1, k => k / 2 ^ n % 2 :: bin n k
theorem bin_length : ∀ n k, (bin n k).length = n
  | 0, _ => rfl
  | n + 1, k => by simp [bin, bin_length n]
theorem bin_bit : ∀ n k, ∀ x ∈ bin n k, x ≤ 1
  | 0, _, x, h => by simp [bin] at h
  | n + 1, k, x, h => by
    rcases List.mem_cons.1 h with rfl | h
    · omega
    · exact bin_bit n k x h
theorem bin_mod : ∀ n k, bin n k = bin n (k % 2 ^ n) := by
  have key : ∀ n m k, n ≤ m → bin n k = bin n (k % 2 ^ m) := by
    intro n
    induction n with
    | zero => intro m k _; rfl
    | succ n ih =>
      intro m k h
      unfold bin
      rw [ih m k (by omega)]
      congr 1
      have h1 := Nat.testBit_mod_two_pow k m n
      rw [Nat.testBit_eq_decide_div_mod_eq, Nat.testBit_eq_decide_div_mod_eq] at h1
      have a1 : k / 2 ^ n % 2 < 2 := Nat.mod_lt _ (by omega)
      have a2 : k % 2 ^ m / 2 ^ n % 2 < 2 := Nat.mod_lt _ (by omega)
      simp only [show n < m by omega, decide_true, Bool.true_and, decide_eq_decide] at h1
      omega
  exact fun n k => key n n k (Nat.le_refl _)
theorem bin_lex : ∀ n a b, a < 2 ^ n → b < 2 ^ n → a ≤ b → lexle (bin n a) (bin n b)
  | 0, _, _, _, _, _ => trivial
  | n + 1, a, b, ha, hb, h => by
    have hp := Nat.two_pow_pos n
    rw [Nat.pow_succ] at ha hb
    have h1 : a / 2 ^ n < 2 := Nat.div_lt_of_lt_mul (by omega)
    have h2 : b / 2 ^ n < 2 := Nat.div_lt_of_lt_mul (by omega)
    have h3 : a / 2 ^ n ≤ b / 2 ^ n := Nat.div_le_div_right h
    show _ < _ ∨ _
    by_cases he : a / 2 ^ n = b / 2 ^ n
    · refine .inr ⟨by rw [he], ?_⟩
      rw [bin_mod n a, bin_mod n b]
      refine bin_lex n _ _ (Nat.mod_lt _ hp) (Nat.mod_lt _ hp) ?_
      have e1 := Nat.div_add_mod a (2 ^ n)
      have e2 := Nat.div_add_mod b (2 ^ n)
      rw [he] at e1
      omega
    · refine .inl ?_
      generalize a / 2 ^ n = p at *
      generalize b / 2 ^ n = q at *
      omega
/-- The number of bits, the highest first. -/
def numb : List Nat → Nat
  | [] => 0
  | x :: c => x * 2 ^ c.length + numb c
theorem numb_lt : ∀ c : List Nat, (∀ x ∈ c, x ≤ 1) → numb c < 2 ^ c.length
  | [], _ => by simp [numb]
  | x :: c, h => by
    have h1 := numb_lt c (fun y hy => h y (List.mem_cons_of_mem _ hy))
    have h2 := h x List.mem_cons_self
    unfold numb
    rw [List.length_cons, Nat.pow_succ]
    have : x * 2 ^ c.length ≤ 1 * 2 ^ c.length := Nat.mul_le_mul_right _ h2
    omega
theorem bin_numb : ∀ c : List Nat, (∀ x ∈ c, x ≤ 1) → bin c.length (numb c) = c
  | [], _ => rfl
  | x :: c, h => by
    have h0 : ∀ y ∈ c, y ≤ 1 := fun y hy => h y (List.mem_cons_of_mem _ hy)
    have h1 := numb_lt c h0
    have h2 := h x List.mem_cons_self
    have ih := bin_numb c h0
    show (numb (x :: c)) / 2 ^ c.length % 2 :: bin c.length (numb (x :: c)) = _
    have e1 : numb (x :: c) / 2 ^ c.length = x := by
      unfold numb
      rw [Nat.add_comm, Nat.add_mul_div_right _ _ (Nat.two_pow_pos _), Nat.div_eq_of_lt h1, Nat.zero_add]
    have e2 : numb (x :: c) % 2 ^ c.length = numb c := by
      show (x * 2 ^ c.length + numb c) % 2 ^ c.length = numb c
      rw [Nat.add_comm, Nat.add_mul_mod_self_right, Nat.mod_eq_of_lt h1]
    rw [e1, bin_mod, e2, ih, show x % 2 = x by omega]
/-- The first of the best among the first K. -/
structure Top (f : List Nat → Int) (n K : Nat) (b : List Nat) : Prop where
  is : ∃ k, k < K ∧ b = bin n k ∧ ∀ j, j < K → f (bin n j) < f b ∨ (f (bin n j) = f b ∧ k ≤ j)
theorem Top.one (f : List Nat → Int) (n : Nat) : Top f n 1 (bin n 0) := ⟨0, by omega, rfl, fun j hj => .inr ⟨by rw [show j = 0 by omega], by omega⟩⟩
theorem Top.more {f : List Nat → Int} {n K : Nat} {b : List Nat} (h : Top f n K b) (hf : f b < f (bin n K)) : Top f n (K + 1) (bin n K) := by
  obtain ⟨k, hk, rfl, ht⟩ := h.is
  refine ⟨K, by omega, rfl, fun j hj => ?_⟩
  by_cases hjK : j = K
  · subst hjK; exact .inr ⟨rfl, Nat.le_refl _⟩
  · rcases ht j (by omega) with h1 | ⟨h1, _⟩ <;> exact .inl (by omega)
theorem Top.same {f : List Nat → Int} {n K : Nat} {b : List Nat} (h : Top f n K b) (hf : ¬ f b < f (bin n K)) : Top f n (K + 1) b := by
  obtain ⟨k, hk, rfl, ht⟩ := h.is
  refine ⟨k, by omega, rfl, fun j hj => ?_⟩
  by_cases hjK : j = K
  · subst hjK
    by_cases he : f (bin n j) = f (bin n k)
    · exact .inr ⟨he, by omega⟩
    · exact .inl (by omega)
  · exact ht j (by omega)
theorem Top.best {f : List Nat → Int} {n : Nat} {b : List Nat} (h : Top f n (2 ^ n) b) : Best f n b := by
  obtain ⟨k, hk, rfl, ht⟩ := h.is
  refine ⟨bin_length n k, bin_bit n k, fun c h1 h2 => ?_⟩
  subst h1
  have e := bin_numb c h2
  rcases ht (numb c) (numb_lt c h2) with h3 | ⟨h3, h4⟩
  · rw [e] at h3; exact .inl h3
  · have := bin_lex c.length k (numb c) hk (numb_lt c h2) h4
    rw [e] at h3 this
    exact .inr ⟨h3, this⟩
end Go.Proofs.Ytknfpdlomgllhaa.Cv
