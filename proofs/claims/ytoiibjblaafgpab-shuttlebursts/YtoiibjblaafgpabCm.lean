/-
  Plain mathematics for layers 4 and 5: registers that are stepped bit by bit, and that add up by exclusive or. No program is named.
-/
import Derived.Test.YtoiibjblaafgpabPoly
import Derived.Test.YtoiibjblaafgpabBn
namespace Go.Proofs.Ytoiibjblaafgpab.Crc
set_option linter.unusedVariables false

theorem xor_swap (a b c d : Nat) : (a ^^^ b) ^^^ (c ^^^ d) = (a ^^^ c) ^^^ (b ^^^ d) := Poly.xor4 a b c d

/-- f adds up by exclusive or. -/
def Lin (f : Nat → Nat) : Prop := ∀ a b, f (a ^^^ b) = f a ^^^ f b
/-- f so many times. -/
def it (f : Nat → Nat) : Nat → Nat → Nat
  | 0, a => a
  | n + 1, a => it f n (f a)
theorem it_add (f : Nat → Nat) : ∀ m n a, it f (m + n) a = it f n (it f m a)
  | 0, n, a => by rw [Nat.zero_add]; rfl
  | m + 1, n, a => by rw [Nat.add_right_comm]; exact it_add f m n (f a)
theorem it_succ (f : Nat → Nat) (n a : Nat) : it f (n + 1) a = f (it f n a) := it_add f n 1 a
theorem Lin.it {f : Nat → Nat} (h : Lin f) : ∀ n, Lin (it f n)
  | 0 => fun _ _ => rfl
  | n + 1 => fun a b => by
    show Crc.it f n (f (a ^^^ b)) = Crc.it f n (f a) ^^^ Crc.it f n (f b)
    rw [h a b]; exact Lin.it h n (f a) (f b)
theorem Lin.zero {f : Nat → Nat} (h : Lin f) : f 0 = 0 := by
  have := h 0 0
  rw [Nat.xor_self, Nat.xor_self] at this; exact this
theorem it_zero {f : Nat → Nat} (B : Nat) (h0 : ∀ a, a < B → f a = 0 → a = 0) (hB : ∀ a, a < B → f a < B) : ∀ n a, a < B → it f n a = 0 → a = 0
  | 0, a, _, h => h
  | n + 1, a, ha, h => h0 a ha (it_zero B h0 hB n (f a) (hB a ha) h)
theorem it_lt {f : Nat → Nat} (B : Nat) (hB : ∀ a, a < B → f a < B) : ∀ n a, a < B → it f n a < B
  | 0, a, h => h
  | n + 1, a, h => it_lt B hB n (f a) (hB a h)

/-- One step of sixteen bits. -/
def s16 (a : Nat) : Nat := if a / 32768 % 2 = 1 then (2 * a % 65536) ^^^ 4129 else 2 * a % 65536
/-- One step of thirty-two bits, turned round. -/
def s32 (a : Nat) : Nat := if a % 2 = 1 then (a / 2) ^^^ 3988292384 else a / 2

theorem bit_xor (i a b : Nat) : (a ^^^ b) / 2 ^ i % 2 = (a / 2 ^ i % 2 + b / 2 ^ i % 2) % 2 := by
  have h := Nat.testBit_xor a b i
  rw [Nat.testBit_eq_decide_div_mod_eq, Nat.testBit_eq_decide_div_mod_eq, Nat.testBit_eq_decide_div_mod_eq] at h
  have h1 : a / 2 ^ i % 2 < 2 := Nat.mod_lt _ (by omega)
  have h2 : b / 2 ^ i % 2 < 2 := Nat.mod_lt _ (by omega)
  have h3 : (a ^^^ b) / 2 ^ i % 2 < 2 := Nat.mod_lt _ (by omega)
  generalize a / 2 ^ i % 2 = x at *
  generalize b / 2 ^ i % 2 = y at *
  generalize (a ^^^ b) / 2 ^ i % 2 = z at *
  have hx : x = 0 ∨ x = 1 := by omega
  have hy : y = 0 ∨ y = 1 := by omega
  have hz : z = 0 ∨ z = 1 := by omega
  rcases hx with rfl | rfl <;> rcases hy with rfl | rfl <;> rcases hz with rfl | rfl <;> simp at h ⊢

theorem s16_lin : Lin s16 := by
  intro a b
  have hb := bit_xor 15 a b
  have e : (2 * (a ^^^ b)) % 65536 = (2 * a % 65536) ^^^ (2 * b % 65536) := by
    rw [Poly.two_mul_xor]; exact Nat.xor_mod_two_pow (n := 16)
  have h1 : a / 32768 % 2 < 2 := Nat.mod_lt _ (by omega)
  have h2 : b / 32768 % 2 < 2 := Nat.mod_lt _ (by omega)
  unfold s16
  simp only [show (2 : Nat) ^ 15 = 32768 from rfl] at hb
  rw [hb, e]
  generalize a / 32768 % 2 = x at *
  generalize b / 32768 % 2 = y at *
  have hx : x = 0 ∨ x = 1 := by omega
  have hy : y = 0 ∨ y = 1 := by omega
  rcases hx with rfl | rfl <;> rcases hy with rfl | rfl <;> simp only [Nat.zero_add, Nat.add_zero, reduceIte, Nat.reduceAdd, Nat.reduceMod, Nat.zero_ne_one]
  · rw [Nat.xor_assoc]
  · rw [Nat.xor_assoc, Nat.xor_assoc, Nat.xor_comm 4129]
  · rw [xor_swap, Nat.xor_self, Nat.xor_zero]
theorem s32_lin : Lin s32 := by
  intro a b
  have hb := bit_xor 0 a b
  have e : (a ^^^ b) / 2 = (a / 2) ^^^ (b / 2) := Nat.xor_div_two
  have h1 : a % 2 < 2 := Nat.mod_lt _ (by omega)
  have h2 : b % 2 < 2 := Nat.mod_lt _ (by omega)
  unfold s32
  simp only [Nat.pow_zero, Nat.div_one] at hb
  rw [hb, e]
  generalize a % 2 = x at *
  generalize b % 2 = y at *
  have hx : x = 0 ∨ x = 1 := by omega
  have hy : y = 0 ∨ y = 1 := by omega
  rcases hx with rfl | rfl <;> rcases hy with rfl | rfl <;> simp only [Nat.zero_add, Nat.add_zero, reduceIte, Nat.reduceAdd, Nat.reduceMod, Nat.zero_ne_one]
  · rw [Nat.xor_assoc]
  · rw [Nat.xor_assoc, Nat.xor_assoc, Nat.xor_comm 3988292384]
  · rw [xor_swap, Nat.xor_self, Nat.xor_zero]
theorem s16_lt (a : Nat) : s16 a < 65536 := by
  unfold s16
  split
  · exact Nat.xor_lt_two_pow (n := 16) (Nat.mod_lt _ (by decide)) (by decide)
  · exact Nat.mod_lt _ (by decide)
theorem s32_lt (a : Nat) (h : a < 4294967296) : s32 a < 4294967296 := by
  unfold s32
  split
  · exact Nat.xor_lt_two_pow (n := 32) (by omega) (by decide)
  · omega
theorem s16_zero (a : Nat) (ha : a < 65536) (h : s16 a = 0) : a = 0 := by
  unfold s16 at h
  split at h
  · have := Poly.xor_eq_zero _ _ h; omega
  · omega
theorem s32_zero (a : Nat) (ha : a < 4294967296) (h : s32 a = 0) : a = 0 := by
  unfold s32 at h
  split at h
  · have := Poly.xor_eq_zero _ _ h; omega
  · omega

/-- A byte is taken in: eight steps, the byte times v laid in first. -/
def tk (f : Nat → Nat) (v s x : Nat) : Nat := it f 8 (s ^^^ x * v)
/-- All bytes are taken in. -/
def run (f : Nat → Nat) (v s : Nat) (l : List Nat) : Nat := l.foldl (tk f v) s
theorem run_snoc (f : Nat → Nat) (v s : Nat) (l : List Nat) (x : Nat) : run f v s (l ++ [x]) = tk f v (run f v s l) x := by simp [run]
theorem run_append (f : Nat → Nat) (v s : Nat) (l m : List Nat) : run f v s (l ++ m) = run f v (run f v s l) m := by simp [run]
theorem run_cons (f : Nat → Nat) (v s x : Nat) (l : List Nat) : run f v s (x :: l) = run f v (tk f v s x) l := rfl
theorem run_take (f : Nat → Nat) (v s : Nat) (l : List Nat) (k : Nat) (h : k < l.length) : run f v s (l.take (k + 1)) = tk f v (run f v s (l.take k)) (l.getD k 0) := by
  rw [List.take_succ_eq_append_getElem h, run_snoc, Bm.getD_lt _ _ _ h]

theorem mul_pow_xor (a b n : Nat) : (a ^^^ b) * 2 ^ n = a * 2 ^ n ^^^ b * 2 ^ n := by
  have h := Nat.shiftLeft_xor_distrib (a := a) (b := b) (i := n)
  simp only [Nat.shiftLeft_eq] at h
  exact h
theorem tk_xor {f : Nat → Nat} (hf : Lin f) (n s t x y : Nat) : tk f (2 ^ n) (s ^^^ t) (x ^^^ y) = tk f (2 ^ n) s x ^^^ tk f (2 ^ n) t y := by
  unfold tk
  rw [mul_pow_xor, xor_swap, hf.it 8]
theorem tk_left {f : Nat → Nat} (hf : Lin f) (v s t x : Nat) : tk f v (s ^^^ t) x = tk f v s x ^^^ it f 8 t := by
  unfold tk
  rw [Nat.xor_assoc, Nat.xor_comm t, ← Nat.xor_assoc, hf.it 8]
theorem run_left {f : Nat → Nat} (hf : Lin f) (v : Nat) : ∀ (l : List Nat) (s t : Nat), run f v (s ^^^ t) l = run f v s l ^^^ it f (8 * l.length) t
  | [], s, t => rfl
  | x :: l, s, t => by
    rw [run_cons, run_cons, tk_left hf, run_left hf v l, List.length_cons, Nat.mul_add, Nat.mul_one, Nat.add_comm (8 * l.length), it_add]
/-- A byte that is put together with d. -/
theorem run_set {f : Nat → Nat} (hf : Lin f) (n : Nat) (l : List Nat) (q d s : Nat) (h : q < l.length) :
    run f (2 ^ n) s (l.set q (l.getD q 0 ^^^ d)) = run f (2 ^ n) s l ^^^ it f (8 * (l.length - q)) (d * 2 ^ n) := by
  have e : l = l.take q ++ l.getD q 0 :: l.drop (q + 1) := by
    rw [Bm.getD_lt _ _ _ h, List.getElem_cons_drop, List.take_append_drop]
  have e2 : l.set q (l.getD q 0 ^^^ d) = l.take q ++ (l.getD q 0 ^^^ d) :: l.drop (q + 1) := List.set_eq_take_append_cons_drop.trans (if_pos h)
  rw [e2]
  conv => rhs; lhs; rw [e]
  rw [run_append, run_append, run_cons, run_cons]
  have ht : ∀ s, tk f (2 ^ n) s (l.getD q 0 ^^^ d) = tk f (2 ^ n) s (l.getD q 0) ^^^ it f 8 (d * 2 ^ n) := by
    intro s
    have := tk_xor hf n s 0 (l.getD q 0) d
    rw [Nat.xor_zero] at this
    rw [this]
    unfold tk
    rw [Nat.zero_xor]
  rw [ht, run_left hf, ← it_add, List.length_drop]
  congr 2
  omega

/-- Bytes put together, place by place. -/
def zx (a b : List Nat) : List Nat := List.zipWith (· ^^^ ·) a b
theorem run_zx {f : Nat → Nat} (hf : Lin f) (n : Nat) : ∀ (a b : List Nat) (s t : Nat), a.length = b.length → run f (2 ^ n) (s ^^^ t) (zx a b) = run f (2 ^ n) s a ^^^ run f (2 ^ n) t b
  | [], [], s, t, _ => rfl
  | x :: a, y :: b, s, t, h => by
    show run f (2 ^ n) (s ^^^ t) ((x ^^^ y) :: zx a b) = _
    rw [run_cons, run_cons, run_cons, tk_xor hf, run_zx hf n a b _ _ (by simpa using h)]

theorem run_lt {f : Nat → Nat} (v B N : Nat) (hB : B = 2 ^ N) (hf : ∀ a, a < B → f a < B) (hv : ∀ x, x < 256 → x * v < B) : ∀ (l : List Nat) (s : Nat), s < B → (∀ x ∈ l, x < 256) → run f v s l < B
  | [], s, h, _ => h
  | x :: l, s, h, hl => by
    subst hB
    rw [run_cons]
    refine run_lt v _ N rfl hf hv l _ ?_ (fun y hy => hl y (List.mem_cons_of_mem _ hy))
    exact it_lt _ hf 8 _ (Nat.xor_lt_two_pow h (hv x (hl x List.mem_cons_self)))

/-- The register of sixteen bits, and of thirty-two. -/
def r16 (l : List Nat) : Nat := run s16 256 65535 l
def r32 (l : List Nat) : Nat := run s32 1 4294967295 l
/-- The sum of 32 bits. -/
def c32 (l : List Nat) : Nat := 4294967295 ^^^ r32 l
theorem r16_lt (l : List Nat) (h : ∀ x ∈ l, x < 256) : r16 l < 65536 := run_lt 256 65536 16 rfl (fun a _ => s16_lt a) (fun x hx => by omega) l _ (by decide) h
theorem r32_lt (l : List Nat) (h : ∀ x ∈ l, x < 256) : r32 l < 4294967296 := run_lt 1 4294967296 32 rfl s32_lt (fun x hx => by omega) l _ (by decide) h

theorem c32_lt (l : List Nat) (h : ∀ x ∈ l, x < 256) : c32 l < 4294967296 := Nat.xor_lt_two_pow (n := 32) (by decide) (r32_lt l h)

theorem it16_zero (n a : Nat) (ha : a < 65536) (h : it s16 n a = 0) : a = 0 := it_zero 65536 s16_zero (fun a _ => s16_lt a) n a ha h
theorem it32_zero (n a : Nat) (ha : a < 4294967296) (h : it s32 n a = 0) : a = 0 := it_zero 4294967296 s32_zero s32_lt n a ha h

theorem up16 : ∀ i, i ≤ 15 → it s16 i (2 ^ (15 - i)) = 32768 := by decide
theorem up32 : ∀ i, i ≤ 31 → it s32 i (2 ^ i) = 1 := by decide

/-- One place, told by its byte or by its own number. -/
theorem place16 (n q r k i : Nat) (hr : r ≤ 7) (hi : i ≤ 15) (h : 8 * q + r = k + i) (hn : k + i < 8 * n) : it s16 (8 * (n - q)) (2 ^ (7 - r) * 2 ^ 8) = it s16 (8 * n - k) (2 ^ (15 - i)) := by
  rw [show 8 * (n - q) = r + (8 * n - (k + i)) by omega, it_add, show 8 * n - k = i + (8 * n - (k + i)) by omega, it_add, up16 i hi, ← Nat.pow_add, show 7 - r + 8 = 15 - r by omega, up16 r (by omega)]
theorem place32 (n q r k i : Nat) (hr : r ≤ 7) (hi : i ≤ 31) (h : 8 * q + r = k + i) (hn : k + i < 8 * n) : it s32 (8 * (n - q)) (2 ^ r * 2 ^ 0) = it s32 (8 * n - k) (2 ^ i) := by
  rw [show 8 * (n - q) = r + (8 * n - (k + i)) by omega, it_add, show 8 * n - k = i + (8 * n - (k + i)) by omega, it_add, up32 i hi, Nat.pow_zero, Nat.mul_one, up32 r (by omega)]

/-- The first i bits of t, the lowest at the top of sixteen. -/
def top16 (t : Nat) : Nat → Nat
  | 0 => 0
  | i + 1 => top16 t i ^^^ (t / 2 ^ i % 2) * 2 ^ (15 - i)
/-- The first i bits of t. -/
def low32 (t : Nat) : Nat → Nat
  | 0 => 0
  | i + 1 => low32 t i ^^^ (t / 2 ^ i % 2) * 2 ^ i
theorem pow_xor (i y : Nat) (h : y < 2 ^ i) : 2 ^ i ^^^ y = 2 ^ i + y := by
  have e := Nat.two_pow_add_eq_or_of_lt h 1
  rw [Nat.mul_one] at e
  rw [e]
  apply Nat.eq_of_testBit_eq
  intro j
  rw [Nat.testBit_xor, Nat.testBit_or, Nat.testBit_two_pow]
  by_cases hj : i = j
  · subst hj; rw [Nat.testBit_lt_two_pow h]; simp
  · simp [hj]
theorem low32_eq (t : Nat) : ∀ i, low32 t i = t % 2 ^ i
  | 0 => by simp [low32, Nat.mod_one]
  | i + 1 => by
    unfold low32
    rw [low32_eq t i, Nat.mod_pow_succ]
    have h : t % 2 ^ i < 2 ^ i := Nat.mod_lt _ (Nat.two_pow_pos i)
    have hb : t / 2 ^ i % 2 = 0 ∨ t / 2 ^ i % 2 = 1 := by omega
    rcases hb with e | e <;> rw [e]
    · simp
    · rw [Nat.one_mul, Nat.mul_one, Nat.xor_comm, Nat.add_comm]
      exact pow_xor i _ h
theorem top16_bit (t : Nat) : ∀ i j, i ≤ 16 → j < i → (top16 t i) / 2 ^ (15 - j) % 2 = t / 2 ^ j % 2 := by
  have zero : ∀ i j, i ≤ 16 → i ≤ j → j < 16 → (top16 t i) / 2 ^ (15 - j) % 2 = 0 := by
    intro i
    induction i with
    | zero => intro j _ _ _; simp [top16]
    | succ i ih =>
      intro j h1 h2 h3
      unfold top16
      rw [bit_xor, ih j (by omega) (by omega) h3]
      have hb : t / 2 ^ i % 2 = 0 ∨ t / 2 ^ i % 2 = 1 := by omega
      rcases hb with e | e <;> rw [e]
      · simp
      · rw [Nat.one_mul, show 15 - i = (15 - j) + (j - i) by omega, Nat.pow_add, Nat.mul_div_cancel_left _ (Nat.two_pow_pos _), show j - i = (j - i - 1) + 1 by omega, Nat.pow_succ]
        omega
  intro i
  induction i with
  | zero => intro j _ h; omega
  | succ i ih =>
    intro j h1 h2
    unfold top16
    rw [bit_xor]
    by_cases hj : j = i
    · subst hj
      rw [zero j j (by omega) (Nat.le_refl _) (by omega), Nat.mul_div_cancel _ (Nat.two_pow_pos _)]
      omega
    · rw [ih j (by omega) (by omega)]
      have hb : t / 2 ^ i % 2 = 0 ∨ t / 2 ^ i % 2 = 1 := by omega
      rcases hb with e | e <;> rw [e]
      · simp
      · rw [Nat.one_mul, Nat.div_eq_of_lt (Nat.pow_lt_pow_right (by decide) (by omega))]
        omega
theorem top16_lt (t : Nat) : ∀ i, top16 t i < 65536
  | 0 => by simp [top16]
  | i + 1 => by
    unfold top16
    refine Nat.xor_lt_two_pow (n := 16) (top16_lt t i) ?_
    have h1 : 2 ^ (15 - i) ≤ 2 ^ 15 := Nat.pow_le_pow_right (by decide) (by omega)
    have hb : t / 2 ^ i % 2 = 0 ∨ t / 2 ^ i % 2 = 1 := by omega
    rcases hb with e | e <;> rw [e] <;> omega
theorem top16_ne (t : Nat) (ht : t < 65536) (h0 : t ≠ 0) : top16 t 16 ≠ 0 := by
  intro h
  apply h0
  apply Nat.eq_of_testBit_eq
  intro i
  rw [Nat.zero_testBit]
  by_cases hi : i < 16
  · have := top16_bit t 16 i (Nat.le_refl _) hi
    rw [h] at this
    rw [Nat.testBit_eq_decide_div_mod_eq, ← this]
    simp
  · exact Nat.testBit_lt_two_pow (Nat.lt_of_lt_of_le ht (Nat.pow_le_pow_right (n := 2) (i := 16) (by decide) (by omega)))
end Go.Proofs.Ytoiibjblaafgpab.Crc
