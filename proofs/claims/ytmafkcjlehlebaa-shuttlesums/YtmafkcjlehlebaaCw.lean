/-
  Plain mathematics for the statement through layers 1 to 5: bits of bytes that are turned, and the sum of 32 bits. No program is named.
-/
import Derived.Test.YtmafkcjlehlebaaCs
namespace Go.Proofs.Ytmafkcjlehlebaa.Crc
set_option linter.unusedVariables false

/-- The bit at a place (of each byte the highest first) is turned. -/
def fl (bs : List Nat) (p : Nat) : List Nat := bs.set (p / 8) (bs.getD (p / 8) 0 ^^^ 2 ^ (7 - p % 8))
theorem fl_length (bs : List Nat) (p : Nat) : (fl bs p).length = bs.length := by simp [fl]
theorem fl_lt (bs : List Nat) (p : Nat) (h : ∀ b ∈ bs, b < 256) : ∀ b ∈ fl bs p, b < 256 := by
  intro b hb
  rcases List.mem_or_eq_of_mem_set hb with h2 | rfl
  · exact h b h2
  · have h1 : 2 ^ (7 - p % 8) ≤ 2 ^ 7 := Nat.pow_le_pow_right (by decide) (by omega)
    exact Nat.xor_lt_two_pow (n := 8) (Bm.byte_lt bs h _) (by omega)
theorem bit_flip (x r k : Nat) (hr : r ≤ 7) (hk : k ≤ 7) : (x ^^^ 2 ^ (7 - r)) / 2 ^ (7 - k) % 2 = if r = k then x / 2 ^ (7 - k) % 2 ^^^ 1 else x / 2 ^ (7 - k) % 2 := by
  rw [bit_xor]
  by_cases h : r = k
  · subst h
    rw [if_pos rfl, Nat.div_self (Nat.two_pow_pos _)]
    have hb : x / 2 ^ (7 - r) % 2 = 0 ∨ x / 2 ^ (7 - r) % 2 = 1 := by omega
    rcases hb with e | e <;> rw [e] <;> rfl
  · rw [if_neg h]
    have e : 2 ^ (7 - r) / 2 ^ (7 - k) % 2 = 0 := by
      by_cases h2 : 7 - r < 7 - k
      · rw [Nat.div_eq_of_lt (Nat.pow_lt_pow_right (by decide) h2)]
      · rw [Nat.pow_div (by omega) (by decide), show 7 - r - (7 - k) = (7 - r - (7 - k) - 1) + 1 by omega, Nat.pow_succ]
        omega
    rw [e]; omega
theorem ofBytes_fl (bs : List Nat) (p : Nat) (hp : p < 8 * bs.length) : Bm.ofBytes (fl bs p) = (Bm.ofBytes bs).set p ((Bm.ofBytes bs).getD p 0 ^^^ 1) := by
  apply Bm.ext_getD (by rw [List.length_set, Bm.ofBytes_length, Bm.ofBytes_length, fl_length])
  intro i hi
  rw [Bm.ofBytes_length, fl_length] at hi
  rw [Bm.set_getD _ _ _ _ (by rw [Bm.ofBytes_length]; exact hp)]
  obtain ⟨j, k, hk, rfl⟩ : ∃ j k, k < 8 ∧ i = 8 * j + k := ⟨i / 8, i % 8, by omega, by omega⟩
  obtain ⟨q, r, hr, rfl⟩ : ∃ q r, r < 8 ∧ p = 8 * q + r := ⟨p / 8, p % 8, by omega, by omega⟩
  rw [Bm.ofBytes_getD _ j k hk, Bm.ofBytes_getD _ j k hk, Bm.ofBytes_getD _ q r hr]
  unfold fl
  rw [show (8 * q + r) / 8 = q by omega, show (8 * q + r) % 8 = r by omega, Bm.set_getD _ _ _ _ (by omega)]
  by_cases hq : q = j
  · subst hq
    rw [if_pos rfl, bit_flip _ r k (by omega) (by omega)]
    by_cases hrk : r = k
    · subst hrk
      rw [if_pos rfl, if_pos rfl]
    · rw [if_neg hrk, if_neg (by omega)]
  · rw [if_neg hq, if_neg (by omega)]
/-- Some bits are turned. -/
def fls (bs : List Nat) (ps : List Nat) : List Nat := ps.foldl fl bs
theorem fls_length (ps : List Nat) : ∀ bs : List Nat, (fls bs ps).length = bs.length := by
  induction ps with
  | nil => intro bs; rfl
  | cons p ps ih => intro bs; show (fls (fl bs p) ps).length = _; rw [ih, fl_length]
theorem fls_lt (ps : List Nat) : ∀ bs : List Nat, (∀ b ∈ bs, b < 256) → ∀ b ∈ fls bs ps, b < 256 := by
  induction ps with
  | nil => intro bs h; exact h
  | cons p ps ih => intro bs h; exact ih (fl bs p) (fl_lt bs p h)
theorem fls_take (bs ps : List Nat) (k : Nat) (h : k < ps.length) : fls bs (ps.take (k + 1)) = fl (fls bs (ps.take k)) (ps.getD k 0) := by
  unfold fls
  rw [List.take_succ_eq_append_getElem h, Bm.getD_lt _ _ _ h, List.foldl_append]
  rfl
/-- Places as integers. -/
def ints (ps : List Nat) : List Int := ps.map fun (p : Nat) => (p : Int)
theorem ints_length (ps : List Nat) : (ints ps).length = ps.length := by simp [ints]
theorem ints_getD (ps : List Nat) (k : Nat) (h : k < ps.length) : (ints ps).getD k 0 = ((ps.getD k 0 : Nat) : Int) := by
  rw [Bm.getD_lt _ _ _ (by rw [ints_length]; exact h), Bm.getD_lt _ _ _ h]
  simp [ints]
theorem trn_fls (bs ps : List Nat) (hp : ∀ p ∈ ps, p < 8 * bs.length) : ∀ k, k ≤ ps.length → Bm.trn (Bm.ofBytes bs) ((ints ps).take k) = Bm.ofBytes (fls bs (ps.take k))
  | 0, _ => by
    show Bm.trn (Bm.ofBytes bs) [] = _
    rw [Bm.trn_nil]; rfl
  | k + 1, h => by
    have hk : ps.getD k 0 < 8 * bs.length := hp _ (by rw [Bm.getD_lt _ _ _ (by omega)]; exact List.getElem_mem _)
    rw [Bm.trn_in (Bm.ofBytes bs) (ints ps) k (by rw [ints_length]; omega) (ps.getD k 0) (by rw [Bm.ofBytes_length]; exact hk) (ints_getD ps k (by omega)), trn_fls bs ps hp k (by omega), fls_take bs ps k (by omega), ofBytes_fl _ _ (by rw [fls_length]; exact hk)]
theorem turned_bytes (bs ps : List Nat) (hb : ∀ b ∈ bs, b < 256) (hp : ∀ p ∈ ps, p < 8 * bs.length) : Bm.toBytes (Bm.trn (Bm.ofBytes bs) (ints ps)) = fls bs ps := by
  have := trn_fls bs ps hp ps.length (Nat.le_refl _)
  rw [List.take_length, List.take_of_length_le (by rw [ints_length]; omega)] at this
  rw [this, Bm.toBytes_ofBytes _ (fls_lt ps bs hb)]

/-- How many steps a place is ahead of the end, in the sum's order. -/
def mm (n p : Nat) : Nat := 8 * (n - p / 8) - (7 - p % 8)
theorem r32_fl (bs : List Nat) (p : Nat) (hp : p < 8 * bs.length) : r32 (fl bs p) = r32 bs ^^^ gg (mm bs.length p) := by
  have := run_set s32_lin 0 bs (p / 8) (2 ^ (7 - p % 8)) 4294967295 (by omega)
  have e : 8 * (bs.length - p / 8) = (7 - p % 8) + mm bs.length p := by unfold mm; omega
  rw [Nat.pow_zero, Nat.mul_one] at this
  rw [show it s32 (8 * (bs.length - p / 8)) (2 ^ (7 - p % 8)) = gg (mm bs.length p) by rw [e, it_add, up32 _ (by omega)]; rfl] at this
  exact this
theorem fl_fl (bs : List Nat) (p : Nat) (hp : p < 8 * bs.length) : fl (fl bs p) p = bs := by
  unfold fl
  have hq : p / 8 < bs.length := by omega
  rw [List.set_set, Bm.set_getD _ _ _ _ hq, if_pos rfl, Nat.xor_assoc, Nat.xor_self, Nat.xor_zero, Bm.getD_lt _ _ _ hq, List.set_getElem_self]
theorem gg_eq (a b : Nat) (ha : 1 ≤ a) (ha2 : a ≤ 240) (hb : 1 ≤ b) (hb2 : b ≤ 240) (h : gg a ^^^ gg b = 0) : a = b := by
  rcases Nat.lt_trichotomy a b with h1 | h1 | h1
  · exact absurd h (gg_two a b h1 hb2 ha)
  · exact h1
  · rw [Nat.xor_comm] at h
    exact absurd h (gg_two b a h1 ha2 hb)
theorem gg_any (a b c : Nat) (ha : 1 ≤ a) (ha2 : a ≤ 240) (hb : 1 ≤ b) (hb2 : b ≤ 240) (hc : 1 ≤ c) (hc2 : c ≤ 240) : gg a ^^^ gg b ^^^ gg c ≠ 0 := by
  intro h
  by_cases h1 : a = b
  · subst h1
    rw [Nat.xor_self, Nat.zero_xor] at h
    exact gg_zero c h
  by_cases h2 : b = c
  · subst h2
    rw [Nat.xor_assoc, Nat.xor_self, Nat.xor_zero] at h
    exact gg_zero a h
  by_cases h3 : a = c
  · subst h3
    rw [Nat.xor_comm (gg a), Nat.xor_assoc, Nat.xor_self, Nat.xor_zero] at h
    exact gg_zero b h
  have e1 : gg a ^^^ gg b ^^^ gg c = gg b ^^^ gg a ^^^ gg c := by rw [Nat.xor_comm (gg a)]
  have e2 : gg a ^^^ gg b ^^^ gg c = gg a ^^^ gg c ^^^ gg b := by rw [Nat.xor_assoc, Nat.xor_comm (gg b), ← Nat.xor_assoc]
  have e3 : gg a ^^^ gg b ^^^ gg c = gg b ^^^ gg c ^^^ gg a := by rw [Nat.xor_assoc, Nat.xor_comm (gg a)]
  have e4 : gg a ^^^ gg b ^^^ gg c = gg c ^^^ gg a ^^^ gg b := by rw [e2, Nat.xor_comm (gg a)]
  have e5 : gg a ^^^ gg b ^^^ gg c = gg c ^^^ gg b ^^^ gg a := by rw [e3, Nat.xor_comm (gg b)]
  rcases Nat.lt_or_gt_of_ne h1 with x | x
  · rcases Nat.lt_or_gt_of_ne h2 with y | y
    · exact gg_three a b c ha x y hc2 h
    · rcases Nat.lt_or_gt_of_ne h3 with z | z
      · rw [e2] at h; exact gg_three a c b ha z y hb2 h
      · rw [e4] at h; exact gg_three c a b hc z x hb2 h
  · rcases Nat.lt_or_gt_of_ne h3 with z | z
    · rw [e1] at h; exact gg_three b a c hb x z hc2 h
    · rcases Nat.lt_or_gt_of_ne h2 with y | y
      · rw [e3] at h; exact gg_three b c a hb y z ha2 h
      · rw [e5] at h; exact gg_three c b a hc y x ha2 h
theorem mm_range (n p : Nat) (hp : p < 8 * n) (hn : n ≤ 30) : 1 ≤ mm n p ∧ mm n p ≤ 240 := by unfold mm; omega
theorem mm_inj (n p q : Nat) (hp : p < 8 * n) (hq : q < 8 * n) (h : mm n p = mm n q) : p = q := by unfold mm at h; omega
theorem xor_left_self (r g : Nat) (h : r ^^^ g = r) : g = 0 := by
  have : r ^^^ (r ^^^ g) = 0 := by rw [h, Nat.xor_self]
  rwa [← Nat.xor_assoc, Nat.xor_self, Nat.zero_xor] at this
/-- At most three turned bits: the sum is the same only if nothing is turned. -/
theorem three (bs ps : List Nat) (hl : ps.length ≤ 3) (hp : ∀ p ∈ ps, p < 8 * bs.length) (hn : bs.length ≤ 30) (h : r32 (fls bs ps) = r32 bs) : fls bs ps = bs := by
  match ps, hl with
  | [], _ => rfl
  | [p], _ =>
    exfalso
    have h1 := hp p (by simp)
    change r32 (fl bs p) = r32 bs at h
    rw [r32_fl bs p h1] at h
    exact gg_zero _ (xor_left_self _ _ h)
  | [p, q], _ =>
    have h1 := hp p (by simp)
    have h2 := hp q (by simp)
    change r32 (fl (fl bs p) q) = r32 bs at h
    rw [r32_fl _ q (by rw [fl_length]; exact h2), r32_fl bs p h1, fl_length, Nat.xor_assoc] at h
    have m1 := mm_range _ p h1 hn
    have m2 := mm_range _ q h2 hn
    have e := mm_inj _ p q h1 h2 (gg_eq _ _ m1.1 m1.2 m2.1 m2.2 (xor_left_self _ _ h))
    subst e
    exact fl_fl bs p h1
  | [p, q, r], _ =>
    exfalso
    have h1 := hp p (by simp)
    have h2 := hp q (by simp)
    have h3 := hp r (by simp)
    change r32 (fl (fl (fl bs p) q) r) = r32 bs at h
    rw [r32_fl _ r (by rw [fl_length, fl_length]; exact h3), r32_fl _ q (by rw [fl_length]; exact h2), r32_fl bs p h1, Nat.xor_assoc, Nat.xor_assoc, ← Nat.xor_assoc (gg _)] at h
    simp only [fl_length] at h
    have m1 := mm_range _ p h1 hn
    have m2 := mm_range _ q h2 hn
    have m3 := mm_range _ r h3 hn
    exact gg_any _ _ _ m1.1 m1.2 m2.1 m2.2 m3.1 m3.2 (xor_left_self _ _ h)
  | _ :: _ :: _ :: _ :: _, h4 => simp at h4
theorem c32_three (bs ps : List Nat) (hl : ps.length ≤ 3) (hp : ∀ p ∈ ps, p < 8 * bs.length) (hn : bs.length ≤ 30) (h : c32 (fls bs ps) = c32 bs) : fls bs ps = bs := by
  refine three bs ps hl hp hn ?_
  have : 4294967295 ^^^ c32 (fls bs ps) = 4294967295 ^^^ c32 bs := by rw [h]
  unfold c32 at this
  rwa [← Nat.xor_assoc, ← Nat.xor_assoc, Nat.xor_self, Nat.zero_xor, Nat.zero_xor] at this
end Go.Proofs.Ytmafkcjlehlebaa.Crc
