/-
  Plain mathematics for layer 1 (bits), more: counts, turned lists, few bits. No program is named.
-/
import Derived.Test.YtoiibjblaafgpabBm
namespace Go.Proofs.Ytoiibjblaafgpab.Bm
set_option linter.unusedVariables false

/-- How many of the first k numbers have it. -/
def cnt (p : Nat → Bool) : Nat → Nat
  | 0 => 0
  | k + 1 => cnt p k + if p k then 1 else 0
theorem cnt_le (p : Nat → Bool) : ∀ k, cnt p k ≤ k
  | 0 => Nat.le_refl _
  | k + 1 => by have := cnt_le p k; unfold cnt; split <;> omega
theorem cnt_congr {p q : Nat → Bool} : ∀ k, (∀ i, i < k → p i = q i) → cnt p k = cnt q k
  | 0, _ => rfl
  | k + 1, h => by unfold cnt; rw [cnt_congr k (fun i hi => h i (by omega)), h k (by omega)]
theorem cnt_all {p : Nat → Bool} : ∀ k, (∀ i, i < k → p i = true) → cnt p k = k
  | 0, _ => rfl
  | k + 1, h => by unfold cnt; rw [cnt_all k (fun i hi => h i (by omega)), h k (by omega)]; rfl
theorem cnt_not {p q : Nat → Bool} : ∀ k, (∀ i, i < k → p i = !q i) → cnt p k + cnt q k = k
  | 0, _ => rfl
  | k + 1, h => by
    have := cnt_not k (fun i hi => h i (by omega))
    unfold cnt
    rw [h k (by omega)]
    cases q k <;> simp <;> omega
theorem cnt_tri {p q r : Nat → Bool} : ∀ k, (∀ i, i < k → r i = true → p i = true ∨ q i = true) → cnt r k ≤ cnt p k + cnt q k
  | 0, _ => Nat.zero_le _
  | k + 1, h => by
    have := cnt_tri k (fun i hi => h i (by omega))
    have := h k (by omega)
    unfold cnt
    cases hr : r k <;> cases hp : p k <;> cases hq : q k <;> simp_all <;> omega

/-- How many aren't 0. -/
def wt (l : List Nat) : Nat := cnt (fun i => l.getD i 0 != 0) l.length
/-- At how many places of the first list are they unlike? -/
def ap (a b : List Nat) : Nat := cnt (fun i => a.getD i 0 != b.getD i 0) a.length
/-- Are they bits? -/
def isB (l : List Nat) : Bool := l.all fun x => decide (x ≤ 1)

theorem isB_true {l : List Nat} (h : isB l = true) : ∀ x ∈ l, x ≤ 1 := by
  intro x hx
  simpa using List.all_eq_true.1 h x hx
theorem isB_of {l : List Nat} (h : ∀ x ∈ l, x ≤ 1) : isB l = true := List.all_eq_true.2 fun x hx => by simpa using h x hx
theorem isB_of_getD {l : List Nat} (h : ∀ i, i < l.length → l.getD i 0 ≤ 1) : isB l = true := by
  refine isB_of fun x hx => ?_
  obtain ⟨i, hi, rfl⟩ := List.getElem_of_mem hx
  have := h i hi
  rw [getD_lt _ _ _ hi] at this
  exact this
theorem isB_false {l : List Nat} (i : Nat) (hi : i < l.length) (h : 1 < l.getD i 0) : isB l = false := by
  cases hb : isB l with
  | false => rfl
  | true =>
    have := bit_le l (isB_true hb) i
    omega

/-- One number, turned as often as its place is named. -/
def tgl (c : Nat) (at_ : List Int) (j : Nat) : Nat := at_.foldl (fun c a => if a = (j : Int) then c ^^^ 1 else c) c
/-- The list, turned at some places. -/
def trn (l : List Nat) (at_ : List Int) : List Nat := (List.range l.length).map fun j => tgl (l.getD j 0) at_ j

theorem trn_length (l : List Nat) (at_ : List Int) : (trn l at_).length = l.length := by simp [trn]
theorem trn_getD (l : List Nat) (at_ : List Int) (j : Nat) (h : j < l.length) : (trn l at_).getD j 0 = tgl (l.getD j 0) at_ j := by
  rw [getD_lt _ _ _ (by rw [trn_length]; exact h)]; simp [trn]
theorem tgl_snoc (c : Nat) (at_ : List Int) (a : Int) (j : Nat) : tgl c (at_ ++ [a]) j = if a = (j : Int) then tgl c at_ j ^^^ 1 else tgl c at_ j := by
  simp [tgl, List.foldl_append]
theorem tgl_take (c : Nat) (at_ : List Int) (k : Nat) (h : k < at_.length) (j : Nat) : tgl c (at_.take (k + 1)) j = if at_.getD k 0 = (j : Int) then tgl c (at_.take k) j ^^^ 1 else tgl c (at_.take k) j := by
  rw [List.take_succ_eq_append_getElem h, tgl_snoc, getD_lt _ _ _ h]
theorem ext_getD {l m : List Nat} (hl : l.length = m.length) (h : ∀ i, i < l.length → l.getD i 0 = m.getD i 0) : l = m := by
  apply List.ext_getElem hl
  intro i h1 h2
  have := h i h1
  rw [getD_lt _ _ _ h1, getD_lt _ _ _ h2] at this
  exact this
theorem set_getD (l : List Nat) (i : Nat) (x : Nat) (j : Nat) (h : i < l.length) : (l.set i x).getD j 0 = if i = j then x else l.getD j 0 := by
  simp only [List.getD, List.getElem?_set]
  by_cases hij : i = j
  · subst hij; simp [h]
  · simp [hij]
theorem trn_nil (l : List Nat) : trn l [] = l := by
  apply ext_getD (trn_length l [])
  intro i h
  rw [trn_length] at h
  rw [trn_getD l [] i h]; rfl
/-- One place more. -/
theorem trn_in (l : List Nat) (at_ : List Int) (k : Nat) (hk : k < at_.length) (p : Nat) (hp : p < l.length) (ha : at_.getD k 0 = (p : Int)) :
    trn l (at_.take (k + 1)) = (trn l (at_.take k)).set p ((trn l (at_.take k)).getD p 0 ^^^ 1) := by
  apply ext_getD
  · simp [trn_length]
  · intro i hi
    rw [trn_length] at hi
    rw [trn_getD _ _ _ hi, tgl_take _ _ _ hk, set_getD _ _ _ _ (by rw [trn_length]; exact hp), trn_getD _ _ _ hp, trn_getD _ _ _ hi, ha]
    by_cases h : p = i
    · subst h; simp
    · rw [if_neg h, if_neg (by omega)]
theorem trn_out (l : List Nat) (at_ : List Int) (k : Nat) (hk : k < at_.length) (ha : at_.getD k 0 < 0 ∨ (l.length : Int) ≤ at_.getD k 0) : trn l (at_.take (k + 1)) = trn l (at_.take k) := by
  apply ext_getD
  · simp [trn_length]
  · intro i hi
    rw [trn_length] at hi
    rw [trn_getD _ _ _ hi, tgl_take _ _ _ hk, trn_getD _ _ _ hi, if_neg (by omega)]

theorem tgl_xor (at_ : List Int) (j : Nat) : ∀ c : Nat, tgl c at_ j = c ^^^ tgl 0 at_ j := by
  induction at_ with
  | nil => intro c; simp [tgl]
  | cons a at_ ih =>
    intro c
    have e : ∀ c, tgl c (a :: at_) j = tgl (if a = (j : Int) then c ^^^ 1 else c) at_ j := fun c => rfl
    rw [e, e, ih, ih (if a = (j : Int) then 0 ^^^ 1 else 0)]
    split
    · rw [Nat.zero_xor, Nat.xor_assoc]
    · rw [Nat.zero_xor]
theorem tgl_twice (c : Nat) (at_ : List Int) (j : Nat) : tgl (tgl c at_ j) at_ j = c := by
  rw [tgl_xor, tgl_xor at_ j c, Nat.xor_assoc, Nat.xor_self, Nat.xor_zero]
/-- What is turned twice is as it was. -/
theorem trn_twice (l : List Nat) (at_ : List Int) : trn (trn l at_) at_ = l := by
  apply ext_getD
  · simp [trn_length]
  · intro i hi
    rw [trn_length, trn_length] at hi
    rw [trn_getD _ _ _ (by rw [trn_length]; exact hi), trn_getD _ _ _ hi, tgl_twice]

theorem xor_one_lt (c n : Nat) (h : c < 2 ^ n) (hn : 0 < n) : c ^^^ 1 < 2 ^ n := Nat.xor_lt_two_pow h (Nat.one_lt_two_pow (by omega))
theorem tgl_lt (n : Nat) (hn : 0 < n) (at_ : List Int) (j : Nat) : ∀ c : Nat, c < 2 ^ n → tgl c at_ j < 2 ^ n := by
  induction at_ with
  | nil => intro c h; exact h
  | cons a at_ ih =>
    intro c h
    show tgl (if a = (j : Int) then c ^^^ 1 else c) at_ j < 2 ^ n
    split
    · exact ih _ (xor_one_lt c n h hn)
    · exact ih _ h
theorem trn_lt (n : Nat) (hn : 0 < n) (l : List Nat) (at_ : List Int) (h : ∀ x ∈ l, x < 2 ^ n) : ∀ x ∈ trn l at_, x < 2 ^ n := by
  intro x hx
  obtain ⟨j, hj, rfl⟩ := List.mem_map.1 hx
  have hj' : j < l.length := by simpa using hj
  refine tgl_lt n hn at_ j _ ?_
  rw [getD_lt _ _ _ hj']
  exact h _ (List.getElem_mem hj')

/-- All places. -/
def allTo (k : Nat) : List Int := (List.range k).map fun (i : Nat) => (i : Int)
theorem allTo_succ (k : Nat) : allTo (k + 1) = allTo k ++ [(k : Int)] := by simp [allTo, List.range_succ]
theorem allTo_length (k : Nat) : (allTo k).length = k := by simp [allTo]
theorem tgl_allTo (c j : Nat) : ∀ k, tgl c (allTo k) j = if j < k then c ^^^ 1 else c
  | 0 => rfl
  | k + 1 => by
    rw [allTo_succ, tgl_snoc, tgl_allTo c j k]
    by_cases h : k = j
    · subst h; simp
    · rw [if_neg (show ¬ (k : Int) = (j : Int) by omega)]
      by_cases h2 : j < k
      · rw [if_pos h2, if_pos (by omega)]
      · rw [if_neg h2, if_neg (by omega)]

theorem xor_one_ne (c : Nat) : c ≠ c ^^^ 1 := by
  intro h
  have h2 : (c ^^^ 1) % 2 = 1 ↔ ¬ (c % 2 = 1 ↔ 1 % 2 = 1) := Nat.xor_mod_two_eq_one
  rw [← h] at h2
  omega
theorem ap_all (l : List Nat) : ap l (trn l (allTo l.length)) = l.length := by
  unfold ap
  apply cnt_all
  intro i hi
  rw [trn_getD _ _ _ hi, tgl_allTo, if_pos hi]
  simp [xor_one_ne]
theorem wt_all (l : List Nat) (h : ∀ x ∈ l, x ≤ 1) : wt (trn l (allTo l.length)) + wt l = l.length := by
  unfold wt
  rw [trn_length]
  apply cnt_not
  intro i hi
  rw [trn_getD _ _ _ hi, tgl_allTo, if_pos hi]
  have hb := bit_le l h i
  have : l.getD i 0 = 0 ∨ l.getD i 0 = 1 := by omega
  rcases this with e | e <;> rw [e] <;> decide

theorem wt_le (l : List Nat) : wt l ≤ l.length := cnt_le _ _

/-- No more than some, each a bit. -/
def few (l : List Nat) (most : Nat) : List Nat := (l.take most).map (· % 2)
theorem few_bit (l : List Nat) (most : Nat) : ∀ x ∈ few l most, x ≤ 1 := by
  intro x hx
  obtain ⟨y, _, rfl⟩ := List.mem_map.1 hx
  omega
theorem few_length (l : List Nat) (most : Nat) : (few l most).length = min most l.length := by simp [few]
theorem few_take (l : List Nat) (k : Nat) (h : k < l.length) : few l (k + 1) = few l k ++ [l.getD k 0 % 2] := by
  unfold few
  rw [List.take_succ_eq_append_getElem h, List.map_append, getD_lt _ _ _ h]
  rfl
theorem few_zero (l : List Nat) : few l 0 = [] := by simp [few]

theorem ap_tri (a b c : List Nat) (h : a.length = b.length) : ap a c ≤ ap a b + ap b c := by
  unfold ap
  rw [← h]
  apply cnt_tri
  intro i _ hr
  simp only [bne_iff_ne] at *
  by_cases e : a.getD i 0 = b.getD i 0
  · right; rw [← e]; exact hr
  · left; exact e

/-- The bytes, when the first k bits are in. -/
def part (l : List Nat) (k : Nat) : List Nat := (List.range ((l.length + 7) / 8)).map fun j => hb (l.take k) (8 * j)
theorem part_length (l : List Nat) (k : Nat) : (part l k).length = (l.length + 7) / 8 := by simp [part]
theorem part_all (l : List Nat) : part l l.length = toBytes l := by simp [part, toBytes]
theorem part_getD (l : List Nat) (k j : Nat) (h : j < (l.length + 7) / 8) : (part l k).getD j 0 = hb (l.take k) (8 * j) := by
  rw [getD_lt _ _ _ (by rw [part_length]; exact h)]; simp [part]
theorem part_zero (l : List Nat) : part l 0 = List.replicate ((l.length + 7) / 8) 0 := by
  apply ext_getD
  · simp [part_length]
  · intro i hi
    rw [part_length] at hi
    rw [part_getD _ _ _ hi, getD_lt _ _ _ (by simpa using hi)]
    simp [hb]
theorem part_succ (l : List Nat) (k : Nat) (h : k < l.length) : part l (k + 1) = (part l k).set (k / 8) ((part l k).getD (k / 8) 0 + l.getD k 0 * 2 ^ (7 - k % 8)) := by
  apply ext_getD
  · simp [part_length]
  · intro i hi
    rw [part_length] at hi
    rw [part_getD _ _ _ hi, set_getD _ _ _ _ (by rw [part_length]; omega), hb_step, part_getD _ _ _ hi]
    by_cases e : k / 8 = i
    · subst e; rw [if_pos rfl, if_pos rfl, part_getD _ _ _ hi]
    · rw [if_neg e, if_neg e]
theorem part_bounds (l : List Nat) (hl : ∀ x ∈ l, x ≤ 1) (k : Nat) : ∀ x ∈ part l k, x < 256 := by
  intro x hx
  obtain ⟨j, _, rfl⟩ := List.mem_map.1 hx
  exact hb_lt _ (fun y hy => hl y (List.mem_of_mem_take hy)) _
theorem part_or (l : List Nat) (hl : ∀ x ∈ l, x ≤ 1) (k : Nat) (h : k < l.length) : (part l k).getD (k / 8) 0 % 2 ^ (8 - k % 8) = 0 ∧ l.getD k 0 * 2 ^ (7 - k % 8) < 2 ^ (8 - k % 8) := by
  rw [part_getD _ _ _ (by omega)]
  refine ⟨hb_room l k, ?_⟩
  have hx := bit_le l hl k
  rw [show 8 - k % 8 = 7 - k % 8 + 1 by omega, Nat.pow_succ, Nat.mul_comm _ 2]
  have := Nat.two_pow_pos (7 - k % 8)
  have h2 : l.getD k 0 * 2 ^ (7 - k % 8) ≤ 1 * 2 ^ (7 - k % 8) := Nat.mul_le_mul_right _ hx
  omega

end Go.Proofs.Ytoiibjblaafgpab.Bm
