/-
  Texts joined: Bm, Bn, Poly, Cm, Km, Vm, Vn, Dm, Dn, Dv, Cn, Co, Cp.
-/

namespace Go.Proofs.YtknfpdlomgllhaaDoor.Bm

theorem getD_lt {α : Type} (l : List α) (d : α) (i : Nat) (h : i < l.length) : l.getD i d = l[i] := by simp [List.getD, h]
theorem getD_ge {α : Type} (l : List α) (d : α) (i : Nat) (h : l.length ≤ i) : l.getD i d = d := by simp [List.getD, h]
theorem getD_left {α : Type} (l m : List α) (d : α) (i : Nat) (h : i < l.length) : (l ++ m).getD i d = l.getD i d := by simp [List.getD, List.getElem?_append_left h]
theorem getD_right {α : Type} (l m : List α) (d : α) (i : Nat) (h : l.length ≤ i) : (l ++ m).getD i d = m.getD (i - l.length) d := by simp [List.getD, List.getElem?_append_right h]

/-- The bits of one byte, the highest first. -/
def bits8 (b : Nat) : List Nat := [b / 128 % 2, b / 64 % 2, b / 32 % 2, b / 16 % 2, b / 8 % 2, b / 4 % 2, b / 2 % 2, b % 2]
/-- The bits of bytes. -/
def ofBytes (bs : List Nat) : List Nat := bs.flatMap bits8

theorem ofBytes_length (bs : List Nat) : (ofBytes bs).length = 8 * bs.length := by
  induction bs with
  | nil => rfl
  | cons b bs ih => simp only [ofBytes, List.flatMap_cons, List.length_append, List.length_cons] at *; rw [ih]; simp [bits8]; omega
theorem ofBytes_snoc (bs : List Nat) (b : Nat) : ofBytes (bs ++ [b]) = ofBytes bs ++ bits8 b := by simp [ofBytes]
theorem ofBytes_take (bs : List Nat) (k : Nat) (h : k < bs.length) : ofBytes (bs.take (k + 1)) = ofBytes (bs.take k) ++ bits8 (bs.getD k 0) := by
  rw [List.take_succ_eq_append_getElem h, ofBytes_snoc]
  simp [List.getD, h]
theorem bits8_bit (b k : Nat) (h : k < 8) : (bits8 b).getD k 0 = b / 2 ^ (7 - k) % 2 := by
  match k, h with
  | 0, _ | 1, _ | 2, _ | 3, _ | 4, _ | 5, _ | 6, _ => rfl
  | 7, _ => simp [bits8]
theorem bits8_all (b : Nat) : (bits8 b).take 8 = bits8 b := rfl
theorem bits8_take (b k : Nat) (h : k < 8) : (bits8 b).take (k + 1) = (bits8 b).take k ++ [b / 2 ^ (7 - k) % 2] := by
  rw [List.take_succ_eq_append_getElem (by simpa [bits8] using h), ← bits8_bit b k h]
  simp [List.getD, bits8, h]

theorem bit_le (l : List Nat) (hl : ∀ x ∈ l, x ≤ 1) (i : Nat) : l.getD i 0 ≤ 1 := by
  by_cases h : i < l.length
  · rw [getD_lt _ _ _ h]; exact hl _ (List.getElem_mem h)
  · rw [getD_ge _ _ _ (by omega)]; omega

/-- The byte of the eight bits from i on (noughts behind the end). -/
def hb (l : List Nat) (i : Nat) : Nat :=
  128 * l.getD i 0 + 64 * l.getD (i + 1) 0 + 32 * l.getD (i + 2) 0 + 16 * l.getD (i + 3) 0 + 8 * l.getD (i + 4) 0 + 4 * l.getD (i + 5) 0 + 2 * l.getD (i + 6) 0 + l.getD (i + 7) 0
/-- The bytes of bits. -/
def toBytes (l : List Nat) : List Nat := (List.range ((l.length + 7) / 8)).map fun j => hb l (8 * j)

theorem toBytes_length (l : List Nat) : (toBytes l).length = (l.length + 7) / 8 := by simp [toBytes]
theorem hb_lt (l : List Nat) (hl : ∀ x ∈ l, x ≤ 1) (i : Nat) : hb l i < 256 := by
  unfold hb
  have h0 := bit_le l hl i
  have h1 := bit_le l hl (i + 1)
  have h2 := bit_le l hl (i + 2)
  have h3 := bit_le l hl (i + 3)
  have h4 := bit_le l hl (i + 4)
  have h5 := bit_le l hl (i + 5)
  have h6 := bit_le l hl (i + 6)
  have h7 := bit_le l hl (i + 7)
  omega

theorem ofBytes_getD (bs : List Nat) : ∀ j k : Nat, k < 8 → (ofBytes bs).getD (8 * j + k) 0 = bs.getD j 0 / 2 ^ (7 - k) % 2 := by
  induction bs with
  | nil => intro j k _; simp [ofBytes]
  | cons b bs ih =>
    intro j k hk
    have e : ofBytes (b :: bs) = bits8 b ++ ofBytes bs := rfl
    have hl : (bits8 b).length = 8 := rfl
    rw [e]
    cases j with
    | zero =>
      rw [getD_left _ _ _ _ (by omega), Nat.mul_zero, Nat.zero_add, bits8_bit b k hk]
      simp
    | succ j =>
      rw [getD_right _ _ _ _ (by omega), hl, show 8 * (j + 1) + k - 8 = 8 * j + k by omega, ih j k hk]
      simp

theorem byte_lt (bs : List Nat) (hb : ∀ x ∈ bs, x < 256) (i : Nat) : bs.getD i 0 < 256 := by
  by_cases h : i < bs.length
  · rw [getD_lt _ _ _ h]; exact hb _ (List.getElem_mem h)
  · rw [getD_ge _ _ _ (by omega)]; omega

theorem byte_join : ∀ b : Fin 256, 128 * (b.val / 2 ^ (7 - 0) % 2) + 64 * (b.val / 2 ^ (7 - 1) % 2) + 32 * (b.val / 2 ^ (7 - 2) % 2) + 16 * (b.val / 2 ^ (7 - 3) % 2) + 8 * (b.val / 2 ^ (7 - 4) % 2) + 4 * (b.val / 2 ^ (7 - 5) % 2) + 2 * (b.val / 2 ^ (7 - 6) % 2) + b.val / 2 ^ (7 - 7) % 2 = b.val := by decide +kernel

theorem hb_ofBytes (bs : List Nat) (h : ∀ x ∈ bs, x < 256) (j : Nat) : hb (ofBytes bs) (8 * j) = bs.getD j 0 := by
  have h0 := ofBytes_getD bs j 0 (by omega)
  have h1 := ofBytes_getD bs j 1 (by omega)
  have h2 := ofBytes_getD bs j 2 (by omega)
  have h3 := ofBytes_getD bs j 3 (by omega)
  have h4 := ofBytes_getD bs j 4 (by omega)
  have h5 := ofBytes_getD bs j 5 (by omega)
  have h6 := ofBytes_getD bs j 6 (by omega)
  have h7 := ofBytes_getD bs j 7 (by omega)
  have hlt := byte_lt bs h j
  unfold hb
  rw [Nat.add_zero] at h0
  rw [h0, h1, h2, h3, h4, h5, h6, h7]
  exact byte_join ⟨bs.getD j 0, hlt⟩

/-- Back. -/
theorem toBytes_ofBytes (bs : List Nat) (h : ∀ x ∈ bs, x < 256) : toBytes (ofBytes bs) = bs := by
  unfold toBytes
  rw [ofBytes_length, show (8 * bs.length + 7) / 8 = bs.length by omega]
  apply List.ext_getElem
  · simp
  · intro i h1 h2
    rw [List.getElem_map, List.getElem_range, hb_ofBytes bs h i, getD_lt _ _ _ h2]

theorem ofBytes_bit (bs : List Nat) : ∀ x ∈ ofBytes bs, x ≤ 1 := by
  intro x hx
  obtain ⟨b, _, hb⟩ := List.mem_flatMap.1 hx
  simp only [bits8, List.mem_cons, List.not_mem_nil, or_false] at hb
  omega

theorem take_getD (l : List Nat) (i m : Nat) : (l.take i).getD m 0 = if m < i then l.getD m 0 else 0 := by
  by_cases h : m < i
  · rw [if_pos h]; simp [List.getD, h]
  · rw [if_neg h]; simp [List.getD, List.getElem?_take, h]

/-- One bit more. -/
theorem hb_step (l : List Nat) (i j : Nat) : hb (l.take (i + 1)) (8 * j) = if i / 8 = j then hb (l.take i) (8 * j) + l.getD i 0 * 2 ^ (7 - i % 8) else hb (l.take i) (8 * j) := by
  by_cases h : i / 8 = j
  · rw [if_pos h]
    obtain ⟨r, hr, rfl⟩ : ∃ r, r < 8 ∧ i = 8 * j + r := ⟨i % 8, by omega, by omega⟩
    rw [show (8 * j + r) % 8 = r by omega]
    unfold hb
    simp only [take_getD]
    match r, hr with
    | 0, _ | 1, _ | 2, _ | 3, _ | 4, _ | 5, _ | 6, _ | 7, _ =>
      simp (disch := omega) only [if_pos, if_neg, Nat.add_zero, Nat.reduceSub, Nat.reducePow]
      omega
  · rw [if_neg h]
    unfold hb
    simp only [take_getD]
    have e : ∀ k, k < 8 → (if 8 * j + k < i + 1 then l.getD (8 * j + k) 0 else 0) = (if 8 * j + k < i then l.getD (8 * j + k) 0 else 0) := by
      intro k hk
      by_cases h1 : 8 * j + k < i
      · rw [if_pos h1, if_pos (by omega)]
      · rw [if_neg h1, if_neg (by omega)]
    have e0 := e 0 (by omega)
    rw [Nat.add_zero] at e0
    rw [e0, e 1 (by omega), e 2 (by omega), e 3 (by omega), e 4 (by omega), e 5 (by omega), e 6 (by omega), e 7 (by omega)]

/-- What is there has room for the next bit. -/
theorem hb_room (l : List Nat) (i : Nat) : hb (l.take i) (8 * (i / 8)) % 2 ^ (8 - i % 8) = 0 := by
  obtain ⟨j, r, hr, rfl⟩ : ∃ j r, r < 8 ∧ i = 8 * j + r := ⟨i / 8, i % 8, by omega, by omega⟩
  rw [show (8 * j + r) % 8 = r by omega, show (8 * j + r) / 8 = j by omega]
  unfold hb
  simp only [take_getD]
  match r, hr with
  | 0, _ | 1, _ | 2, _ | 3, _ | 4, _ | 5, _ | 6, _ | 7, _ =>
    simp (disch := omega) only [if_pos, if_neg, Nat.add_zero, Nat.reduceSub, Nat.reducePow]
    try omega

end Go.Proofs.YtknfpdlomgllhaaDoor.Bm

namespace Go.Proofs.YtknfpdlomgllhaaDoor.Bm
set_option linter.unusedVariables false

/-- How many of the first k numbers have it. -/
def cnt (p : Nat → Bool) : Nat → Nat
  | 0 => 0
  | k + 1 => cnt p k + if p k then 1 else 0
theorem cnt_le (p : Nat → Bool) : ∀ k, cnt p k ≤ k
  | 0 => Nat.le_refl _
  | k + 1 => by have := cnt_le p k; unfold cnt; split <;> omega
theorem cnt_congr {p q : Nat → Bool} : ∀ k, (∀ i, i < k → p i = q i) → cnt p k = cnt q k
  | 0, _ => rfl
  | k + 1, h => by unfold cnt; rw [cnt_congr k (fun i hi => h i (by omega)), h k (by omega)]
theorem cnt_all {p : Nat → Bool} : ∀ k, (∀ i, i < k → p i = true) → cnt p k = k
  | 0, _ => rfl
  | k + 1, h => by unfold cnt; rw [cnt_all k (fun i hi => h i (by omega)), h k (by omega)]; rfl
theorem cnt_not {p q : Nat → Bool} : ∀ k, (∀ i, i < k → p i = !q i) → cnt p k + cnt q k = k
  | 0, _ => rfl
  | k + 1, h => by
    have := cnt_not k (fun i hi => h i (by omega))
    unfold cnt
    rw [h k (by omega)]
    cases q k <;> simp <;> omega
theorem cnt_tri {p q r : Nat → Bool} : ∀ k, (∀ i, i < k → r i = true → p i = true ∨ q i = true) → cnt r k ≤ cnt p k + cnt q k
  | 0, _ => Nat.zero_le _
  | k + 1, h => by
    have := cnt_tri k (fun i hi => h i (by omega))
    have := h k (by omega)
    unfold cnt
    cases hr : r k <;> cases hp : p k <;> cases hq : q k <;> simp_all <;> omega

/-- How many aren't 0. -/
def wt (l : List Nat) : Nat := cnt (fun i => l.getD i 0 != 0) l.length
/-- At how many places of the first list are they unlike? -/
def ap (a b : List Nat) : Nat := cnt (fun i => a.getD i 0 != b.getD i 0) a.length
/-- Are they bits? -/
def isB (l : List Nat) : Bool := l.all fun x => decide (x ≤ 1)

theorem isB_true {l : List Nat} (h : isB l = true) : ∀ x ∈ l, x ≤ 1 := by
  intro x hx
  simpa using List.all_eq_true.1 h x hx
theorem isB_of {l : List Nat} (h : ∀ x ∈ l, x ≤ 1) : isB l = true := List.all_eq_true.2 fun x hx => by simpa using h x hx
theorem isB_of_getD {l : List Nat} (h : ∀ i, i < l.length → l.getD i 0 ≤ 1) : isB l = true := by
  refine isB_of fun x hx => ?_
  obtain ⟨i, hi, rfl⟩ := List.getElem_of_mem hx
  have := h i hi
  rw [getD_lt _ _ _ hi] at this
  exact this
theorem isB_false {l : List Nat} (i : Nat) (hi : i < l.length) (h : 1 < l.getD i 0) : isB l = false := by
  cases hb : isB l with
  | false => rfl
  | true =>
    have := bit_le l (isB_true hb) i
    omega

/-- One number, turned as often as its place is named. -/
def tgl (c : Nat) (at_ : List Int) (j : Nat) : Nat := at_.foldl (fun c a => if a = (j : Int) then c ^^^ 1 else c) c
/-- The list, turned at some places. -/
def trn (l : List Nat) (at_ : List Int) : List Nat := (List.range l.length).map fun j => tgl (l.getD j 0) at_ j

theorem trn_length (l : List Nat) (at_ : List Int) : (trn l at_).length = l.length := by simp [trn]
theorem trn_getD (l : List Nat) (at_ : List Int) (j : Nat) (h : j < l.length) : (trn l at_).getD j 0 = tgl (l.getD j 0) at_ j := by
  rw [getD_lt _ _ _ (by rw [trn_length]; exact h)]; simp [trn]
theorem tgl_snoc (c : Nat) (at_ : List Int) (a : Int) (j : Nat) : tgl c (at_ ++ [a]) j = if a = (j : Int) then tgl c at_ j ^^^ 1 else tgl c at_ j := by
  simp [tgl, List.foldl_append]
theorem tgl_take (c : Nat) (at_ : List Int) (k : Nat) (h : k < at_.length) (j : Nat) : tgl c (at_.take (k + 1)) j = if at_.getD k 0 = (j : Int) then tgl c (at_.take k) j ^^^ 1 else tgl c (at_.take k) j := by
  rw [List.take_succ_eq_append_getElem h, tgl_snoc, getD_lt _ _ _ h]
theorem ext_getD {l m : List Nat} (hl : l.length = m.length) (h : ∀ i, i < l.length → l.getD i 0 = m.getD i 0) : l = m := by
  apply List.ext_getElem hl
  intro i h1 h2
  have := h i h1
  rw [getD_lt _ _ _ h1, getD_lt _ _ _ h2] at this
  exact this
theorem set_getD (l : List Nat) (i : Nat) (x : Nat) (j : Nat) (h : i < l.length) : (l.set i x).getD j 0 = if i = j then x else l.getD j 0 := by
  simp only [List.getD, List.getElem?_set]
  by_cases hij : i = j
  · subst hij; simp [h]
  · simp [hij]
theorem trn_nil (l : List Nat) : trn l [] = l := by
  apply ext_getD (trn_length l [])
  intro i h
  rw [trn_length] at h
  rw [trn_getD l [] i h]; rfl
/-- One place more. -/
theorem trn_in (l : List Nat) (at_ : List Int) (k : Nat) (hk : k < at_.length) (p : Nat) (hp : p < l.length) (ha : at_.getD k 0 = (p : Int)) :
    trn l (at_.take (k + 1)) = (trn l (at_.take k)).set p ((trn l (at_.take k)).getD p 0 ^^^ 1) := by
  apply ext_getD
  · simp [trn_length]
  · intro i hi
    rw [trn_length] at hi
    rw [trn_getD _ _ _ hi, tgl_take _ _ _ hk, set_getD _ _ _ _ (by rw [trn_length]; exact hp), trn_getD _ _ _ hp, trn_getD _ _ _ hi, ha]
    by_cases h : p = i
    · subst h; simp
    · rw [if_neg h, if_neg (by omega)]
theorem trn_out (l : List Nat) (at_ : List Int) (k : Nat) (hk : k < at_.length) (ha : at_.getD k 0 < 0 ∨ (l.length : Int) ≤ at_.getD k 0) : trn l (at_.take (k + 1)) = trn l (at_.take k) := by
  apply ext_getD
  · simp [trn_length]
  · intro i hi
    rw [trn_length] at hi
    rw [trn_getD _ _ _ hi, tgl_take _ _ _ hk, trn_getD _ _ _ hi, if_neg (by omega)]

theorem tgl_xor (at_ : List Int) (j : Nat) : ∀ c : Nat, tgl c at_ j = c ^^^ tgl 0 at_ j := by
  induction at_ with
  | nil => intro c; simp [tgl]
  | cons a at_ ih =>
    intro c
    have e : ∀ c, tgl c (a :: at_) j = tgl (if a = (j : Int) then c ^^^ 1 else c) at_ j := fun c => rfl
    rw [e, e, ih, ih (if a = (j : Int) then 0 ^^^ 1 else 0)]
    split
    · rw [Nat.zero_xor, Nat.xor_assoc]
    · rw [Nat.zero_xor]
theorem tgl_twice (c : Nat) (at_ : List Int) (j : Nat) : tgl (tgl c at_ j) at_ j = c := by
  rw [tgl_xor, tgl_xor at_ j c, Nat.xor_assoc, Nat.xor_self, Nat.xor_zero]
/-- What is turned twice is as it was. -/
theorem trn_twice (l : List Nat) (at_ : List Int) : trn (trn l at_) at_ = l := by
  apply ext_getD
  · simp [trn_length]
  · intro i hi
    rw [trn_length, trn_length] at hi
    rw [trn_getD _ _ _ (by rw [trn_length]; exact hi), trn_getD _ _ _ hi, tgl_twice]

theorem xor_one_lt (c n : Nat) (h : c < 2 ^ n) (hn : 0 < n) : c ^^^ 1 < 2 ^ n := Nat.xor_lt_two_pow h (Nat.one_lt_two_pow (by omega))
theorem tgl_lt (n : Nat) (hn : 0 < n) (at_ : List Int) (j : Nat) : ∀ c : Nat, c < 2 ^ n → tgl c at_ j < 2 ^ n := by
  induction at_ with
  | nil => intro c h; exact h
  | cons a at_ ih =>
    intro c h
    show tgl (if a = (j : Int) then c ^^^ 1 else c) at_ j < 2 ^ n
    split
    · exact ih _ (xor_one_lt c n h hn)
    · exact ih _ h
theorem trn_lt (n : Nat) (hn : 0 < n) (l : List Nat) (at_ : List Int) (h : ∀ x ∈ l, x < 2 ^ n) : ∀ x ∈ trn l at_, x < 2 ^ n := by
  intro x hx
  obtain ⟨j, hj, rfl⟩ := List.mem_map.1 hx
  have hj' : j < l.length := by simpa using hj
  refine tgl_lt n hn at_ j _ ?_
  rw [getD_lt _ _ _ hj']
  exact h _ (List.getElem_mem hj')

/-- All places. -/
def allTo (k : Nat) : List Int := (List.range k).map fun (i : Nat) => (i : Int)
theorem allTo_succ (k : Nat) : allTo (k + 1) = allTo k ++ [(k : Int)] := by simp [allTo, List.range_succ]
theorem allTo_length (k : Nat) : (allTo k).length = k := by simp [allTo]
theorem tgl_allTo (c j : Nat) : ∀ k, tgl c (allTo k) j = if j < k then c ^^^ 1 else c
  | 0 => rfl
  | k + 1 => by
    rw [allTo_succ, tgl_snoc, tgl_allTo c j k]
    by_cases h : k = j
    · subst h; simp
    · rw [if_neg (show ¬ (k : Int) = (j : Int) by omega)]
      by_cases h2 : j < k
      · rw [if_pos h2, if_pos (by omega)]
      · rw [if_neg h2, if_neg (by omega)]

theorem xor_one_ne (c : Nat) : c ≠ c ^^^ 1 := by
  intro h
  have h2 : (c ^^^ 1) % 2 = 1 ↔ ¬ (c % 2 = 1 ↔ 1 % 2 = 1) := Nat.xor_mod_two_eq_one
  rw [← h] at h2
  omega
theorem ap_all (l : List Nat) : ap l (trn l (allTo l.length)) = l.length := by
  unfold ap
  apply cnt_all
  intro i hi
  rw [trn_getD _ _ _ hi, tgl_allTo, if_pos hi]
  simp [xor_one_ne]
theorem wt_all (l : List Nat) (h : ∀ x ∈ l, x ≤ 1) : wt (trn l (allTo l.length)) + wt l = l.length := by
  unfold wt
  rw [trn_length]
  apply cnt_not
  intro i hi
  rw [trn_getD _ _ _ hi, tgl_allTo, if_pos hi]
  have hb := bit_le l h i
  have : l.getD i 0 = 0 ∨ l.getD i 0 = 1 := by omega
  rcases this with e | e <;> rw [e] <;> decide

theorem wt_le (l : List Nat) : wt l ≤ l.length := cnt_le _ _

/-- No more than some, each a bit. -/
def few (l : List Nat) (most : Nat) : List Nat := (l.take most).map (· % 2)
theorem few_bit (l : List Nat) (most : Nat) : ∀ x ∈ few l most, x ≤ 1 := by
  intro x hx
  obtain ⟨y, _, rfl⟩ := List.mem_map.1 hx
  omega
theorem few_length (l : List Nat) (most : Nat) : (few l most).length = min most l.length := by simp [few]
theorem few_take (l : List Nat) (k : Nat) (h : k < l.length) : few l (k + 1) = few l k ++ [l.getD k 0 % 2] := by
  unfold few
  rw [List.take_succ_eq_append_getElem h, List.map_append, getD_lt _ _ _ h]
  rfl
theorem few_zero (l : List Nat) : few l 0 = [] := by simp [few]

theorem ap_tri (a b c : List Nat) (h : a.length = b.length) : ap a c ≤ ap a b + ap b c := by
  unfold ap
  rw [← h]
  apply cnt_tri
  intro i _ hr
  simp only [bne_iff_ne] at *
  by_cases e : a.getD i 0 = b.getD i 0
  · right; rw [← e]; exact hr
  · left; exact e

/-- The bytes, when the first k bits are in. -/
def part (l : List Nat) (k : Nat) : List Nat := (List.range ((l.length + 7) / 8)).map fun j => hb (l.take k) (8 * j)
theorem part_length (l : List Nat) (k : Nat) : (part l k).length = (l.length + 7) / 8 := by simp [part]
theorem part_all (l : List Nat) : part l l.length = toBytes l := by simp [part, toBytes]
theorem part_getD (l : List Nat) (k j : Nat) (h : j < (l.length + 7) / 8) : (part l k).getD j 0 = hb (l.take k) (8 * j) := by
  rw [getD_lt _ _ _ (by rw [part_length]; exact h)]; simp [part]
theorem part_zero (l : List Nat) : part l 0 = List.replicate ((l.length + 7) / 8) 0 := by
  apply ext_getD
  · simp [part_length]
  · intro i hi
    rw [part_length] at hi
    rw [part_getD _ _ _ hi, getD_lt _ _ _ (by simpa using hi)]
    simp [hb]
theorem part_succ (l : List Nat) (k : Nat) (h : k < l.length) : part l (k + 1) = (part l k).set (k / 8) ((part l k).getD (k / 8) 0 + l.getD k 0 * 2 ^ (7 - k % 8)) := by
  apply ext_getD
  · simp [part_length]
  · intro i hi
    rw [part_length] at hi
    rw [part_getD _ _ _ hi, set_getD _ _ _ _ (by rw [part_length]; omega), hb_step, part_getD _ _ _ hi]
    by_cases e : k / 8 = i
    · subst e; rw [if_pos rfl, if_pos rfl, part_getD _ _ _ hi]
    · rw [if_neg e, if_neg e]
theorem part_bounds (l : List Nat) (hl : ∀ x ∈ l, x ≤ 1) (k : Nat) : ∀ x ∈ part l k, x < 256 := by
  intro x hx
  obtain ⟨j, _, rfl⟩ := List.mem_map.1 hx
  exact hb_lt _ (fun y hy => hl y (List.mem_of_mem_take hy)) _
theorem part_or (l : List Nat) (hl : ∀ x ∈ l, x ≤ 1) (k : Nat) (h : k < l.length) : (part l k).getD (k / 8) 0 % 2 ^ (8 - k % 8) = 0 ∧ l.getD k 0 * 2 ^ (7 - k % 8) < 2 ^ (8 - k % 8) := by
  rw [part_getD _ _ _ (by omega)]
  refine ⟨hb_room l k, ?_⟩
  have hx := bit_le l hl k
  rw [show 8 - k % 8 = 7 - k % 8 + 1 by omega, Nat.pow_succ, Nat.mul_comm _ 2]
  have := Nat.two_pow_pos (7 - k % 8)
  have h2 : l.getD k 0 * 2 ^ (7 - k % 8) ≤ 1 * 2 ^ (7 - k % 8) := Nat.mul_le_mul_right _ hx
  omega

end Go.Proofs.YtknfpdlomgllhaaDoor.Bm

namespace Go.Proofs.YtknfpdlomgllhaaDoor.Poly

theorem two_mul_xor (x y : Nat) : 2 * (x ^^^ y) = 2 * x ^^^ 2 * y := by
  have h := Nat.shiftLeft_xor_distrib (a := x) (b := y) (i := 1)
  simp only [Nat.shiftLeft_eq, Nat.pow_one] at h
  rw [Nat.mul_comm 2 x, Nat.mul_comm 2 y, Nat.mul_comm 2]; exact h

theorem xor_div (x y : Nat) : (x ^^^ y) / 2 = x / 2 ^^^ y / 2 := Nat.xor_div_two

theorem split2 (b : Nat) : b = (if b % 2 = 1 then 1 else 0) ^^^ 2 * (b / 2) := by
  apply Nat.eq_of_testBit_eq
  intro i
  rw [Nat.testBit_xor]
  cases i with
  | zero => 
    have h2 : (2 * (b / 2)).testBit 0 = false := by simp [Nat.testBit_zero]
    rw [h2]; split <;> rename_i h <;> simp [Nat.testBit_zero, h]
  | succ i =>
    rw [show 2 * (b / 2) = 2 ^ 1 * (b / 2) by omega]
    rw [Nat.testBit_succ, Nat.testBit_two_pow_mul]
    have : (if b % 2 = 1 then 1 else 0 : Nat).testBit (i + 1) = false := by split <;> simp [Nat.testBit_succ]
    rw [this]; simp

/-- The product. -/
def pm (a b : Nat) : Nat := if h : b = 0 then 0 else (if b % 2 = 1 then a else 0) ^^^ (2 * pm a (b / 2))
  termination_by b
  decreasing_by omega

theorem pm_zero (a : Nat) : pm a 0 = 0 := by unfold pm; simp
theorem pm_eq (a b : Nat) : pm a b = (if b % 2 = 1 then a else 0) ^^^ (2 * pm a (b / 2)) := by
  by_cases h : b = 0
  · subst h; simp [pm_zero]
  · conv => lhs; unfold pm
    simp [h]

theorem zero_pm (b : Nat) : pm 0 b = 0 := by
  induction b using Nat.strongRecOn with
  | ind b ih =>
    by_cases h : b = 0
    · subst h; exact pm_zero 0
    · rw [pm_eq, ih (b / 2) (by omega)]; simp

theorem xor4 (a b c d : Nat) : (a ^^^ b) ^^^ (c ^^^ d) = (a ^^^ c) ^^^ (b ^^^ d) := by
  rw [Nat.xor_assoc, Nat.xor_assoc, ← Nat.xor_assoc b c d, ← Nat.xor_assoc c b d, Nat.xor_comm b c]

theorem pm_xor_left (x y b : Nat) : pm (x ^^^ y) b = pm x b ^^^ pm y b := by
  induction b using Nat.strongRecOn with
  | ind b ih =>
    by_cases h : b = 0
    · subst h; simp [pm_zero]
    · rw [pm_eq, pm_eq x, pm_eq y, ih (b / 2) (by omega), two_mul_xor]
      rw [xor4]
      split <;> simp

theorem pm_xor_right (a : Nat) : ∀ n x y : Nat, x ≤ n → y ≤ n → pm a (x ^^^ y) = pm a x ^^^ pm a y := by
  intro n
  induction n using Nat.strongRecOn with
  | ind n ih =>
    intro x y hx hy
    by_cases h0 : n = 0
    · have : x = 0 := by omega
      have : y = 0 := by omega
      subst x y; simp [pm_zero]
    · rw [pm_eq, pm_eq a x, pm_eq a y, xor_div, ih (n / 2) (by omega) (x / 2) (y / 2) (by omega) (by omega), two_mul_xor, xor4]
      congr 1
      have hm : (x ^^^ y) % 2 = 1 ↔ ¬ (x % 2 = 1 ↔ y % 2 = 1) := Nat.xor_mod_two_eq_one
      by_cases h1 : x % 2 = 1 <;> by_cases h2 : y % 2 = 1 <;> simp [h1, h2, hm]

theorem pm_xor (a x y : Nat) : pm a (x ^^^ y) = pm a x ^^^ pm a y := pm_xor_right a (max x y) x y (Nat.le_max_left _ _) (Nat.le_max_right _ _)

theorem pm_two_left (a b : Nat) : pm (2 * a) b = 2 * pm a b := by
  induction b using Nat.strongRecOn with
  | ind b ih =>
    by_cases h : b = 0
    · subst h; simp [pm_zero]
    · rw [pm_eq, pm_eq a b, ih (b / 2) (by omega), two_mul_xor]
      congr 1
      split <;> simp

theorem pm_two_right (a b : Nat) : pm a (2 * b) = 2 * pm a b := by
  rw [pm_eq]; simp

theorem one_pm (b : Nat) : pm 1 b = b := by
  induction b using Nat.strongRecOn with
  | ind b ih =>
    by_cases h : b = 0
    · subst h; exact pm_zero 1
    · rw [pm_eq, ih (b / 2) (by omega)]; exact (split2 b).symm

theorem pm_one (a : Nat) : pm a 1 = a := by
  rw [pm_eq]; simp [pm_zero]

theorem pm_comm (a b : Nat) : pm a b = pm b a := by
  induction b using Nat.strongRecOn with
  | ind b ih =>
    by_cases h : b = 0
    · subst h; rw [pm_zero, zero_pm]
    · rw [pm_eq, ih (b / 2) (by omega)]
      conv => rhs; rw [split2 b, pm_xor_left, pm_two_left]
      congr 1
      split
      · rw [one_pm]
      · rw [zero_pm]

theorem pm_assoc (a b c : Nat) : pm (pm a b) c = pm a (pm b c) := by
  induction c using Nat.strongRecOn with
  | ind c ih =>
    by_cases h : c = 0
    · subst h; simp [pm_zero]
    · rw [pm_eq (pm a b) c, ih (c / 2) (by omega), pm_eq b c, pm_xor, pm_two_right]
      congr 1
      split
      · rfl
      · rw [pm_zero]

theorem pm_pow_left (b : Nat) : ∀ d : Nat, pm (2 ^ d) b = b * 2 ^ d
  | 0 => by rw [Nat.pow_zero, one_pm, Nat.mul_one]
  | d + 1 => by
    rw [Nat.pow_succ, Nat.mul_comm (2 ^ d) 2, pm_two_left, pm_pow_left b d, ← Nat.mul_assoc, Nat.mul_comm 2 b, Nat.mul_assoc]

theorem xor_self_cancel (x y : Nat) : (x ^^^ y) ^^^ y = x := by rw [Nat.xor_assoc, Nat.xor_self, Nat.xor_zero]
theorem xor_eq_zero (x y : Nat) (h : x ^^^ y = 0) : x = y := by
  have := xor_self_cancel x y; rw [h] at this; simpa using this.symm

/-- With something lower, the highest power stays. -/
theorem xor_top (n x y : Nat) (hy : y < 2 ^ n) (h1 : 2 ^ n ≤ x) (h2 : x < 2 ^ (n + 1)) : 2 ^ n ≤ x ^^^ y ∧ x ^^^ y < 2 ^ (n + 1) := by
  refine ⟨?_, Nat.xor_lt_two_pow h2 (Nat.lt_of_lt_of_le hy (Nat.pow_le_pow_right (by decide) (by omega)))⟩
  apply Nat.le_of_not_lt
  intro h
  have := Nat.xor_lt_two_pow h hy
  rw [xor_self_cancel] at this
  omega

theorem pm_top (a k : Nat) (h1 : 2 ^ k ≤ a) (h2 : a < 2 ^ (k + 1)) : ∀ l b : Nat, 2 ^ l ≤ b → b < 2 ^ (l + 1) → 2 ^ (k + l) ≤ pm a b ∧ pm a b < 2 ^ (k + l + 1)
  | 0, b, hb1, hb2 => by
    have : b = 1 := by simp at hb1 hb2; omega
    subst this; rw [pm_one]; exact ⟨h1, h2⟩
  | l + 1, b, hb1, hb2 => by
    have ih := pm_top a k h1 h2 l (b / 2) (by rw [Nat.pow_succ] at hb1; omega) (by rw [Nat.pow_succ] at hb2; omega)
    rw [pm_eq, Nat.xor_comm]
    refine xor_top (k + (l + 1)) _ _ ?_ ?_ ?_
    · have : 2 ^ (k + 1) ≤ 2 ^ (k + (l + 1)) := Nat.pow_le_pow_right (by decide) (by omega)
      have : 0 < 2 ^ (k + (l + 1)) := Nat.two_pow_pos _
      split <;> omega
    · rw [← Nat.add_assoc, Nat.pow_succ]; omega
    · rw [← Nat.add_assoc, Nat.pow_succ]; omega

/-- How many bits: of 0 none. -/
def bl (x : Nat) : Nat := if x = 0 then 0 else Nat.log2 x + 1

theorem bl_zero : bl 0 = 0 := rfl
theorem bl_le (x n : Nat) : bl x ≤ n ↔ x < 2 ^ n := by
  unfold bl
  split
  · rename_i h; subst h; simp [Nat.two_pow_pos]
  · rename_i h
    rw [← Nat.log2_lt h]; omega
theorem bl_lt (x n : Nat) : n < bl x ↔ 2 ^ n ≤ x := by
  have := bl_le x n; omega
theorem bl_bounds (x : Nat) (h : x ≠ 0) : 2 ^ (bl x - 1) ≤ x ∧ x < 2 ^ (bl x - 1 + 1) := by
  have h1 : 0 < bl x := by unfold bl; simp [h]
  refine ⟨(bl_lt x (bl x - 1)).1 (by omega), (bl_le x _).1 (by omega)⟩
theorem bl_of (x n : Nat) (h1 : 2 ^ n ≤ x) (h2 : x < 2 ^ (n + 1)) : bl x = n + 1 := by
  have := (bl_le x (n + 1)).2 h2
  have := (bl_lt x n).2 h1
  omega
theorem bl_pos (x : Nat) : 0 < bl x ↔ x ≠ 0 := by
  rw [bl_lt]; simp; omega
theorem bl_eq_zero (x : Nat) : bl x = 0 ↔ x = 0 := by have := bl_pos x; omega

theorem bl_pm (a b : Nat) (ha : a ≠ 0) (hb : b ≠ 0) : bl (pm a b) + 1 = bl a + bl b := by
  have h1 := bl_bounds a ha
  have h2 := bl_bounds b hb
  have p1 := (bl_pos a).2 ha
  have p2 := (bl_pos b).2 hb
  have h3 := pm_top a (bl a - 1) h1.1 h1.2 (bl b - 1) b h2.1 h2.2
  have := bl_of _ _ h3.1 h3.2
  omega
theorem pm_ne (a b : Nat) (ha : a ≠ 0) (hb : b ≠ 0) : pm a b ≠ 0 := by
  have h := bl_pm a b ha hb
  have p1 := (bl_pos a).2 ha
  have p2 := (bl_pos b).2 hb
  rw [← bl_pos]; omega
theorem pm_eq_zero (a b : Nat) (h : pm a b = 0) : a = 0 ∨ b = 0 := by
  by_cases ha : a = 0
  · exact .inl ha
  · by_cases hb : b = 0
    · exact .inr hb
    · exact absurd h (pm_ne a b ha hb)

theorem bl_xor_lt (x y n : Nat) (hx : bl x ≤ n) (hy : bl y ≤ n) : bl (x ^^^ y) ≤ n := by
  rw [bl_le] at *; exact Nat.xor_lt_two_pow hx hy

/-- Two of the same degree: their sum has a lower one. -/
theorem bl_xor_top (x y : Nat) (hx : x ≠ 0) (h : bl x = bl y) : bl (x ^^^ y) < bl x := by
  have p := (bl_pos x).2 hx
  have hy : y ≠ 0 := by rw [← bl_pos]; omega
  have b1 := bl_bounds x hx
  have b2 := bl_bounds y hy
  rw [← h] at b2
  have : bl (x ^^^ y) ≤ bl x - 1 := by
    rw [bl_le]
    apply Nat.lt_of_not_le
    intro hc
    have hc2 : x ^^^ y < 2 ^ (bl x - 1 + 1) := Nat.xor_lt_two_pow b1.2 b2.2
    have e1 : x.testBit (bl x - 1) = true := by
      rw [Nat.testBit_eq_decide_div_mod_eq]
      have : x / 2 ^ (bl x - 1) = 1 := by
        rw [Nat.pow_succ] at b1
        exact Nat.div_eq_of_lt_le (by omega) (by omega)
      simp [this]
    have e2 : y.testBit (bl x - 1) = true := by
      rw [Nat.testBit_eq_decide_div_mod_eq]
      have : y / 2 ^ (bl x - 1) = 1 := by
        rw [Nat.pow_succ] at b2
        exact Nat.div_eq_of_lt_le (by omega) (by omega)
      simp [this]
    have e3 : (x ^^^ y).testBit (bl x - 1) = true := by
      rw [Nat.testBit_eq_decide_div_mod_eq]
      have : (x ^^^ y) / 2 ^ (bl x - 1) = 1 := by
        rw [Nat.pow_succ] at hc2
        exact Nat.div_eq_of_lt_le (by omega) (by omega)
      simp [this]
    rw [Nat.testBit_xor, e1, e2] at e3
    cases e3
  omega

theorem bl_shl (b d : Nat) (hb : b ≠ 0) : bl (b * 2 ^ d) = bl b + d := by
  have h := bl_bounds b hb
  have p := (bl_pos b).2 hb
  have := bl_of (b * 2 ^ d) (bl b - 1 + d) (by rw [Nat.pow_add]; exact Nat.mul_le_mul_right _ h.1) (by
    rw [show bl b - 1 + d + 1 = (bl b - 1 + 1) + d by omega, Nat.pow_add]
    exact Nat.mul_lt_mul_of_pos_right h.2 (Nat.two_pow_pos d))
  omega

/-- 'q' and 'r' are quotient and rest of a by b. -/
def Div (a b q r : Nat) : Prop := a = pm q b ^^^ r ∧ bl r < bl b

/-- Quotient and rest are told by that. -/
theorem Div.uniq {a b q r q' r' : Nat} (h : Div a b q r) (h' : Div a b q' r') : q = q' ∧ r = r' := by
  obtain ⟨h1, h2⟩ := h
  obtain ⟨h1', h2'⟩ := h'
  have e : pm q b ^^^ r = pm q' b ^^^ r' := h1.symm.trans h1'
  have e2 : pm (q ^^^ q') b = r ^^^ r' := by
    rw [pm_xor_left]
    apply xor_eq_zero
    rw [xor4, e, Nat.xor_self]
  have hq : q ^^^ q' = 0 := by
    apply Decidable.byContradiction
    intro hne
    have hb : b ≠ 0 := by rw [← bl_pos]; omega
    have h3 := bl_pm _ b hne hb
    have h4 := (bl_pos _).2 hne
    rw [e2] at h3
    have h5 := bl_xor_lt r r' (bl b - 1) (by omega) (by omega)
    have h6 := (bl_pos _).2 hb
    omega
  have hq' := xor_eq_zero _ _ hq
  refine ⟨hq', ?_⟩
  rw [hq, zero_pm] at e2
  exact xor_eq_zero _ _ e2.symm

theorem Div.times {a b q r : Nat} (h : Div a b q r) (c : Nat) (hc : c ≠ 0) : Div (pm a c) (pm b c) q (pm r c) := by
  obtain ⟨h1, h2⟩ := h
  have hb : b ≠ 0 := by rw [← bl_pos]; omega
  refine ⟨?_, ?_⟩
  · rw [h1, pm_xor_left, pm_assoc]
  · have e1 := bl_pm b c hb hc
    by_cases hr : r = 0
    · subst hr; rw [zero_pm, bl_zero]
      have := (bl_pos _).2 (pm_ne b c hb hc); omega
    · have e2 := bl_pm r c hr hc
      have := (bl_pos c).2 hc
      omega

/-- One step of a division. -/
theorem step_lt (a b : Nat) (hb : b ≠ 0) (h : bl b ≤ bl a) : bl (a ^^^ b * 2 ^ (bl a - bl b)) < bl a := by
  have p := (bl_pos b).2 hb
  have ha : a ≠ 0 := by rw [← bl_pos]; omega
  refine bl_xor_top a _ ha ?_
  rw [bl_shl b _ hb]; omega

theorem step_inv (a0 a b q d : Nat) (h : a0 = pm q b ^^^ a) : a0 = pm (q ^^^ 2 ^ d) b ^^^ (a ^^^ b * 2 ^ d) := by
  rw [pm_xor_left, pm_pow_left, xor4, Nat.xor_self, Nat.xor_zero]
  exact h

/-- The rest. -/
def rem (a b : Nat) : Nat := if h : b ≠ 0 ∧ bl b ≤ bl a then rem (a ^^^ b * 2 ^ (bl a - bl b)) b else a
  termination_by bl a
  decreasing_by exact step_lt a b h.1 h.2
/-- The quotient. -/
def quo (a b : Nat) : Nat := if h : b ≠ 0 ∧ bl b ≤ bl a then 2 ^ (bl a - bl b) ^^^ quo (a ^^^ b * 2 ^ (bl a - bl b)) b else 0
  termination_by bl a
  decreasing_by exact step_lt a b h.1 h.2

theorem div_of (b : Nat) (hb : b ≠ 0) : ∀ n a : Nat, bl a ≤ n → Div a b (quo a b) (rem a b) := by
  intro n
  induction n using Nat.strongRecOn with
  | ind n ih =>
    intro a hn
    by_cases h : bl b ≤ bl a
    · have hlt := step_lt a b hb h
      obtain ⟨i1, i2⟩ := ih (bl (a ^^^ b * 2 ^ (bl a - bl b))) (by omega) _ (Nat.le_refl _)
      unfold quo rem
      rw [dif_pos ⟨hb, h⟩, dif_pos ⟨hb, h⟩]
      refine ⟨?_, i2⟩
      rw [pm_xor_left, pm_pow_left, Nat.xor_assoc, ← i1, Nat.xor_comm, xor_self_cancel]
    · unfold quo rem
      rw [dif_neg (fun c => h c.2), dif_neg (fun c => h c.2)]
      exact ⟨by rw [zero_pm, Nat.zero_xor], by omega⟩

theorem div_rem (a b : Nat) (hb : b ≠ 0) : Div a b (quo a b) (rem a b) := div_of b hb (bl a) a (Nat.le_refl _)

/-- What divides both. -/
def gcd (a b : Nat) : Nat := if _h : b = 0 then a else gcd b (rem a b)
  termination_by bl b
  decreasing_by exact (div_rem a b ‹_›).2

theorem gcd_zero (a : Nat) : gcd a 0 = a := by unfold gcd; simp
theorem gcd_step (a b : Nat) (h : b ≠ 0) : gcd a b = gcd b (rem a b) := by
  conv => lhs; unfold gcd
  simp [h]

theorem rem_times (a b c : Nat) (hb : b ≠ 0) (hc : c ≠ 0) : rem (pm a c) (pm b c) = pm (rem a b) c :=
  ((div_rem (pm a c) (pm b c) (pm_ne b c hb hc)).uniq ((div_rem a b hb).times c hc)).2

theorem gcd_times (c : Nat) (hc : c ≠ 0) : ∀ n a b : Nat, bl b ≤ n → gcd (pm a c) (pm b c) = pm (gcd a b) c := by
  intro n
  induction n using Nat.strongRecOn with
  | ind n ih =>
    intro a b hn
    by_cases hb : b = 0
    · subst hb; rw [zero_pm, gcd_zero, gcd_zero]
    · rw [gcd_step _ _ (pm_ne b c hb hc), gcd_step a b hb, rem_times a b c hb hc]
      have := (div_rem a b hb).2
      exact ih (bl (rem a b)) (by omega) b (rem a b) (Nat.le_refl _)

theorem gcd_times_any (a b c : Nat) : gcd (pm a c) (pm b c) = pm (gcd a b) c := by
  by_cases hc : c = 0
  · subst hc; simp [pm_zero, gcd_zero]
  · exact gcd_times c hc (bl b) a b (Nat.le_refl _)

/-- It divides both. -/
theorem gcd_divides : ∀ n a b : Nat, bl b ≤ n → (∃ x, a = pm x (gcd a b)) ∧ (∃ y, b = pm y (gcd a b)) := by
  intro n
  induction n using Nat.strongRecOn with
  | ind n ih =>
    intro a b hn
    by_cases hb : b = 0
    · subst hb; rw [gcd_zero]; exact ⟨⟨1, (one_pm a).symm⟩, ⟨0, (zero_pm a).symm⟩⟩
    · have hd := div_rem a b hb
      obtain ⟨⟨x, hx⟩, ⟨y, hy⟩⟩ := ih (bl (rem a b)) (by have := hd.2; omega) b (rem a b) (Nat.le_refl _)
      rw [gcd_step a b hb]
      refine ⟨⟨pm (quo a b) x ^^^ y, ?_⟩, ⟨x, hx⟩⟩
      rw [pm_xor_left, pm_assoc, ← hx, ← hy]
      exact hd.1

theorem rem_zero_of (a g x : Nat) (hg : g ≠ 0) (h : a = pm x g) : rem a g = 0 := by
  refine ((div_rem a g hg).uniq (q' := x) (r' := 0) ⟨by rw [Nat.xor_zero]; exact h, ?_⟩).2
  rw [bl_zero]; exact (bl_pos g).2 hg

theorem gcd_eq_zero (a b : Nat) : gcd a b = 0 ↔ a = 0 ∧ b = 0 := by
  constructor
  · intro h
    obtain ⟨⟨x, hx⟩, ⟨y, hy⟩⟩ := gcd_divides (bl b) a b (Nat.le_refl _)
    rw [h, pm_zero] at hx hy
    exact ⟨hx, hy⟩
  · rintro ⟨rfl, rfl⟩; exact gcd_zero 0

/-- The bounds of what comes. -/
theorem gcd_bl (n : Nat) : ∀ m a b : Nat, bl b ≤ m → bl a ≤ n → bl b ≤ n → bl (gcd a b) ≤ n := by
  intro m
  induction m using Nat.strongRecOn with
  | ind m ih =>
    intro a b hm ha hb'
    by_cases hb : b = 0
    · subst hb; rw [gcd_zero]; exact ha
    · rw [gcd_step a b hb]
      have := (div_rem a b hb).2
      exact ih (bl (rem a b)) (by omega) b (rem a b) (Nat.le_refl _) hb' (by omega)

end Go.Proofs.YtknfpdlomgllhaaDoor.Poly

namespace Go.Proofs.YtknfpdlomgllhaaDoor.Crc
set_option linter.unusedVariables false

theorem xor_swap (a b c d : Nat) : (a ^^^ b) ^^^ (c ^^^ d) = (a ^^^ c) ^^^ (b ^^^ d) := Poly.xor4 a b c d

/-- f adds up by exclusive or. -/
def Lin (f : Nat → Nat) : Prop := ∀ a b, f (a ^^^ b) = f a ^^^ f b
/-- f so many times. -/
def it (f : Nat → Nat) : Nat → Nat → Nat
  | 0, a => a
  | n + 1, a => it f n (f a)
theorem it_add (f : Nat → Nat) : ∀ m n a, it f (m + n) a = it f n (it f m a)
  | 0, n, a => by rw [Nat.zero_add]; rfl
  | m + 1, n, a => by rw [Nat.add_right_comm]; exact it_add f m n (f a)
theorem it_succ (f : Nat → Nat) (n a : Nat) : it f (n + 1) a = f (it f n a) := it_add f n 1 a
theorem Lin.it {f : Nat → Nat} (h : Lin f) : ∀ n, Lin (it f n)
  | 0 => fun _ _ => rfl
  | n + 1 => fun a b => by
    show Crc.it f n (f (a ^^^ b)) = Crc.it f n (f a) ^^^ Crc.it f n (f b)
    rw [h a b]; exact Lin.it h n (f a) (f b)
theorem Lin.zero {f : Nat → Nat} (h : Lin f) : f 0 = 0 := by
  have := h 0 0
  rw [Nat.xor_self, Nat.xor_self] at this; exact this
theorem it_zero {f : Nat → Nat} (B : Nat) (h0 : ∀ a, a < B → f a = 0 → a = 0) (hB : ∀ a, a < B → f a < B) : ∀ n a, a < B → it f n a = 0 → a = 0
  | 0, a, _, h => h
  | n + 1, a, ha, h => h0 a ha (it_zero B h0 hB n (f a) (hB a ha) h)
theorem it_lt {f : Nat → Nat} (B : Nat) (hB : ∀ a, a < B → f a < B) : ∀ n a, a < B → it f n a < B
  | 0, a, h => h
  | n + 1, a, h => it_lt B hB n (f a) (hB a h)

/-- One step of sixteen bits. -/
def s16 (a : Nat) : Nat := if a / 32768 % 2 = 1 then (2 * a % 65536) ^^^ 4129 else 2 * a % 65536
/-- One step of thirty-two bits, turned round. -/
def s32 (a : Nat) : Nat := if a % 2 = 1 then (a / 2) ^^^ 3988292384 else a / 2

theorem bit_xor (i a b : Nat) : (a ^^^ b) / 2 ^ i % 2 = (a / 2 ^ i % 2 + b / 2 ^ i % 2) % 2 := by
  have h := Nat.testBit_xor a b i
  rw [Nat.testBit_eq_decide_div_mod_eq, Nat.testBit_eq_decide_div_mod_eq, Nat.testBit_eq_decide_div_mod_eq] at h
  have h1 : a / 2 ^ i % 2 < 2 := Nat.mod_lt _ (by omega)
  have h2 : b / 2 ^ i % 2 < 2 := Nat.mod_lt _ (by omega)
  have h3 : (a ^^^ b) / 2 ^ i % 2 < 2 := Nat.mod_lt _ (by omega)
  generalize a / 2 ^ i % 2 = x at *
  generalize b / 2 ^ i % 2 = y at *
  generalize (a ^^^ b) / 2 ^ i % 2 = z at *
  have hx : x = 0 ∨ x = 1 := by omega
  have hy : y = 0 ∨ y = 1 := by omega
  have hz : z = 0 ∨ z = 1 := by omega
  rcases hx with rfl | rfl <;> rcases hy with rfl | rfl <;> rcases hz with rfl | rfl <;> simp at h ⊢

theorem s16_lin : Lin s16 := by
  intro a b
  have hb := bit_xor 15 a b
  have e : (2 * (a ^^^ b)) % 65536 = (2 * a % 65536) ^^^ (2 * b % 65536) := by
    rw [Poly.two_mul_xor]; exact Nat.xor_mod_two_pow (n := 16)
  have h1 : a / 32768 % 2 < 2 := Nat.mod_lt _ (by omega)
  have h2 : b / 32768 % 2 < 2 := Nat.mod_lt _ (by omega)
  unfold s16
  simp only [show (2 : Nat) ^ 15 = 32768 from rfl] at hb
  rw [hb, e]
  generalize a / 32768 % 2 = x at *
  generalize b / 32768 % 2 = y at *
  have hx : x = 0 ∨ x = 1 := by omega
  have hy : y = 0 ∨ y = 1 := by omega
  rcases hx with rfl | rfl <;> rcases hy with rfl | rfl <;> simp only [Nat.zero_add, Nat.add_zero, reduceIte, Nat.reduceAdd, Nat.reduceMod, Nat.zero_ne_one]
  · rw [Nat.xor_assoc]
  · rw [Nat.xor_assoc, Nat.xor_assoc, Nat.xor_comm 4129]
  · rw [xor_swap, Nat.xor_self, Nat.xor_zero]
theorem s32_lin : Lin s32 := by
  intro a b
  have hb := bit_xor 0 a b
  have e : (a ^^^ b) / 2 = (a / 2) ^^^ (b / 2) := Nat.xor_div_two
  have h1 : a % 2 < 2 := Nat.mod_lt _ (by omega)
  have h2 : b % 2 < 2 := Nat.mod_lt _ (by omega)
  unfold s32
  simp only [Nat.pow_zero, Nat.div_one] at hb
  rw [hb, e]
  generalize a % 2 = x at *
  generalize b % 2 = y at *
  have hx : x = 0 ∨ x = 1 := by omega
  have hy : y = 0 ∨ y = 1 := by omega
  rcases hx with rfl | rfl <;> rcases hy with rfl | rfl <;> simp only [Nat.zero_add, Nat.add_zero, reduceIte, Nat.reduceAdd, Nat.reduceMod, Nat.zero_ne_one]
  · rw [Nat.xor_assoc]
  · rw [Nat.xor_assoc, Nat.xor_assoc, Nat.xor_comm 3988292384]
  · rw [xor_swap, Nat.xor_self, Nat.xor_zero]
theorem s16_lt (a : Nat) : s16 a < 65536 := by
  unfold s16
  split
  · exact Nat.xor_lt_two_pow (n := 16) (Nat.mod_lt _ (by decide)) (by decide)
  · exact Nat.mod_lt _ (by decide)
theorem s32_lt (a : Nat) (h : a < 4294967296) : s32 a < 4294967296 := by
  unfold s32
  split
  · exact Nat.xor_lt_two_pow (n := 32) (by omega) (by decide)
  · omega
theorem s16_zero (a : Nat) (ha : a < 65536) (h : s16 a = 0) : a = 0 := by
  unfold s16 at h
  split at h
  · have := Poly.xor_eq_zero _ _ h; omega
  · omega
theorem s32_zero (a : Nat) (ha : a < 4294967296) (h : s32 a = 0) : a = 0 := by
  unfold s32 at h
  split at h
  · have := Poly.xor_eq_zero _ _ h; omega
  · omega

/-- A byte is taken in: eight steps, the byte times v laid in first. -/
def tk (f : Nat → Nat) (v s x : Nat) : Nat := it f 8 (s ^^^ x * v)
/-- All bytes are taken in. -/
def run (f : Nat → Nat) (v s : Nat) (l : List Nat) : Nat := l.foldl (tk f v) s
theorem run_snoc (f : Nat → Nat) (v s : Nat) (l : List Nat) (x : Nat) : run f v s (l ++ [x]) = tk f v (run f v s l) x := by simp [run]
theorem run_append (f : Nat → Nat) (v s : Nat) (l m : List Nat) : run f v s (l ++ m) = run f v (run f v s l) m := by simp [run]
theorem run_cons (f : Nat → Nat) (v s x : Nat) (l : List Nat) : run f v s (x :: l) = run f v (tk f v s x) l := rfl
theorem run_take (f : Nat → Nat) (v s : Nat) (l : List Nat) (k : Nat) (h : k < l.length) : run f v s (l.take (k + 1)) = tk f v (run f v s (l.take k)) (l.getD k 0) := by
  rw [List.take_succ_eq_append_getElem h, run_snoc, Bm.getD_lt _ _ _ h]

theorem mul_pow_xor (a b n : Nat) : (a ^^^ b) * 2 ^ n = a * 2 ^ n ^^^ b * 2 ^ n := by
  have h := Nat.shiftLeft_xor_distrib (a := a) (b := b) (i := n)
  simp only [Nat.shiftLeft_eq] at h
  exact h
theorem tk_xor {f : Nat → Nat} (hf : Lin f) (n s t x y : Nat) : tk f (2 ^ n) (s ^^^ t) (x ^^^ y) = tk f (2 ^ n) s x ^^^ tk f (2 ^ n) t y := by
  unfold tk
  rw [mul_pow_xor, xor_swap, hf.it 8]
theorem tk_left {f : Nat → Nat} (hf : Lin f) (v s t x : Nat) : tk f v (s ^^^ t) x = tk f v s x ^^^ it f 8 t := by
  unfold tk
  rw [Nat.xor_assoc, Nat.xor_comm t, ← Nat.xor_assoc, hf.it 8]
theorem run_left {f : Nat → Nat} (hf : Lin f) (v : Nat) : ∀ (l : List Nat) (s t : Nat), run f v (s ^^^ t) l = run f v s l ^^^ it f (8 * l.length) t
  | [], s, t => rfl
  | x :: l, s, t => by
    rw [run_cons, run_cons, tk_left hf, run_left hf v l, List.length_cons, Nat.mul_add, Nat.mul_one, Nat.add_comm (8 * l.length), it_add]
/-- A byte that is put together with d. -/
theorem run_set {f : Nat → Nat} (hf : Lin f) (n : Nat) (l : List Nat) (q d s : Nat) (h : q < l.length) :
    run f (2 ^ n) s (l.set q (l.getD q 0 ^^^ d)) = run f (2 ^ n) s l ^^^ it f (8 * (l.length - q)) (d * 2 ^ n) := by
  have e : l = l.take q ++ l.getD q 0 :: l.drop (q + 1) := by
    rw [Bm.getD_lt _ _ _ h, List.getElem_cons_drop, List.take_append_drop]
  have e2 : l.set q (l.getD q 0 ^^^ d) = l.take q ++ (l.getD q 0 ^^^ d) :: l.drop (q + 1) := List.set_eq_take_append_cons_drop.trans (if_pos h)
  rw [e2]
  conv => rhs; lhs; rw [e]
  rw [run_append, run_append, run_cons, run_cons]
  have ht : ∀ s, tk f (2 ^ n) s (l.getD q 0 ^^^ d) = tk f (2 ^ n) s (l.getD q 0) ^^^ it f 8 (d * 2 ^ n) := by
    intro s
    have := tk_xor hf n s 0 (l.getD q 0) d
    rw [Nat.xor_zero] at this
    rw [this]
    unfold tk
    rw [Nat.zero_xor]
  rw [ht, run_left hf, ← it_add, List.length_drop]
  congr 2
  omega

/-- Bytes put together, place by place. -/
def zx (a b : List Nat) : List Nat := List.zipWith (· ^^^ ·) a b
theorem run_zx {f : Nat → Nat} (hf : Lin f) (n : Nat) : ∀ (a b : List Nat) (s t : Nat), a.length = b.length → run f (2 ^ n) (s ^^^ t) (zx a b) = run f (2 ^ n) s a ^^^ run f (2 ^ n) t b
  | [], [], s, t, _ => rfl
  | x :: a, y :: b, s, t, h => by
    show run f (2 ^ n) (s ^^^ t) ((x ^^^ y) :: zx a b) = _
    rw [run_cons, run_cons, run_cons, tk_xor hf, run_zx hf n a b _ _ (by simpa using h)]

theorem run_lt {f : Nat → Nat} (v B N : Nat) (hB : B = 2 ^ N) (hf : ∀ a, a < B → f a < B) (hv : ∀ x, x < 256 → x * v < B) : ∀ (l : List Nat) (s : Nat), s < B → (∀ x ∈ l, x < 256) → run f v s l < B
  | [], s, h, _ => h
  | x :: l, s, h, hl => by
    subst hB
    rw [run_cons]
    refine run_lt v _ N rfl hf hv l _ ?_ (fun y hy => hl y (List.mem_cons_of_mem _ hy))
    exact it_lt _ hf 8 _ (Nat.xor_lt_two_pow h (hv x (hl x List.mem_cons_self)))

/-- The register of sixteen bits, and of thirty-two. -/
def r16 (l : List Nat) : Nat := run s16 256 65535 l
def r32 (l : List Nat) : Nat := run s32 1 4294967295 l
/-- The sum of 32 bits. -/
def c32 (l : List Nat) : Nat := 4294967295 ^^^ r32 l
theorem r16_lt (l : List Nat) (h : ∀ x ∈ l, x < 256) : r16 l < 65536 := run_lt 256 65536 16 rfl (fun a _ => s16_lt a) (fun x hx => by omega) l _ (by decide) h
theorem r32_lt (l : List Nat) (h : ∀ x ∈ l, x < 256) : r32 l < 4294967296 := run_lt 1 4294967296 32 rfl s32_lt (fun x hx => by omega) l _ (by decide) h

theorem c32_lt (l : List Nat) (h : ∀ x ∈ l, x < 256) : c32 l < 4294967296 := Nat.xor_lt_two_pow (n := 32) (by decide) (r32_lt l h)

theorem it16_zero (n a : Nat) (ha : a < 65536) (h : it s16 n a = 0) : a = 0 := it_zero 65536 s16_zero (fun a _ => s16_lt a) n a ha h
theorem it32_zero (n a : Nat) (ha : a < 4294967296) (h : it s32 n a = 0) : a = 0 := it_zero 4294967296 s32_zero s32_lt n a ha h

theorem up16 : ∀ i, i ≤ 15 → it s16 i (2 ^ (15 - i)) = 32768 := by decide
theorem up32 : ∀ i, i ≤ 31 → it s32 i (2 ^ i) = 1 := by decide

/-- One place, told by its byte or by its own number. -/
theorem place16 (n q r k i : Nat) (hr : r ≤ 7) (hi : i ≤ 15) (h : 8 * q + r = k + i) (hn : k + i < 8 * n) : it s16 (8 * (n - q)) (2 ^ (7 - r) * 2 ^ 8) = it s16 (8 * n - k) (2 ^ (15 - i)) := by
  rw [show 8 * (n - q) = r + (8 * n - (k + i)) by omega, it_add, show 8 * n - k = i + (8 * n - (k + i)) by omega, it_add, up16 i hi, ← Nat.pow_add, show 7 - r + 8 = 15 - r by omega, up16 r (by omega)]
theorem place32 (n q r k i : Nat) (hr : r ≤ 7) (hi : i ≤ 31) (h : 8 * q + r = k + i) (hn : k + i < 8 * n) : it s32 (8 * (n - q)) (2 ^ r * 2 ^ 0) = it s32 (8 * n - k) (2 ^ i) := by
  rw [show 8 * (n - q) = r + (8 * n - (k + i)) by omega, it_add, show 8 * n - k = i + (8 * n - (k + i)) by omega, it_add, up32 i hi, Nat.pow_zero, Nat.mul_one, up32 r (by omega)]

/-- The first i bits of t, the lowest at the top of sixteen. -/
def top16 (t : Nat) : Nat → Nat
  | 0 => 0
  | i + 1 => top16 t i ^^^ (t / 2 ^ i % 2) * 2 ^ (15 - i)
/-- The first i bits of t. -/
def low32 (t : Nat) : Nat → Nat
  | 0 => 0
  | i + 1 => low32 t i ^^^ (t / 2 ^ i % 2) * 2 ^ i
theorem pow_xor (i y : Nat) (h : y < 2 ^ i) : 2 ^ i ^^^ y = 2 ^ i + y := by
  have e := Nat.two_pow_add_eq_or_of_lt h 1
  rw [Nat.mul_one] at e
  rw [e]
  apply Nat.eq_of_testBit_eq
  intro j
  rw [Nat.testBit_xor, Nat.testBit_or, Nat.testBit_two_pow]
  by_cases hj : i = j
  · subst hj; rw [Nat.testBit_lt_two_pow h]; simp
  · simp [hj]
theorem low32_eq (t : Nat) : ∀ i, low32 t i = t % 2 ^ i
  | 0 => by simp [low32, Nat.mod_one]
  | i + 1 => by
    unfold low32
    rw [low32_eq t i, Nat.mod_pow_succ]
    have h : t % 2 ^ i < 2 ^ i := Nat.mod_lt _ (Nat.two_pow_pos i)
    have hb : t / 2 ^ i % 2 = 0 ∨ t / 2 ^ i % 2 = 1 := by omega
    rcases hb with e | e <;> rw [e]
    · simp
    · rw [Nat.one_mul, Nat.mul_one, Nat.xor_comm, Nat.add_comm]
      exact pow_xor i _ h
theorem top16_bit (t : Nat) : ∀ i j, i ≤ 16 → j < i → (top16 t i) / 2 ^ (15 - j) % 2 = t / 2 ^ j % 2 := by
  have zero : ∀ i j, i ≤ 16 → i ≤ j → j < 16 → (top16 t i) / 2 ^ (15 - j) % 2 = 0 := by
    intro i
    induction i with
    | zero => intro j _ _ _; simp [top16]
    | succ i ih =>
      intro j h1 h2 h3
      unfold top16
      rw [bit_xor, ih j (by omega) (by omega) h3]
      have hb : t / 2 ^ i % 2 = 0 ∨ t / 2 ^ i % 2 = 1 := by omega
      rcases hb with e | e <;> rw [e]
      · simp
      · rw [Nat.one_mul, show 15 - i = (15 - j) + (j - i) by omega, Nat.pow_add, Nat.mul_div_cancel_left _ (Nat.two_pow_pos _), show j - i = (j - i - 1) + 1 by omega, Nat.pow_succ]
        omega
  intro i
  induction i with
  | zero => intro j _ h; omega
  | succ i ih =>
    intro j h1 h2
    unfold top16
    rw [bit_xor]
    by_cases hj : j = i
    · subst hj
      rw [zero j j (by omega) (Nat.le_refl _) (by omega), Nat.mul_div_cancel _ (Nat.two_pow_pos _)]
      omega
    · rw [ih j (by omega) (by omega)]
      have hb : t / 2 ^ i % 2 = 0 ∨ t / 2 ^ i % 2 = 1 := by omega
      rcases hb with e | e <;> rw [e]
      · simp
      · rw [Nat.one_mul, Nat.div_eq_of_lt (Nat.pow_lt_pow_right (by decide) (by omega))]
        omega
theorem top16_lt (t : Nat) : ∀ i, top16 t i < 65536
  | 0 => by simp [top16]
  | i + 1 => by
    unfold top16
    refine Nat.xor_lt_two_pow (n := 16) (top16_lt t i) ?_
    have h1 : 2 ^ (15 - i) ≤ 2 ^ 15 := Nat.pow_le_pow_right (by decide) (by omega)
    have hb : t / 2 ^ i % 2 = 0 ∨ t / 2 ^ i % 2 = 1 := by omega
    rcases hb with e | e <;> rw [e] <;> omega
theorem top16_ne (t : Nat) (ht : t < 65536) (h0 : t ≠ 0) : top16 t 16 ≠ 0 := by
  intro h
  apply h0
  apply Nat.eq_of_testBit_eq
  intro i
  rw [Nat.zero_testBit]
  by_cases hi : i < 16
  · have := top16_bit t 16 i (Nat.le_refl _) hi
    rw [h] at this
    rw [Nat.testBit_eq_decide_div_mod_eq, ← this]
    simp
  · exact Nat.testBit_lt_two_pow (Nat.lt_of_lt_of_le ht (Nat.pow_le_pow_right (n := 2) (i := 16) (by decide) (by omega)))
end Go.Proofs.YtknfpdlomgllhaaDoor.Crc

namespace Go.Proofs.YtknfpdlomgllhaaDoor.Cv
set_option linter.unusedVariables false

/-- Of each stream what it looks at, from the newest bit on. -/
def tp : Nat → List Nat
  | 0 => [1, 0, 0, 1, 1, 1, 1]
  | 1 => [1, 0, 1, 0, 1, 1, 1]
  | 2 => [1, 1, 0, 1, 1, 0, 1]
  | _ => [1, 1, 1, 1, 0, 0, 1]
theorem tp_bit (i k : Nat) : (tp i).getD k 0 ≤ 1 := by
  refine Bm.bit_le _ ?_ k
  unfold tp
  split <;> decide
theorem tp_first (i : Nat) : (tp i).getD 0 0 = 1 := by
  unfold tp
  split <;> rfl

/-- The bit that came k ahead of step t. -/
def pv (l : List Nat) (t k : Nat) : Nat := if k ≤ t then l.getD (t - k) 0 else 0
theorem pv_bit (l : List Nat) (hl : ∀ x ∈ l, x ≤ 1) (t k : Nat) : pv l t k ≤ 1 := by
  unfold pv
  split
  · exact Bm.bit_le l hl _
  · omega
/-- What the first k taps of a stream tell at step t. -/
def bt (l : List Nat) (t i : Nat) : Nat → Nat
  | 0 => 0
  | k + 1 => bt l t i k ^^^ (tp i).getD k 0 * pv l t k
/-- What a stream tells at a step. -/
def bitAt (l : List Nat) (t i : Nat) : Nat := bt l t i 7
theorem mul_bit {a b : Nat} (ha : a ≤ 1) (hb : b ≤ 1) : a * b ≤ 1 := by
  have : a * b ≤ 1 * 1 := Nat.mul_le_mul ha hb
  omega
theorem xor_bit {a b : Nat} (ha : a ≤ 1) (hb : b ≤ 1) : a ^^^ b ≤ 1 := by
  have := Nat.xor_lt_two_pow (n := 1) (x := a) (y := b) (by omega) (by omega)
  omega
theorem bt_bit (l : List Nat) (hl : ∀ x ∈ l, x ≤ 1) (t i : Nat) : ∀ k, bt l t i k ≤ 1
  | 0 => by simp [bt]
  | k + 1 => xor_bit (bt_bit l hl t i k) (mul_bit (tp_bit i k) (pv_bit l hl t k))
theorem bitAt_bit (l : List Nat) (hl : ∀ x ∈ l, x ≤ 1) (t i : Nat) : bitAt l t i ≤ 1 := bt_bit l hl t i 7
/-- What is told at a step. -/
def four (l : List Nat) (t : Nat) : List Nat := [bitAt l t 0, bitAt l t 1, bitAt l t 2, bitAt l t 3]
/-- What is told at the first k steps. -/
def codeTo (l : List Nat) : Nat → List Nat
  | 0 => []
  | k + 1 => codeTo l k ++ four l k
/-- The code of a list. -/
def code (l : List Nat) : List Nat := codeTo l (l.length + 6)
theorem codeTo_length (l : List Nat) : ∀ k, (codeTo l k).length = 4 * k
  | 0 => rfl
  | k + 1 => by
    rw [codeTo, List.length_append, codeTo_length l k]
    show _ + 4 = _
    omega
theorem code_length (l : List Nat) : (code l).length = 4 * (l.length + 6) := codeTo_length l _
theorem four_bit (l : List Nat) (hl : ∀ x ∈ l, x ≤ 1) (t : Nat) : ∀ x ∈ four l t, x ≤ 1 := by
  intro x hx
  simp only [four, List.mem_cons, List.not_mem_nil, or_false] at hx
  rcases hx with rfl | rfl | rfl | rfl <;> exact bitAt_bit l hl t _
theorem codeTo_bit (l : List Nat) (hl : ∀ x ∈ l, x ≤ 1) : ∀ k, ∀ x ∈ codeTo l k, x ≤ 1
  | 0, x, h => by simp [codeTo] at h
  | k + 1, x, h => by
    rcases List.mem_append.1 h with h | h
    · exact codeTo_bit l hl k x h
    · exact four_bit l hl k x h
theorem code_bit (l : List Nat) (hl : ∀ x ∈ l, x ≤ 1) : ∀ x ∈ code l, x ≤ 1 := codeTo_bit l hl _
theorem four_getD (l : List Nat) (t i : Nat) (hi : i < 4) : (four l t).getD i 0 = bitAt l t i := by
  match i, hi with
  | 0, _ => rfl
  | 1, _ => rfl
  | 2, _ => rfl
  | 3, _ => rfl
theorem codeTo_getD (l : List Nat) (i : Nat) (hi : i < 4) : ∀ k t, t < k → (codeTo l k).getD (4 * t + i) 0 = bitAt l t i
  | 0, t, h => by omega
  | k + 1, t, h => by
    rw [codeTo]
    by_cases ht : t < k
    · rw [Bm.getD_left _ _ _ _ (by rw [codeTo_length]; omega), codeTo_getD l i hi k t ht]
    · have e : t = k := by omega
      subst e
      rw [Bm.getD_right _ _ _ _ (by rw [codeTo_length]; omega), codeTo_length, show 4 * t + i - 4 * t = i by omega, four_getD l t i hi]
theorem code_getD (l : List Nat) (t i : Nat) (hi : i < 4) (ht : t < l.length + 6) : (code l).getD (4 * t + i) 0 = bitAt l t i := codeTo_getD l i hi _ t ht

/-! Lists together -/
theorem zx_length (a b : List Nat) (h : a.length = b.length) : (Crc.zx a b).length = a.length := by simp [Crc.zx]; omega
theorem getD_zx (a b : List Nat) (h : a.length = b.length) (i : Nat) : (Crc.zx a b).getD i 0 = a.getD i 0 ^^^ b.getD i 0 := by
  have hz := zx_length a b h
  by_cases hi : i < a.length
  · rw [Bm.getD_lt (Crc.zx a b) 0 i (by omega), Bm.getD_lt a 0 i hi, Bm.getD_lt b 0 i (by omega)]
    simp [Crc.zx]
  · rw [Bm.getD_ge (Crc.zx a b) 0 i (by omega), Bm.getD_ge a 0 i (by omega), Bm.getD_ge b 0 i (by omega)]
    rfl
theorem pv_zx (a b : List Nat) (h : a.length = b.length) (t k : Nat) : pv (Crc.zx a b) t k = pv a t k ^^^ pv b t k := by
  unfold pv
  split
  · exact getD_zx a b h _
  · rfl
theorem tap_xor (c a b : Nat) (hc : c ≤ 1) : c * (a ^^^ b) = c * a ^^^ c * b := by
  have : c = 0 ∨ c = 1 := by omega
  rcases this with rfl | rfl <;> simp
theorem bt_zx (a b : List Nat) (h : a.length = b.length) (t i : Nat) : ∀ k, bt (Crc.zx a b) t i k = bt a t i k ^^^ bt b t i k
  | 0 => by simp [bt]
  | k + 1 => by
    show bt (Crc.zx a b) t i k ^^^ _ = (bt a t i k ^^^ _) ^^^ (bt b t i k ^^^ _)
    rw [bt_zx a b h t i k, pv_zx a b h, tap_xor _ _ _ (tp_bit i k), Crc.xor_swap]
theorem bitAt_zx (a b : List Nat) (h : a.length = b.length) (t i : Nat) : bitAt (Crc.zx a b) t i = bitAt a t i ^^^ bitAt b t i := bt_zx a b h t i 7
theorem codeTo_zx (a b : List Nat) (h : a.length = b.length) : ∀ k, codeTo (Crc.zx a b) k = Crc.zx (codeTo a k) (codeTo b k)
  | 0 => rfl
  | k + 1 => by
    have e : four (Crc.zx a b) k = Crc.zx (four a k) (four b k) := by
      unfold four
      rw [bitAt_zx a b h, bitAt_zx a b h, bitAt_zx a b h, bitAt_zx a b h]
      rfl
    rw [codeTo, codeTo, codeTo, codeTo_zx a b h k, e]
    unfold Crc.zx
    rw [List.zipWith_append (by rw [codeTo_length, codeTo_length])]
theorem code_zx (a b : List Nat) (h : a.length = b.length) : code (Crc.zx a b) = Crc.zx (code a) (code b) := by
  unfold code
  rw [show (Crc.zx a b).length = a.length by simp [Crc.zx]; omega, codeTo_zx a b h, h]

/-! One stream at each step tells the list -/
theorem bt_first (l : List Nat) (t i : Nat) : ∀ k, bt l t i (k + 1) = l.getD t 0 ^^^ bt l t i (k + 1) ^^^ l.getD t 0 := by
  intro k
  rw [Nat.xor_comm (l.getD t 0), Nat.xor_assoc, Nat.xor_self, Nat.xor_zero]
theorem bt_diff (a b : List Nat) (t i : Nat) (h : ∀ j, j < t → a.getD j 0 = b.getD j 0) : ∀ k, bt a t i (k + 1) ^^^ bt b t i (k + 1) = a.getD t 0 ^^^ b.getD t 0
  | 0 => by
    show (0 ^^^ (tp i).getD 0 0 * pv a t 0) ^^^ (0 ^^^ (tp i).getD 0 0 * pv b t 0) = _
    rw [tp_first]
    simp [pv]
  | k + 1 => by
    show (bt a t i (k + 1) ^^^ (tp i).getD (k + 1) 0 * pv a t (k + 1)) ^^^ (bt b t i (k + 1) ^^^ (tp i).getD (k + 1) 0 * pv b t (k + 1)) = _
    have e : pv a t (k + 1) = pv b t (k + 1) := by
      unfold pv
      split
      · exact h _ (by omega)
      · rfl
    rw [e, Crc.xor_swap, Nat.xor_self, Nat.xor_zero, bt_diff a b t i h k]
theorem bitAt_alone (a b : List Nat) (t i : Nat) (h : ∀ j, j < t → a.getD j 0 = b.getD j 0) (he : bitAt a t i = bitAt b t i) : a.getD t 0 = b.getD t 0 := by
  have := bt_diff a b t i h 6
  unfold bitAt at he
  rw [he, Nat.xor_self] at this
  exact Poly.xor_eq_zero _ _ this.symm
/-- Two lists of one length that tell the same, one stream at each step, are the same. -/
theorem alone (a b : List Nat) (n : Nat) (ha : a.length = n) (hb : b.length = n) (s : Nat → Nat) (h : ∀ t, t < n → bitAt a t (s t) = bitAt b t (s t)) : a = b := by
  have key : ∀ t, t ≤ n → ∀ j, j < t → a.getD j 0 = b.getD j 0 := by
    intro t
    induction t with
    | zero => intro _ j hj; omega
    | succ t ih =>
      intro ht j hj
      by_cases hjt : j < t
      · exact ih (by omega) j hjt
      · obtain rfl : j = t := by omega
        exact bitAt_alone a b j (s j) (ih (by omega)) (h j (by omega))
  apply Bm.ext_getD (by omega)
  intro j hj
  exact key n (Nat.le_refl _) j (by omega)

/-! Behind noughts -/
theorem pv_late (l : List Nat) (n t k : Nat) : pv (List.replicate n 0 ++ l) (n + t) k = pv l t k := by
  unfold pv
  by_cases hk : k ≤ t
  · rw [if_pos (by omega), if_pos hk, Bm.getD_right _ _ _ _ (by rw [List.length_replicate]; omega), List.length_replicate, show n + t - k - n = t - k by omega]
  · rw [if_neg hk]
    split
    · rw [Bm.getD_left _ _ _ _ (by rw [List.length_replicate]; omega), Bm.getD_lt _ _ _ (by rw [List.length_replicate]; omega), List.getElem_replicate]
    · rfl
theorem bt_late (l : List Nat) (n t i : Nat) : ∀ k, bt (List.replicate n 0 ++ l) (n + t) i k = bt l t i k
  | 0 => rfl
  | k + 1 => by
    show _ ^^^ _ = _ ^^^ _
    rw [bt_late l n t i k, pv_late]
theorem bt_nought (l : List Nat) (n t i : Nat) (h : t < n) : ∀ k, bt (List.replicate n 0 ++ l) t i k = 0
  | 0 => rfl
  | k + 1 => by
    have e : pv (List.replicate n 0 ++ l) t k = 0 := by
      unfold pv
      split
      · rw [Bm.getD_left _ _ _ _ (by rw [List.length_replicate]; omega), Bm.getD_lt _ _ _ (by rw [List.length_replicate]; omega), List.getElem_replicate]
      · rfl
    show bt (List.replicate n 0 ++ l) t i k ^^^ _ = 0
    rw [bt_nought l n t i h k, e]; simp
theorem codeTo_late (l : List Nat) (n : Nat) : ∀ k, codeTo (List.replicate n 0 ++ l) (n + k) = List.replicate (4 * n) 0 ++ codeTo l k
  | 0 => by
    have key : ∀ m, m ≤ n → codeTo (List.replicate n 0 ++ l) m = List.replicate (4 * m) 0 := by
      intro m
      induction m with
      | zero => intro _; rfl
      | succ m ih =>
        intro hm
        have e : four (List.replicate n 0 ++ l) m = List.replicate 4 0 := by
          unfold four bitAt
          rw [bt_nought l n m 0 (by omega), bt_nought l n m 1 (by omega), bt_nought l n m 2 (by omega), bt_nought l n m 3 (by omega)]
          rfl
        rw [codeTo, ih (by omega), e, List.replicate_append_replicate, show 4 * m + 4 = 4 * (m + 1) by omega]
    rw [Nat.add_zero, key n (Nat.le_refl _)]
    simp [codeTo]
  | k + 1 => by
    have e : four (List.replicate n 0 ++ l) (n + k) = four l k := by
      unfold four bitAt
      rw [bt_late, bt_late, bt_late, bt_late]
    rw [← Nat.add_assoc, codeTo, codeTo_late l n k, e, codeTo, List.append_assoc]
theorem code_late (l : List Nat) (n : Nat) : code (List.replicate n 0 ++ l) = List.replicate (4 * n) 0 ++ code l := by
  unfold code
  rw [List.length_append, List.length_replicate, Nat.add_assoc, codeTo_late]

/-! States -/
/-- The state behind a step. -/
def nx (s x : Nat) : Nat := s / 2 + 32 * x
/-- The state ahead of step t. -/
def sv (l : List Nat) : Nat → Nat
  | 0 => 0
  | t + 1 => nx (sv l t) (l.getD t 0)
/-- What the first k taps of a stream tell of a state and a bit. -/
def ot (s x i : Nat) : Nat → Nat
  | 0 => 0
  | k + 1 => ot s x i k ^^^ (tp i).getD k 0 * ((64 * x + s) / 2 ^ (6 - k) % 2)
/-- What a stream tells of a state and a bit. -/
def out (s x i : Nat) : Nat := ot s x i 7
theorem nx_lt (s x : Nat) (hs : s < 64) (hx : x ≤ 1) : nx s x < 64 := by unfold nx; omega
theorem sv_lt (l : List Nat) (hl : ∀ x ∈ l, x ≤ 1) : ∀ t, sv l t < 64
  | 0 => by simp [sv]
  | t + 1 => nx_lt _ _ (sv_lt l hl t) (Bm.bit_le l hl t)
theorem sv_bit (l : List Nat) (hl : ∀ x ∈ l, x ≤ 1) : ∀ t k, k ≤ 6 → 1 ≤ k → sv l t / 2 ^ (6 - k) % 2 = pv l t k
  | 0, k, h, h1 => by simp [sv, pv]; omega
  | t + 1, k, h, h1 => by
    have hs := sv_lt l hl t
    have hx := Bm.bit_le l hl t
    show nx (sv l t) (l.getD t 0) / 2 ^ (6 - k) % 2 = _
    by_cases hk : k = 1
    · subst hk
      have e : pv l (t + 1) 1 = l.getD t 0 := by simp [pv]
      rw [e]
      unfold nx
      show (sv l t / 2 + 32 * l.getD t 0) / 32 % 2 = _
      omega
    · have ih := sv_bit l hl t (k - 1) (by omega) (by omega)
      have e : pv l (t + 1) k = pv l t (k - 1) := by
        unfold pv
        by_cases hkt : k ≤ t + 1
        · rw [if_pos hkt, if_pos (by omega), show t + 1 - k = t - (k - 1) by omega]
        · rw [if_neg hkt, if_neg (by omega)]
      rw [e, ← ih]
      unfold nx
      have ek : k = 2 ∨ k = 3 ∨ k = 4 ∨ k = 5 ∨ k = 6 := by omega
      generalize sv l t = s at *
      generalize l.getD t 0 = x at *
      rcases ek with rfl | rfl | rfl | rfl | rfl <;> simp only [Nat.reduceSub, Nat.reducePow] <;> omega
theorem word_bit (l : List Nat) (hl : ∀ x ∈ l, x ≤ 1) (t k : Nat) (hk : k < 7) : (64 * l.getD t 0 + sv l t) / 2 ^ (6 - k) % 2 = pv l t k := by
  have hs := sv_lt l hl t
  have hx := Bm.bit_le l hl t
  by_cases h0 : k = 0
  · subst h0
    have e : pv l t 0 = l.getD t 0 := by simp [pv]
    rw [e]
    show (64 * l.getD t 0 + sv l t) / 64 % 2 = _
    omega
  · rw [← sv_bit l hl t k (by omega) (by omega)]
    have ek : k = 1 ∨ k = 2 ∨ k = 3 ∨ k = 4 ∨ k = 5 ∨ k = 6 := by omega
    generalize sv l t = s at *
    generalize l.getD t 0 = x at *
    rcases ek with rfl | rfl | rfl | rfl | rfl | rfl <;> simp only [Nat.reduceSub, Nat.reducePow] <;> omega
theorem ot_bt (l : List Nat) (hl : ∀ x ∈ l, x ≤ 1) (t i : Nat) : ∀ k, k ≤ 7 → ot (sv l t) (l.getD t 0) i k = bt l t i k
  | 0, _ => rfl
  | k + 1, h => by
    show ot _ _ i k ^^^ _ = bt l t i k ^^^ _
    rw [ot_bt l hl t i k (by omega), word_bit l hl t k (by omega)]
/-- The state and the bit tell what the last seven bits tell. -/
theorem out_bitAt (l : List Nat) (hl : ∀ x ∈ l, x ≤ 1) (t i : Nat) : out (sv l t) (l.getD t 0) i = bitAt l t i := ot_bt l hl t i 7 (Nat.le_refl _)
theorem out_bit (s x i : Nat) : out s x i ≤ 1 := by
  have key : ∀ k, ot s x i k ≤ 1 := by
    intro k
    induction k with
    | zero => simp [ot]
    | succ k ih => exact xor_bit ih (mul_bit (tp_bit i k) (by omega))
  exact key 7
/-- Six noughts lead to state 0. -/
theorem sv_end (l : List Nat) (hl : ∀ x ∈ l, x ≤ 1) : sv l (l.length + 6) = 0 := by
  have hs := sv_lt l hl l.length
  have e : ∀ j, sv l (l.length + j + 1) = sv l (l.length + j) / 2 := by
    intro j
    show nx _ (l.getD (l.length + j) 0) = _
    rw [Bm.getD_ge _ _ _ (by omega)]
    rfl
  have e0 := e 0
  have e1 := e 1
  have e2 := e 2
  have e3 := e 3
  have e4 := e 4
  have e5 := e 5
  simp only [Nat.add_assoc, Nat.reduceAdd, Nat.add_zero] at e0 e1 e2 e3 e4 e5
  omega

/-! How much a code weighs -/
/-- What a step weighs. -/
def wt4 (s x : Nat) : Nat := out s x 0 + out s x 1 + out s x 2 + out s x 3
/-- From each state the way to state 0 weighs that much, at least. -/
def hh : List Nat := [0, 4, 6, 6, 9, 7, 7, 9, 12, 10, 10, 8, 9, 9, 11, 11, 14, 14, 12, 12, 13, 11, 11, 9, 12, 10, 10, 12, 11, 11, 13, 13, 16, 16, 14, 14, 13, 13, 13, 13, 14, 12, 12, 14, 13, 13, 11, 11, 14, 14, 12, 12, 11, 13, 13, 15, 14, 12, 12, 14, 15, 15, 13, 13]
theorem hh_step : ∀ s, s < 64 → ∀ x, x < 2 → hh.getD s 0 ≤ wt4 s x + hh.getD (nx s x) 0 := by decide +kernel
theorem hh_first : wt4 0 1 = 4 ∧ hh.getD (nx 0 1) 0 = 16 := by decide
/-- What the steps from t on, k of them, weigh. -/
def wf (l : List Nat) (t : Nat) : Nat → Nat
  | 0 => 0
  | k + 1 => wt4 (sv l t) (l.getD t 0) + wf l (t + 1) k
theorem wf_ge (l : List Nat) (hl : ∀ x ∈ l, x ≤ 1) : ∀ k t, hh.getD (sv l t) 0 ≤ wf l t k + hh.getD (sv l (t + k)) 0
  | 0, t => by simp [wf]
  | k + 1, t => by
    have h1 := hh_step (sv l t) (sv_lt l hl t) (l.getD t 0) (by have := Bm.bit_le l hl t; omega)
    have h2 := wf_ge l hl k (t + 1)
    rw [show t + 1 + k = t + (k + 1) by omega] at h2
    show _ ≤ wt4 (sv l t) (l.getD t 0) + wf l (t + 1) k + _
    have e : sv l (t + 1) = nx (sv l t) (l.getD t 0) := rfl
    rw [e] at h2
    omega
theorem wf_add (l : List Nat) : ∀ a t b, wf l t (a + b) = wf l t a + wf l (t + a) b
  | 0, t, b => by simp [wf]
  | a + 1, t, b => by
    rw [show a + 1 + b = (a + b) + 1 by omega]
    show _ + wf l (t + 1) (a + b) = _ + wf l (t + 1) a + _
    rw [wf_add l a (t + 1) b, show t + 1 + a = t + (a + 1) by omega]
    omega
/-- The code of a list that is not noughts alone weighs twenty, at least. -/
theorem weighs (l : List Nat) (hl : ∀ x ∈ l, x ≤ 1) (j : Nat) (hj : j < l.length) (h1 : l.getD j 0 = 1) : 20 ≤ wf l 0 (l.length + 6) := by
  -- the first 1
  have first : ∃ p, p < l.length ∧ l.getD p 0 = 1 ∧ ∀ q, q < p → l.getD q 0 = 0 := by
    induction j using Nat.strongRecOn with
    | ind j ih =>
      by_cases h : ∃ q, q < j ∧ l.getD q 0 = 1
      · obtain ⟨q, hq, h2⟩ := h
        exact ih q hq (by omega) h2
      · refine ⟨j, hj, h1, fun q hq => ?_⟩
        have := Bm.bit_le l hl q
        have : l.getD q 0 ≠ 1 := fun h2 => h ⟨q, hq, h2⟩
        omega
  obtain ⟨p, hp, hp1, hp0⟩ := first
  have hs : ∀ t, t ≤ p → sv l t = 0 := by
    intro t
    induction t with
    | zero => intro _; rfl
    | succ t ih =>
      intro ht
      show nx (sv l t) (l.getD t 0) = 0
      rw [ih (by omega), hp0 t (by omega)]
      rfl
  have e := wf_add l p 0 (l.length + 6 - p)
  rw [show p + (l.length + 6 - p) = l.length + 6 by omega, Nat.zero_add] at e
  have e2 : wf l p (l.length + 6 - p) = wt4 (sv l p) (l.getD p 0) + wf l (p + 1) (l.length + 6 - p - 1) := by
    rw [show l.length + 6 - p = (l.length + 6 - p - 1) + 1 by omega]
    rfl
  have h3 := wf_ge l hl (l.length + 6 - p - 1) (p + 1)
  rw [show p + 1 + (l.length + 6 - p - 1) = l.length + 6 by omega, sv_end l hl] at h3
  have e3 : sv l (p + 1) = nx 0 1 := by
    show nx (sv l p) (l.getD p 0) = _
    rw [hs p (Nat.le_refl _), hp1]
  rw [e3, hh_first.2] at h3
  rw [hs p (Nat.le_refl _), hp1, hh_first.1] at e2
  have h0 : hh.getD 0 0 = 0 := rfl
  rw [h0] at h3
  omega
end Go.Proofs.YtknfpdlomgllhaaDoor.Cv

namespace Go.Proofs.YtknfpdlomgllhaaDoor.Cv
set_option linter.unusedVariables false

/-- A number, or its opposite, as a bit says. -/
def sg (c : Nat) (x : Int) : Int := if c = 0 then x else -x
/-- The score of the first k places. -/
def scTo (l : List Int) (c : List Nat) : Nat → Int
  | 0 => 0
  | k + 1 => scTo l c k + sg (c.getD k 0) (l.getD k 0)
/-- The score. -/
def score (l : List Int) (c : List Nat) : Int := scTo l c l.length
/-- What a step scores. -/
def gn (l : List Int) (t s x : Nat) : Int := sg (out s x 0) (l.getD (4 * t) 0) + sg (out s x 1) (l.getD (4 * t + 1) 0) + sg (out s x 2) (l.getD (4 * t + 2) 0) + sg (out s x 3) (l.getD (4 * t + 3) 0)
/-- What bits score, from a state on. -/
def fw (l : List Int) : Nat → Nat → List Nat → Int
  | _, _, [] => 0
  | t, s, x :: c => gn l t s x + fw l (t + 1) (nx s x) c
/-- Six noughts. -/
def z6 : List Nat := [0, 0, 0, 0, 0, 0]
/-- What a list scores. -/
def tot (l : List Int) (b : List Nat) : Int := fw l 0 0 (b ++ z6)

theorem fw_append (l : List Int) : ∀ (a : List Nat) (t s : Nat) (b : List Nat), fw l t s (a ++ b) = fw l t s a + fw l (t + a.length) (a.foldl nx s) b
  | [], t, s, b => by simp [fw]
  | x :: a, t, s, b => by
    show gn l t s x + fw l (t + 1) (nx s x) (a ++ b) = gn l t s x + fw l (t + 1) (nx s x) a + fw l (t + (a.length + 1)) (a.foldl nx (nx s x)) b
    rw [fw_append l a, show t + 1 + a.length = t + (a.length + 1) by omega]
    omega
theorem getD_z6 (b : List Nat) (t : Nat) : (b ++ z6).getD t 0 = b.getD t 0 := by
  by_cases h : t < b.length
  · rw [Bm.getD_left _ _ _ _ h]
  · rw [Bm.getD_right _ _ _ _ (by omega), Bm.getD_ge b _ _ (by omega)]
    generalize t - b.length = j
    match j with
    | 0 => rfl
    | 1 => rfl
    | 2 => rfl
    | 3 => rfl
    | 4 => rfl
    | 5 => rfl
    | j + 6 => rw [Bm.getD_ge _ _ _ (by show 6 ≤ _; omega)]
theorem fold_sv (b : List Nat) : ∀ k, k ≤ b.length + 6 → ((b ++ z6).take k).foldl nx 0 = sv b k
  | 0, _ => rfl
  | k + 1, h => by
    have hl : (b ++ z6).length = b.length + 6 := by rw [List.length_append]; rfl
    rw [List.take_succ_eq_append_getElem (by omega), List.foldl_append, fold_sv b k (by omega)]
    show nx (sv b k) _ = nx (sv b k) (b.getD k 0)
    rw [← getD_z6 b k, Bm.getD_lt (b ++ z6) 0 k (by omega)]
theorem sc_four (l : List Int) (b : List Nat) (hb : ∀ x ∈ b, x ≤ 1) (t : Nat) (ht : t < b.length + 6) : scTo l (code b) (4 * t + 4) = scTo l (code b) (4 * t) + gn l t (sv b t) (b.getD t 0) := by
  show scTo l (code b) (4 * t) + sg ((code b).getD (4 * t) 0) _ + sg ((code b).getD (4 * t + 1) 0) _ + sg ((code b).getD (4 * t + 2) 0) _ + sg ((code b).getD (4 * t + 3) 0) _ = _
  have e0 := code_getD b t 0 (by omega) ht
  rw [Nat.add_zero] at e0
  rw [e0, code_getD b t 1 (by omega) ht, code_getD b t 2 (by omega) ht, code_getD b t 3 (by omega) ht]
  unfold gn
  rw [out_bitAt b hb, out_bitAt b hb, out_bitAt b hb, out_bitAt b hb]
  omega
theorem sc_fw (l : List Int) (b : List Nat) (hb : ∀ x ∈ b, x ≤ 1) : ∀ k, k ≤ b.length + 6 → scTo l (code b) (4 * k) = fw l 0 0 ((b ++ z6).take k)
  | 0, _ => rfl
  | k + 1, h => by
    have hl : (b ++ z6).length = b.length + 6 := by rw [List.length_append]; rfl
    rw [show 4 * (k + 1) = 4 * k + 4 by omega, sc_four l b hb k (by omega), sc_fw l b hb k (by omega), List.take_succ_eq_append_getElem (by omega), fw_append, fold_sv b k (by omega), List.length_take, Nat.min_eq_left (by omega), Nat.zero_add]
    show _ = _ + (gn l k (sv b k) _ + 0)
    rw [← Bm.getD_lt (b ++ z6) 0 k (by omega), getD_z6]
    omega
/-- The score of a list's code, step by step. -/
theorem score_tot (l : List Int) (b : List Nat) (hb : ∀ x ∈ b, x ≤ 1) (hl : l.length = 4 * (b.length + 6)) : score l (code b) = tot l b := by
  unfold score tot
  have hl2 : (b ++ z6).length = b.length + 6 := by rw [List.length_append]; rfl
  rw [hl, sc_fw l b hb _ (Nat.le_refl _), List.take_of_length_le (by omega)]

/-! The order, and the best -/
/-- One list is ahead of another one in order, or they are the same. -/
def lexle : List Nat → List Nat → Prop
  | [], _ => True
  | _ :: _, [] => False
  | x :: a, y :: b => x < y ∨ (x = y ∧ lexle a b)
theorem lexle_refl : ∀ a, lexle a a
  | [] => trivial
  | x :: a => .inr ⟨rfl, lexle_refl a⟩
theorem lexle_anti : ∀ a b : List Nat, a.length = b.length → lexle a b → lexle b a → a = b
  | [], [], _, _, _ => rfl
  | x :: a, y :: b, hl, h1, h2 => by
    rcases h1 with h1 | ⟨rfl, h1⟩
    · rcases h2 with h2 | ⟨h2, _⟩ <;> omega
    · rcases h2 with h2 | ⟨_, h2⟩
      · omega
      · rw [lexle_anti a b (by simpa using hl) h1 h2]
/-- b is the best of all lists of its length by f, and the first of several. -/
structure Best (f : List Nat → Int) (n : Nat) (b : List Nat) : Prop where
  len : b.length = n
  bit : ∀ x ∈ b, x ≤ 1
  top : ∀ c, c.length = n → (∀ x ∈ c, x ≤ 1) → f c < f b ∨ (f c = f b ∧ lexle b c)
theorem Best.uniq {f : List Nat → Int} {n : Nat} {a b : List Nat} (h1 : Best f n a) (h2 : Best f n b) : a = b := by
  have p := h1.top b h2.len h2.bit
  have q := h2.top a h1.len h1.bit
  rcases p with p | ⟨_, p⟩
  · rcases q with q | ⟨q, _⟩ <;> omega
  · rcases q with q | ⟨_, q⟩
    · omega
    · exact lexle_anti a b (by rw [h1.len, h2.len]) p q
theorem Best.ge {f : List Nat → Int} {n : Nat} {b : List Nat} (h : Best f n b) (c : List Nat) (hc : c.length = n) (hb : ∀ x ∈ c, x ≤ 1) : f c ≤ f b := by
  rcases h.top c hc hb with h | h <;> omega
theorem Best.congr {f g : List Nat → Int} {n : Nat} {b : List Nat} (h : Best f n b) (e : ∀ c, c.length = n → (∀ x ∈ c, x ≤ 1) → (g c < g b ↔ f c < f b) ∧ (g c = g b ↔ f c = f b)) : Best g n b :=
  ⟨h.len, h.bit, fun c h1 h2 => by
    rcases h.top c h1 h2 with h3 | ⟨h3, h4⟩
    · exact .inl ((e c h1 h2).1.2 h3)
    · exact .inr ⟨(e c h1 h2).2.2 h3, h4⟩⟩
/-- A list that scores more than each other one is the best. -/
theorem Best.strict {f : List Nat → Int} {n : Nat} {b : List Nat} (hl : b.length = n) (hb : ∀ x ∈ b, x ≤ 1) (h : ∀ c, c.length = n → (∀ x ∈ c, x ≤ 1) → c ≠ b → f c < f b) : Best f n b :=
  ⟨hl, hb, fun c h1 h2 => by
    by_cases hc : c = b
    · subst hc; exact .inr ⟨rfl, lexle_refl _⟩
    · exact .inl (h c h1 h2 hc)⟩

/-! The best from each state on -/
def mb (l : List Int) : Nat → Nat → Nat → Int
  | 0, t, s => fw l t s z6
  | m + 1, t, s => max (gn l t s 0 + mb l m (t + 1) (nx s 0)) (gn l t s 1 + mb l m (t + 1) (nx s 1))
def rb (l : List Int) : Nat → Nat → Nat → List Nat
  | 0, _, _ => []
  | m + 1, t, s => if gn l t s 0 + mb l m (t + 1) (nx s 0) = mb l (m + 1) t s then 0 :: rb l m (t + 1) (nx s 0) else 1 :: rb l m (t + 1) (nx s 1)
theorem rb_length (l : List Int) : ∀ m t s, (rb l m t s).length = m
  | 0, _, _ => rfl
  | m + 1, t, s => by
    unfold rb
    split <;> simp [rb_length l m]
theorem rb_bit (l : List Int) : ∀ m t s, ∀ x ∈ rb l m t s, x ≤ 1
  | 0, _, _, x, h => by simp [rb] at h
  | m + 1, t, s, x, h => by
    unfold rb at h
    split at h
    · rcases List.mem_cons.1 h with rfl | h
      · omega
      · exact rb_bit l m _ _ x h
    · rcases List.mem_cons.1 h with rfl | h
      · omega
      · exact rb_bit l m _ _ x h
theorem mb_ge (l : List Int) : ∀ m t s c, c.length = m → (∀ x ∈ c, x ≤ 1) → fw l t s (c ++ z6) ≤ mb l m t s
  | 0, t, s, [], _, _ => Int.le_refl _
  | m + 1, t, s, x :: c, hc, hb => by
    have hx := hb x List.mem_cons_self
    have ih := mb_ge l m (t + 1) (nx s x) c (by simpa using hc) (fun y hy => hb y (List.mem_cons_of_mem _ hy))
    show gn l t s x + fw l (t + 1) (nx s x) (c ++ z6) ≤ max _ _
    have : x = 0 ∨ x = 1 := by omega
    rcases this with rfl | rfl <;> omega
theorem rb_eq (l : List Int) : ∀ m t s, fw l t s (rb l m t s ++ z6) = mb l m t s
  | 0, _, _ => rfl
  | m + 1, t, s => by
    unfold rb
    split
    · rename_i h
      show gn l t s 0 + fw l (t + 1) (nx s 0) (rb l m (t + 1) (nx s 0) ++ z6) = _
      rw [rb_eq l m, h]
    · rename_i h
      show gn l t s 1 + fw l (t + 1) (nx s 1) (rb l m (t + 1) (nx s 1) ++ z6) = _
      rw [rb_eq l m]
      have e : mb l (m + 1) t s = max (gn l t s 0 + mb l m (t + 1) (nx s 0)) (gn l t s 1 + mb l m (t + 1) (nx s 1)) := rfl
      omega
theorem rb_first (l : List Int) : ∀ m t s c, c.length = m → (∀ x ∈ c, x ≤ 1) → fw l t s (c ++ z6) = mb l m t s → lexle (rb l m t s) c
  | 0, _, _, _, _, _, _ => trivial
  | m + 1, t, s, x :: c, hc, hb, he => by
    have hx := hb x List.mem_cons_self
    have hc2 : c.length = m := by simpa using hc
    have hb2 : ∀ y ∈ c, y ≤ 1 := fun y hy => hb y (List.mem_cons_of_mem _ hy)
    have ge := mb_ge l m (t + 1) (nx s x) c hc2 hb2
    change gn l t s x + fw l (t + 1) (nx s x) (c ++ z6) = mb l (m + 1) t s at he
    have e : mb l (m + 1) t s = max (gn l t s 0 + mb l m (t + 1) (nx s 0)) (gn l t s 1 + mb l m (t + 1) (nx s 1)) := rfl
    have hx2 : x = 0 ∨ x = 1 := by omega
    unfold rb
    split
    · rename_i h
      rcases hx2 with rfl | rfl
      · exact .inr ⟨rfl, rb_first l m _ _ c hc2 hb2 (by omega)⟩
      · exact .inl (by omega)
    · rename_i h
      rcases hx2 with rfl | rfl
      · exfalso; omega
      · exact .inr ⟨rfl, rb_first l m _ _ c hc2 hb2 (by omega)⟩
/-- Step by step from the end, the best list is told. -/
theorem rb_best (l : List Int) (n : Nat) : Best (tot l) n (rb l n 0 0) := by
  refine ⟨rb_length l n 0 0, rb_bit l n 0 0, fun c h1 h2 => ?_⟩
  have h3 := mb_ge l n 0 0 c h1 h2
  have h4 := rb_eq l n 0 0
  unfold tot
  by_cases h : fw l 0 0 (c ++ z6) = mb l n 0 0
  · exact .inr ⟨by rw [h, h4], rb_first l n 0 0 c h1 h2 h⟩
  · exact .inl (by rw [h4]; omega)

/-! All lists one by one -/
/-- The n bits of k, the highest first. -/
def bin : Nat → Nat → List Nat
  | 0, _ => []
  | n + 1, k => k / 2 ^ n % 2 :: bin n k
theorem bin_length : ∀ n k, (bin n k).length = n
  | 0, _ => rfl
  | n + 1, k => by simp [bin, bin_length n]
theorem bin_bit : ∀ n k, ∀ x ∈ bin n k, x ≤ 1
  | 0, _, x, h => by simp [bin] at h
  | n + 1, k, x, h => by
    rcases List.mem_cons.1 h with rfl | h
    · omega
    · exact bin_bit n k x h
theorem bin_mod : ∀ n k, bin n k = bin n (k % 2 ^ n) := by
  have key : ∀ n m k, n ≤ m → bin n k = bin n (k % 2 ^ m) := by
    intro n
    induction n with
    | zero => intro m k _; rfl
    | succ n ih =>
      intro m k h
      unfold bin
      rw [ih m k (by omega)]
      congr 1
      have h1 := Nat.testBit_mod_two_pow k m n
      rw [Nat.testBit_eq_decide_div_mod_eq, Nat.testBit_eq_decide_div_mod_eq] at h1
      have a1 : k / 2 ^ n % 2 < 2 := Nat.mod_lt _ (by omega)
      have a2 : k % 2 ^ m / 2 ^ n % 2 < 2 := Nat.mod_lt _ (by omega)
      simp only [show n < m by omega, decide_true, Bool.true_and, decide_eq_decide] at h1
      omega
  exact fun n k => key n n k (Nat.le_refl _)
theorem bin_lex : ∀ n a b, a < 2 ^ n → b < 2 ^ n → a ≤ b → lexle (bin n a) (bin n b)
  | 0, _, _, _, _, _ => trivial
  | n + 1, a, b, ha, hb, h => by
    have hp := Nat.two_pow_pos n
    rw [Nat.pow_succ] at ha hb
    have h1 : a / 2 ^ n < 2 := Nat.div_lt_of_lt_mul (by omega)
    have h2 : b / 2 ^ n < 2 := Nat.div_lt_of_lt_mul (by omega)
    have h3 : a / 2 ^ n ≤ b / 2 ^ n := Nat.div_le_div_right h
    show _ < _ ∨ _
    by_cases he : a / 2 ^ n = b / 2 ^ n
    · refine .inr ⟨by rw [he], ?_⟩
      rw [bin_mod n a, bin_mod n b]
      refine bin_lex n _ _ (Nat.mod_lt _ hp) (Nat.mod_lt _ hp) ?_
      have e1 := Nat.div_add_mod a (2 ^ n)
      have e2 := Nat.div_add_mod b (2 ^ n)
      rw [he] at e1
      omega
    · refine .inl ?_
      generalize a / 2 ^ n = p at *
      generalize b / 2 ^ n = q at *
      omega
/-- The number of bits, the highest first. -/
def numb : List Nat → Nat
  | [] => 0
  | x :: c => x * 2 ^ c.length + numb c
theorem numb_lt : ∀ c : List Nat, (∀ x ∈ c, x ≤ 1) → numb c < 2 ^ c.length
  | [], _ => by simp [numb]
  | x :: c, h => by
    have h1 := numb_lt c (fun y hy => h y (List.mem_cons_of_mem _ hy))
    have h2 := h x List.mem_cons_self
    unfold numb
    rw [List.length_cons, Nat.pow_succ]
    have : x * 2 ^ c.length ≤ 1 * 2 ^ c.length := Nat.mul_le_mul_right _ h2
    omega
theorem bin_numb : ∀ c : List Nat, (∀ x ∈ c, x ≤ 1) → bin c.length (numb c) = c
  | [], _ => rfl
  | x :: c, h => by
    have h0 : ∀ y ∈ c, y ≤ 1 := fun y hy => h y (List.mem_cons_of_mem _ hy)
    have h1 := numb_lt c h0
    have h2 := h x List.mem_cons_self
    have ih := bin_numb c h0
    show (numb (x :: c)) / 2 ^ c.length % 2 :: bin c.length (numb (x :: c)) = _
    have e1 : numb (x :: c) / 2 ^ c.length = x := by
      unfold numb
      rw [Nat.add_comm, Nat.add_mul_div_right _ _ (Nat.two_pow_pos _), Nat.div_eq_of_lt h1, Nat.zero_add]
    have e2 : numb (x :: c) % 2 ^ c.length = numb c := by
      show (x * 2 ^ c.length + numb c) % 2 ^ c.length = numb c
      rw [Nat.add_comm, Nat.add_mul_mod_self_right, Nat.mod_eq_of_lt h1]
    rw [e1, bin_mod, e2, ih, show x % 2 = x by omega]
/-- The first of the best among the first K. -/
structure Top (f : List Nat → Int) (n K : Nat) (b : List Nat) : Prop where
  is : ∃ k, k < K ∧ b = bin n k ∧ ∀ j, j < K → f (bin n j) < f b ∨ (f (bin n j) = f b ∧ k ≤ j)
theorem Top.one (f : List Nat → Int) (n : Nat) : Top f n 1 (bin n 0) := ⟨0, by omega, rfl, fun j hj => .inr ⟨by rw [show j = 0 by omega], by omega⟩⟩
theorem Top.more {f : List Nat → Int} {n K : Nat} {b : List Nat} (h : Top f n K b) (hf : f b < f (bin n K)) : Top f n (K + 1) (bin n K) := by
  obtain ⟨k, hk, rfl, ht⟩ := h.is
  refine ⟨K, by omega, rfl, fun j hj => ?_⟩
  by_cases hjK : j = K
  · subst hjK; exact .inr ⟨rfl, Nat.le_refl _⟩
  · rcases ht j (by omega) with h1 | ⟨h1, _⟩ <;> exact .inl (by omega)
theorem Top.same {f : List Nat → Int} {n K : Nat} {b : List Nat} (h : Top f n K b) (hf : ¬ f b < f (bin n K)) : Top f n (K + 1) b := by
  obtain ⟨k, hk, rfl, ht⟩ := h.is
  refine ⟨k, by omega, rfl, fun j hj => ?_⟩
  by_cases hjK : j = K
  · subst hjK
    by_cases he : f (bin n j) = f (bin n k)
    · exact .inr ⟨he, by omega⟩
    · exact .inl (by omega)
  · exact ht j (by omega)
theorem Top.best {f : List Nat → Int} {n : Nat} {b : List Nat} (h : Top f n (2 ^ n) b) : Best f n b := by
  obtain ⟨k, hk, rfl, ht⟩ := h.is
  refine ⟨bin_length n k, bin_bit n k, fun c h1 h2 => ?_⟩
  subst h1
  have e := bin_numb c h2
  rcases ht (numb c) (numb_lt c h2) with h3 | ⟨h3, h4⟩
  · rw [e] at h3; exact .inl h3
  · have := bin_lex c.length k (numb c) hk (numb_lt c h2) h4
    rw [e] at h3 this
    exact .inr ⟨h3, this⟩
end Go.Proofs.YtknfpdlomgllhaaDoor.Cv

namespace Go.Proofs.YtknfpdlomgllhaaDoor.Cv
set_option linter.unusedVariables false

/-- How sure bits are. -/
def soft (t : List Nat) : List Int := t.map fun b => if b = 0 then 1 else -1
theorem soft_length (t : List Nat) : (soft t).length = t.length := by simp [soft]
theorem soft_getD (t : List Nat) (k : Nat) (h : k < t.length) : (soft t).getD k 0 = if t.getD k 0 = 0 then 1 else -1 := by
  rw [Bm.getD_lt _ _ _ (by rw [soft_length]; exact h), Bm.getD_lt _ _ _ h]
  simp [soft]
theorem sg_soft (a b : Nat) (ha : a ≤ 1) (hb : b ≤ 1) : sg b (if a = 0 then 1 else -1) = 1 - 2 * (if a != b then 1 else 0 : Nat) := by
  have h1 : a = 0 ∨ a = 1 := by omega
  have h2 : b = 0 ∨ b = 1 := by omega
  rcases h1 with rfl | rfl <;> rcases h2 with rfl | rfl <;> rfl
theorem cnt_succ (p : Nat → Bool) (k : Nat) : Bm.cnt p (k + 1) = Bm.cnt p k + if p k then 1 else 0 := rfl
theorem sc_soft (t c : List Nat) (ht : ∀ x ∈ t, x ≤ 1) (hc : ∀ x ∈ c, x ≤ 1) : ∀ k, k ≤ t.length → scTo (soft t) c k = (k : Int) - 2 * (Bm.cnt (fun i => t.getD i 0 != c.getD i 0) k : Nat)
  | 0, _ => rfl
  | k + 1, h => by
    show scTo (soft t) c k + _ = _
    rw [sc_soft t c ht hc k (by omega), soft_getD t k (by omega), sg_soft _ _ (Bm.bit_le t ht k) (Bm.bit_le c hc k)]
    rw [cnt_succ]
    generalize (if (t.getD k 0 != c.getD k 0) = true then 1 else 0) = z
    omega
/-- Of bits the best score is theirs: two less for each place at which others are unlike. -/
theorem score_soft (t c : List Nat) (ht : ∀ x ∈ t, x ≤ 1) (hc : ∀ x ∈ c, x ≤ 1) : score (soft t) c = (t.length : Int) - 2 * (Bm.ap t c : Nat) := by
  unfold score
  rw [soft_length, sc_soft t c ht hc _ (Nat.le_refl _)]
  rfl

theorem cnt4 (p : Nat → Bool) (k : Nat) : Bm.cnt p (4 * k + 4) = Bm.cnt p (4 * k) + (if p (4 * k) then 1 else 0) + (if p (4 * k + 1) then 1 else 0) + (if p (4 * k + 2) then 1 else 0) + (if p (4 * k + 3) then 1 else 0) := rfl
theorem bit_one (x : Nat) (h : x ≤ 1) : (if (x != 0) = true then 1 else 0) = x := by
  have : x = 0 ∨ x = 1 := by omega
  rcases this with rfl | rfl <;> rfl
theorem cnt_code (l : List Nat) (hl : ∀ x ∈ l, x ≤ 1) : ∀ k, k ≤ l.length + 6 → Bm.cnt (fun i => (code l).getD i 0 != 0) (4 * k) = wf l 0 k
  | 0, _ => rfl
  | k + 1, h => by
    have e0 := code_getD l k 0 (by omega) (by omega)
    rw [Nat.add_zero] at e0
    rw [show 4 * (k + 1) = 4 * k + 4 by omega, cnt4, cnt_code l hl k (by omega), wf_add l k 0 1, Nat.zero_add, e0, code_getD l k 1 (by omega) (by omega), code_getD l k 2 (by omega) (by omega), code_getD l k 3 (by omega) (by omega)]
    rw [bit_one _ (bitAt_bit l hl k 0), bit_one _ (bitAt_bit l hl k 1), bit_one _ (bitAt_bit l hl k 2), bit_one _ (bitAt_bit l hl k 3)]
    show _ = _ + (wt4 (sv l k) (l.getD k 0) + 0)
    unfold wt4
    rw [out_bitAt l hl, out_bitAt l hl, out_bitAt l hl, out_bitAt l hl]
    omega
theorem zx_bit (a b : List Nat) (ha : ∀ x ∈ a, x ≤ 1) (hb : ∀ x ∈ b, x ≤ 1) (h : a.length = b.length) : ∀ x ∈ Crc.zx a b, x ≤ 1 := by
  intro x hx
  obtain ⟨i, hi, rfl⟩ := List.getElem_of_mem hx
  rw [← Bm.getD_lt (Crc.zx a b) 0 i hi, getD_zx a b h]
  exact xor_bit (Bm.bit_le a ha i) (Bm.bit_le b hb i)
theorem ne_xor (x y : Nat) : (x != y) = (x ^^^ y != 0) := by
  rw [Bool.eq_iff_iff]
  simp only [bne_iff_ne]
  constructor
  · intro h h2; exact h (Poly.xor_eq_zero _ _ h2)
  · intro h h2; apply h; rw [h2, Nat.xor_self]
/-- The codes of two unlike lists of one length are twenty apart, at least. -/
theorem apart20 (a b : List Nat) (ha : ∀ x ∈ a, x ≤ 1) (hb : ∀ x ∈ b, x ≤ 1) (h : a.length = b.length) (hne : a ≠ b) : 20 ≤ Bm.ap (code a) (code b) := by
  have hz := zx_bit a b ha hb h
  have hzl := zx_length a b h
  have e : Bm.ap (code a) (code b) = wf (Crc.zx a b) 0 ((Crc.zx a b).length + 6) := by
    rw [← cnt_code (Crc.zx a b) hz _ (Nat.le_refl _)]
    unfold Bm.ap
    rw [code_length, hzl]
    refine Bm.cnt_congr _ fun i hi => ?_
    rw [code_zx a b h, getD_zx (code a) (code b) (by rw [code_length, code_length, h]), ne_xor]
  rw [e]
  have hj : ∃ j, j < a.length ∧ a.getD j 0 ≠ b.getD j 0 := by
    apply Classical.byContradiction
    intro hn
    apply hne
    apply Bm.ext_getD h
    intro i hi
    apply Classical.byContradiction
    intro h2
    exact hn ⟨i, hi, h2⟩
  obtain ⟨j, hj1, hj2⟩ := hj
  refine weighs (Crc.zx a b) hz j (by omega) ?_
  rw [getD_zx a b h]
  have h1 := Bm.bit_le a ha j
  have h2 := Bm.bit_le b hb j
  have h3 := xor_bit h1 h2
  have h4 : a.getD j 0 ^^^ b.getD j 0 ≠ 0 := fun h5 => hj2 (Poly.xor_eq_zero _ _ h5)
  omega
theorem ap_comm (a b : List Nat) (h : a.length = b.length) : Bm.ap a b = Bm.ap b a := by
  unfold Bm.ap
  rw [h]
  refine Bm.cnt_congr _ fun i _ => ?_
  rw [Bool.eq_iff_iff]
  simp only [bne_iff_ne]
  exact ⟨Ne.symm, Ne.symm⟩
/-- Of a code of which fewer than ten bits are turned the list is told. -/
theorem mends (b t : List Nat) (hb : ∀ x ∈ b, x ≤ 1) (ht : ∀ x ∈ t, x ≤ 1) (hl : t.length = 4 * (b.length + 6)) (h : Bm.ap t (code b) < 10) :
    Best (tot (soft t)) b.length b ∧ tot (soft t) b = (t.length : Int) - 2 * (Bm.ap t (code b) : Nat) := by
  have hs : ∀ c, c.length = b.length → (∀ x ∈ c, x ≤ 1) → tot (soft t) c = (t.length : Int) - 2 * (Bm.ap t (code c) : Nat) := by
    intro c h1 h2
    rw [← score_tot (soft t) c h2 (by rw [soft_length, hl, h1]), score_soft t (code c) ht (code_bit c h2)]
  refine ⟨Best.strict rfl hb fun c h1 h2 hne => ?_, hs b rfl hb⟩
  rw [hs c h1 h2, hs b rfl hb]
  have h3 := apart20 b c hb h2 h1.symm (Ne.symm hne)
  have h4 := Bm.ap_tri (code b) t (code c) (by rw [code_length, hl])
  rw [ap_comm (code b) t (by rw [code_length, hl])] at h4
  omega

/-! Doubled, and noughts alone -/
theorem getD_twice (l : List Int) (k : Nat) : (l.map (2 * ·)).getD k 0 = 2 * l.getD k 0 := by
  by_cases h : k < l.length
  · rw [Bm.getD_lt _ _ _ (by rw [List.length_map]; exact h), Bm.getD_lt _ _ _ h]; simp
  · rw [Bm.getD_ge _ _ _ (by rw [List.length_map]; omega), Bm.getD_ge _ _ _ (by omega)]; rfl
theorem sg_twice (c : Nat) (x : Int) : sg c (2 * x) = 2 * sg c x := by unfold sg; split <;> omega
theorem gn_twice (l : List Int) (t s x : Nat) : gn (l.map (2 * ·)) t s x = 2 * gn l t s x := by
  unfold gn
  rw [getD_twice, getD_twice, getD_twice, getD_twice, sg_twice, sg_twice, sg_twice, sg_twice]
  omega
theorem fw_twice (l : List Int) : ∀ (c : List Nat) (t s : Nat), fw (l.map (2 * ·)) t s c = 2 * fw l t s c
  | [], _, _ => rfl
  | x :: c, t, s => by
    show gn _ t s x + fw _ (t + 1) (nx s x) c = 2 * (gn l t s x + fw l (t + 1) (nx s x) c)
    rw [gn_twice, fw_twice l c]
    omega
theorem tot_twice (l : List Int) (b : List Nat) : tot (l.map (2 * ·)) b = 2 * tot l b := fw_twice l _ 0 0
theorem best_twice (l : List Int) (n : Nat) (b : List Nat) (h : Best (tot l) n b) : Best (tot (l.map (2 * ·))) n b :=
  h.congr fun c _ _ => by rw [tot_twice, tot_twice]; omega
theorem getD_noughts (N k : Nat) : (List.replicate N (0 : Int)).getD k 0 = 0 := by
  by_cases h : k < N
  · rw [Bm.getD_lt _ _ _ (by rw [List.length_replicate]; exact h), List.getElem_replicate]
  · rw [Bm.getD_ge _ _ _ (by rw [List.length_replicate]; omega)]
theorem fw_noughts (N : Nat) : ∀ (c : List Nat) (t s : Nat), fw (List.replicate N (0 : Int)) t s c = 0
  | [], _, _ => rfl
  | x :: c, t, s => by
    show gn _ t s x + fw _ (t + 1) (nx s x) c = 0
    rw [fw_noughts N c]
    unfold gn
    rw [getD_noughts, getD_noughts, getD_noughts, getD_noughts]
    simp [sg]
theorem lexle_noughts : ∀ c : List Nat, lexle (List.replicate c.length 0) c
  | [] => trivial
  | x :: c => by
    show 0 < x ∨ (0 = x ∧ lexle (List.replicate c.length 0) c)
    by_cases h : x = 0
    · exact .inr ⟨h.symm, lexle_noughts c⟩
    · exact .inl (by omega)
theorem best_noughts (N n : Nat) : Best (tot (List.replicate N (0 : Int))) n (List.replicate n 0) := by
  refine ⟨List.length_replicate, fun x hx => by have := List.eq_of_mem_replicate hx; omega, fun c h1 h2 => .inr ⟨?_, ?_⟩⟩
  · unfold tot; rw [fw_noughts, fw_noughts]
  · subst h1; exact lexle_noughts c
theorem tot_noughts (N : Nat) (b : List Nat) : tot (List.replicate N (0 : Int)) b = 0 := fw_noughts N _ 0 0

/-! One stream known at each step -/
theorem sg_nought (c : Nat) : sg c 0 = 0 := by unfold sg; split <;> rfl
theorem sc_one (l : List Int) (b c : List Nat) (hb : ∀ x ∈ b, x ≤ 1) (hc : ∀ x ∈ c, x ≤ 1) (hl : c.length = b.length) (s : Nat → Nat) (hs : ∀ t, s t < 4)
    (h : ∀ t i, t < b.length + 6 → i < 4 → l.getD (4 * t + i) 0 = if i = s t then (if bitAt b t i = 0 then 1 else -1) else 0) :
    ∀ k, k ≤ b.length + 6 → scTo l (code c) (4 * k) = (k : Int) - 2 * (Bm.cnt (fun t => bitAt b t (s t) != bitAt c t (s t)) k : Nat)
  | 0, _ => rfl
  | k + 1, hk => by
    have g := sc_four l c hc k (by omega)
    rw [show 4 * (k + 1) = 4 * k + 4 by omega, g, sc_one l b c hb hc hl s hs h k (by omega)]
    have e0 := h k 0 (by omega) (by omega)
    have e1 := h k 1 (by omega) (by omega)
    have e2 := h k 2 (by omega) (by omega)
    have e3 := h k 3 (by omega) (by omega)
    rw [Nat.add_zero] at e0
    have pick : ∀ (v0 v1 v2 v3 : Int) (c0 c1 c2 c3 j : Nat) (vj : Int) (cj : Nat), (j = 0 → v0 = vj ∧ c0 = cj ∧ v1 = 0 ∧ v2 = 0 ∧ v3 = 0) → (j = 1 → v1 = vj ∧ c1 = cj ∧ v0 = 0 ∧ v2 = 0 ∧ v3 = 0) → (j = 2 → v2 = vj ∧ c2 = cj ∧ v0 = 0 ∧ v1 = 0 ∧ v3 = 0) → (j = 3 → v3 = vj ∧ c3 = cj ∧ v0 = 0 ∧ v1 = 0 ∧ v2 = 0) → j < 4 → sg c0 v0 + sg c1 v1 + sg c2 v2 + sg c3 v3 = sg cj vj := by
      intro v0 v1 v2 v3 c0 c1 c2 c3 j vj cj h0 h1 h2 h3 hj
      have ek : j = 0 ∨ j = 1 ∨ j = 2 ∨ j = 3 := by omega
      rcases ek with e | e | e | e
      · obtain ⟨rfl, rfl, rfl, rfl, rfl⟩ := h0 e
        rw [sg_nought, sg_nought, sg_nought]; omega
      · obtain ⟨rfl, rfl, rfl, rfl, rfl⟩ := h1 e
        rw [sg_nought, sg_nought, sg_nought]; omega
      · obtain ⟨rfl, rfl, rfl, rfl, rfl⟩ := h2 e
        rw [sg_nought, sg_nought, sg_nought]; omega
      · obtain ⟨rfl, rfl, rfl, rfl, rfl⟩ := h3 e
        rw [sg_nought, sg_nought, sg_nought]; omega
    have q := sg_soft (bitAt b k (s k)) (bitAt c k (s k)) (bitAt_bit b hb k _) (bitAt_bit c hc k _)
    have hg : gn l k (sv c k) (c.getD k 0) = 1 - 2 * (if bitAt b k (s k) != bitAt c k (s k) then 1 else 0 : Nat) := by
      rw [← q]
      unfold gn
      rw [out_bitAt c hc, out_bitAt c hc, out_bitAt c hc, out_bitAt c hc, e0, e1, e2, e3]
      refine pick _ _ _ _ _ _ _ _ (s k) _ _ ?_ ?_ ?_ ?_ (hs k)
      · intro e; rw [e]; exact ⟨if_pos rfl, rfl, if_neg (show ¬ 1 = 0 by omega), if_neg (show ¬ 2 = 0 by omega), if_neg (show ¬ 3 = 0 by omega)⟩
      · intro e; rw [e]; exact ⟨if_pos rfl, rfl, if_neg (show ¬ 0 = 1 by omega), if_neg (show ¬ 2 = 1 by omega), if_neg (show ¬ 3 = 1 by omega)⟩
      · intro e; rw [e]; exact ⟨if_pos rfl, rfl, if_neg (show ¬ 0 = 2 by omega), if_neg (show ¬ 1 = 2 by omega), if_neg (show ¬ 3 = 2 by omega)⟩
      · intro e; rw [e]; exact ⟨if_pos rfl, rfl, if_neg (show ¬ 0 = 3 by omega), if_neg (show ¬ 1 = 3 by omega), if_neg (show ¬ 2 = 3 by omega)⟩
    rw [hg, cnt_succ]
    generalize (if (bitAt b k (s k) != bitAt c k (s k)) = true then 1 else 0) = z
    omega
/-- The list is told. -/
theorem erased (l : List Int) (b : List Nat) (hb : ∀ x ∈ b, x ≤ 1) (hl : l.length = 4 * (b.length + 6)) (s : Nat → Nat) (hs : ∀ t, s t < 4)
    (h : ∀ t i, t < b.length + 6 → i < 4 → l.getD (4 * t + i) 0 = if i = s t then (if bitAt b t i = 0 then 1 else -1) else 0) :
    Best (tot l) b.length b ∧ tot l b = ((b.length + 6 : Nat) : Int) := by
  have ht : ∀ c, c.length = b.length → (∀ x ∈ c, x ≤ 1) → tot l c = ((b.length + 6 : Nat) : Int) - 2 * (Bm.cnt (fun t => bitAt b t (s t) != bitAt c t (s t)) (b.length + 6) : Nat) := by
    intro c h1 h2
    rw [← score_tot l c h2 (by rw [hl, h1])]
    unfold score
    rw [hl]
    exact sc_one l b c hb h2 h1 s hs h _ (Nat.le_refl _)
  have h0 : tot l b = ((b.length + 6 : Nat) : Int) := by
    have e : Bm.cnt (fun t => bitAt b t (s t) != bitAt b t (s t)) (b.length + 6) = 0 := by
      have : ∀ k, Bm.cnt (fun t => bitAt b t (s t) != bitAt b t (s t)) k = 0 := by
        intro k
        induction k with
        | zero => rfl
        | succ k ih => unfold Bm.cnt; rw [ih]; simp
      exact this _
    rw [ht b rfl hb, e]; omega
  refine ⟨Best.strict rfl hb fun c h1 h2 hne => ?_, h0⟩
  rw [h0, ht c h1 h2]
  have hp : 0 < Bm.cnt (fun t => bitAt b t (s t) != bitAt c t (s t)) (b.length + 6) := by
    apply Classical.byContradiction
    intro hn
    have hz : Bm.cnt (fun t => bitAt b t (s t) != bitAt c t (s t)) (b.length + 6) = 0 := by omega
    have key : ∀ k, Bm.cnt (fun t => bitAt b t (s t) != bitAt c t (s t)) k = 0 → ∀ t, t < k → bitAt b t (s t) = bitAt c t (s t) := by
      intro k
      induction k with
      | zero => intro _ t ht; omega
      | succ k ih =>
        intro hk t ht
        unfold Bm.cnt at hk
        by_cases htk : t = k
        · subst htk
          by_cases he : bitAt b t (s t) = bitAt c t (s t)
          · exact he
          · have : (bitAt b t (s t) != bitAt c t (s t)) = true := by simp [he]
            rw [this] at hk
            simp at hk
        · exact ih (by omega) t (by omega)
    exact hne (alone b c b.length rfl h1 s (fun t ht => key _ hz t (by omega))).symm
  omega
end Go.Proofs.YtknfpdlomgllhaaDoor.Cv

namespace Go.Proofs.YtknfpdlomgllhaaDoor.Cv
set_option linter.unusedVariables false

/-- The version in which a stream's bit stands at a step. -/
def vr (i t : Nat) : Nat := (i + 3 * t) % 4
/-- The stream whose bit stands in a version at a step. -/
def st (v t : Nat) : Nat := (v + t) % 4
theorem vr_lt (i t : Nat) : vr i t < 4 := Nat.mod_lt _ (by omega)
theorem st_lt (v t : Nat) : st v t < 4 := Nat.mod_lt _ (by omega)
theorem st_vr (i t : Nat) (hi : i < 4) : st (vr i t) t = i := by unfold st vr; omega
theorem vr_st (v t : Nat) (hv : v < 4) : vr (st v t) t = v := by unfold st vr; omega
theorem vr_congr (i t t' : Nat) (h : t % 4 = t' % 4) : vr i t = vr i t' := by unfold vr; omega
/-- What an edge weighs at a step. -/
def ew (w : Nat → Nat) (t s x : Nat) : Nat := out s x 0 * w (vr 0 t) + out s x 1 * w (vr 1 t) + out s x 2 * w (vr 2 t) + out s x 3 * w (vr 3 t)
theorem ew_congr (w : Nat → Nat) (t t' s x : Nat) (h : t % 4 = t' % 4) : ew w t s x = ew w t' s x := by
  unfold ew
  rw [vr_congr 0 t t' h, vr_congr 1 t t' h, vr_congr 2 t t' h, vr_congr 3 t t' h]
/-- What bits weigh, from a state on. -/
def pw (w : Nat → Nat) : Nat → Nat → List Nat → Nat
  | _, _, [] => 0
  | t, s, x :: c => ew w t s x + pw w (t + 1) (nx s x) c
theorem pw_congr (w : Nat → Nat) : ∀ (c : List Nat) (t t' s : Nat), t % 4 = t' % 4 → pw w t s c = pw w t' s c
  | [], _, _, _, _ => rfl
  | x :: c, t, t', s, h => by
    show ew w t s x + pw w (t + 1) (nx s x) c = ew w t' s x + pw w (t' + 1) (nx s x) c
    rw [ew_congr w t t' s x h, pw_congr w c (t + 1) (t' + 1) (nx s x) (by omega)]
theorem pw_append (w : Nat → Nat) : ∀ (a : List Nat) (t s : Nat) (b : List Nat), pw w t s (a ++ b) = pw w t s a + pw w (t + a.length) (a.foldl nx s) b
  | [], t, s, b => by simp [pw]
  | x :: a, t, s, b => by
    show ew w t s x + pw w (t + 1) (nx s x) (a ++ b) = ew w t s x + pw w (t + 1) (nx s x) a + pw w (t + (a.length + 1)) (a.foldl nx (nx s x)) b
    rw [pw_append w a, show t + 1 + a.length = t + (a.length + 1) by omega]
    omega
theorem out_zero : out 0 0 0 = 0 ∧ out 0 0 1 = 0 ∧ out 0 0 2 = 0 ∧ out 0 0 3 = 0 := by decide
theorem ew_zero (w : Nat → Nat) (t : Nat) : ew w t 0 0 = 0 := by
  obtain ⟨h0, h1, h2, h3⟩ := out_zero
  unfold ew
  rw [h0, h1, h2, h3]
  simp
theorem pw_zeros (w : Nat → Nat) (b : List Nat) : ∀ p t, pw w t 0 (List.replicate p 0 ++ b) = pw w (t + p) 0 b
  | 0, t => by simp
  | p + 1, t => by
    rw [List.replicate_succ]
    show ew w t 0 0 + pw w (t + 1) (nx 0 0) (List.replicate p 0 ++ b) = _
    rw [ew_zero, show nx 0 0 = 0 from rfl, pw_zeros w b p (t + 1), Nat.zero_add, show t + 1 + p = t + (p + 1) by omega]
theorem fold_lt : ∀ (c : List Nat) (s : Nat), s < 64 → (∀ x ∈ c, x ≤ 1) → c.foldl nx s < 64
  | [], s, hs, _ => hs
  | x :: c, s, hs, h => fold_lt c (nx s x) (nx_lt s x hs (h x List.mem_cons_self)) (fun y hy => h y (List.mem_cons_of_mem _ hy))

/-- Bits that leave state 0 by a 1 and come to a state. -/
structure Way (c : List Nat) (s : Nat) : Prop where
  first : ∃ d, c = 1 :: d
  bit : ∀ x ∈ c, x ≤ 1
  come : c.foldl nx 0 = s
theorem Way.one : Way [1] 32 := ⟨⟨[], rfl⟩, by simp, rfl⟩
theorem Way.next {c : List Nat} {s : Nat} (h : Way c s) (x : Nat) (hx : x ≤ 1) : Way (c ++ [x]) (nx s x) := by
  obtain ⟨d, hd⟩ := h.first
  refine ⟨⟨d ++ [x], by rw [hd]; rfl⟩, fun y hy => ?_, ?_⟩
  · rcases List.mem_append.1 hy with hy | hy
    · exact h.bit y hy
    · rw [List.mem_singleton.1 hy]; exact hx
  · rw [List.foldl_append, h.come]
    rfl
theorem Way.pw_next {c : List Nat} {s : Nat} (h : Way c s) (w : Nat → Nat) (t x : Nat) : pw w t 0 (c ++ [x]) = pw w t 0 c + ew w (t + c.length) s x := by
  rw [pw_append, h.come]
  rfl
/-- n is the least that a detour weighs. -/
structure Lst (w : Nat → Nat) (n : Nat) : Prop where
  ge : ∀ t c, Way c 0 → n ≤ pw w t 0 c
  is : ∃ t c, Way c 0 ∧ pw w t 0 c = n
theorem Lst.uniq {w : Nat → Nat} {n m : Nat} (h1 : Lst w n) (h2 : Lst w m) : n = m := by
  obtain ⟨t, c, hc, e⟩ := h1.is
  obtain ⟨t', c', hc', e'⟩ := h2.is
  have a := h1.ge t' c' hc'
  have b := h2.ge t c hc
  omega
theorem ew_le {w u : Nat → Nat} (h : ∀ v, v < 4 → w v ≤ u v) (t s x : Nat) : ew w t s x ≤ ew u t s x := by
  unfold ew
  have a0 := Nat.mul_le_mul_left (out s x 0) (h (vr 0 t) (vr_lt _ _))
  have a1 := Nat.mul_le_mul_left (out s x 1) (h (vr 1 t) (vr_lt _ _))
  have a2 := Nat.mul_le_mul_left (out s x 2) (h (vr 2 t) (vr_lt _ _))
  have a3 := Nat.mul_le_mul_left (out s x 3) (h (vr 3 t) (vr_lt _ _))
  omega
theorem pw_le {w u : Nat → Nat} (h : ∀ v, v < 4 → w v ≤ u v) : ∀ (c : List Nat) (t s : Nat), pw w t s c ≤ pw u t s c
  | [], _, _ => Nat.le_refl _
  | x :: c, t, s => Nat.add_le_add (ew_le h t s x) (pw_le h c (t + 1) (nx s x))
/-- With more weight it is never less. -/
theorem Lst.mono {w u : Nat → Nat} {n m : Nat} (h : ∀ v, v < 4 → w v ≤ u v) (h1 : Lst w n) (h2 : Lst u m) : n ≤ m := by
  obtain ⟨t, c, hc, e⟩ := h2.is
  have := h1.ge t c hc
  have := pw_le h c t 0
  omega
theorem Lst.congr {w u : Nat → Nat} {n : Nat} (h : ∀ v, v < 4 → w v = u v) (h1 : Lst w n) : Lst u n := by
  have e : ∀ t s c, pw u t s c = pw w t s c := fun t s c => Nat.le_antisymm (pw_le (fun v hv => by rw [h v hv]; exact Nat.le_refl _) c t s) (pw_le (fun v hv => by rw [h v hv]; exact Nat.le_refl _) c t s)
  exact ⟨fun t c hc => by rw [e]; exact h1.ge t c hc, by
    obtain ⟨t, c, hc, e2⟩ := h1.is
    exact ⟨t, c, hc, by rw [e]; exact e2⟩⟩
theorem ew_twice (w : Nat → Nat) (t s x : Nat) : ew (fun v => 2 * w v) t s x = 2 * ew w t s x := by
  unfold ew
  simp only [Nat.mul_left_comm _ 2, ← Nat.mul_add]
theorem pw_twice (w : Nat → Nat) : ∀ (c : List Nat) (t s : Nat), pw (fun v => 2 * w v) t s c = 2 * pw w t s c
  | [], _, _ => rfl
  | x :: c, t, s => by
    show ew _ t s x + pw _ (t + 1) (nx s x) c = 2 * (ew w t s x + pw w (t + 1) (nx s x) c)
    rw [ew_twice, pw_twice w c]
    omega
/-- With each weight twice it is twice as much. -/
theorem Lst.twice {w : Nat → Nat} {n : Nat} (h : Lst w n) : Lst (fun v => 2 * w v) (2 * n) := by
  refine ⟨fun t c hc => ?_, ?_⟩
  · rw [pw_twice]; have := h.ge t c hc; omega
  · obtain ⟨t, c, hc, e⟩ := h.is
    exact ⟨t, c, hc, by rw [pw_twice, e]⟩
theorem ew_turn (w u : Nat → Nat) (k : Nat) (h : ∀ v, v < 4 → u ((v + k) % 4) = w v) (t s x : Nat) : ew u t s x = ew w (t + k) s x := by
  have e : ∀ i, u (vr i t) = w (vr i (t + k)) := by
    intro i
    rw [← h (vr i (t + k)) (vr_lt _ _)]
    congr 1
    unfold vr
    omega
  unfold ew
  rw [e 0, e 1, e 2, e 3]
theorem pw_turn (w u : Nat → Nat) (k : Nat) (h : ∀ v, v < 4 → u ((v + k) % 4) = w v) : ∀ (c : List Nat) (t s : Nat), pw u t s c = pw w (t + k) s c
  | [], _, _ => rfl
  | x :: c, t, s => by
    show ew u t s x + pw u (t + 1) (nx s x) c = ew w (t + k) s x + pw w (t + k + 1) (nx s x) c
    rw [ew_turn w u k h, pw_turn w u k h c, show t + 1 + k = t + k + 1 by omega]
/-- Weights that are turned round have the same least. -/
theorem Lst.turn {w u : Nat → Nat} {n : Nat} (k : Nat) (h : ∀ v, v < 4 → u ((v + k) % 4) = w v) (h1 : Lst w n) : Lst u n := by
  refine ⟨fun t c hc => ?_, ?_⟩
  · rw [pw_turn w u k h]; exact h1.ge _ c hc
  · obtain ⟨t, c, hc, e⟩ := h1.is
    exact ⟨t + 3 * k, c, hc, by rw [pw_turn w u k h, pw_congr w c (t + 3 * k + k) t 0 (by omega)]; exact e⟩

/-! Tables -/
/-- A table from which no way is shorter. -/
structure Fix (w : Nat → Nat) (A : Nat → Nat → Nat) (best : Nat) : Prop where
  first : ∀ t, t < 4 → A 32 ((t + 1) % 4) ≤ ew w t 0 1
  next : ∀ s, 0 < s → s < 64 → ∀ t, t < 4 → ∀ x, x ≤ 1 → nx s x ≠ 0 → A (nx s x) ((t + 1) % 4) ≤ A s t + ew w t s x
  back : ∀ s, 0 < s → s < 64 → ∀ t, t < 4 → ∀ x, x ≤ 1 → nx s x = 0 → best ≤ A s t + ew w t s x
theorem Fix.from_ {w : Nat → Nat} {A : Nat → Nat → Nat} {best : Nat} (h : Fix w A best) : ∀ (c : List Nat) (t s : Nat), 0 < s → s < 64 → (∀ x ∈ c, x ≤ 1) → c.foldl nx s = 0 → best ≤ A s (t % 4) + pw w t s c
  | [], t, s, hs, _, _, h0 => by
    exfalso
    have e : s = 0 := h0
    omega
  | x :: c, t, s, hs, hs2, hb, h0 => by
    have hx := hb x List.mem_cons_self
    show best ≤ A s (t % 4) + (ew w t s x + pw w (t + 1) (nx s x) c)
    rw [ew_congr w t (t % 4) s x (by omega)]
    by_cases hz : nx s x = 0
    · have := h.back s hs hs2 (t % 4) (by omega) x hx hz
      omega
    · have h1 := h.next s hs hs2 (t % 4) (by omega) x hx hz
      have h2 := h.from_ c (t + 1) (nx s x) (by omega) (nx_lt s x hs2 hx) (fun y hy => hb y (List.mem_cons_of_mem _ hy)) h0
      rw [show (t % 4 + 1) % 4 = (t + 1) % 4 by omega] at h1
      omega
theorem Fix.ge {w : Nat → Nat} {A : Nat → Nat → Nat} {best : Nat} (h : Fix w A best) (t : Nat) (c : List Nat) (hc : Way c 0) : best ≤ pw w t 0 c := by
  obtain ⟨d, rfl⟩ := hc.first
  have h1 := h.first (t % 4) (by omega)
  have h2 := h.from_ d (t + 1) 32 (by omega) (by omega) (fun y hy => hc.bit y (List.mem_cons_of_mem _ hy)) hc.come
  rw [show (t % 4 + 1) % 4 = (t + 1) % 4 by omega, ew_congr w (t % 4) t 0 1 (by omega)] at h1
  show best ≤ ew w t 0 1 + pw w (t + 1) (nx 0 1) d
  rw [show nx 0 1 = 32 from rfl]
  omega
/-- A number that a way to a state weighs, or far. -/
def Cm (w : Nat → Nat) (far s t n : Nat) : Prop := n = far ∨ ∃ t0 c, Way c s ∧ (t0 + c.length) % 4 = t ∧ pw w t0 0 c = n
/-- The best so far is a detour's, or far. -/
def Cb (w : Nat → Nat) (far n : Nat) : Prop := n = far ∨ ∃ t0 c, Way c 0 ∧ pw w t0 0 c = n
theorem Cm.one (w : Nat → Nat) (far t : Nat) : Cm w far 32 ((t + 1) % 4) (ew w t 0 1) := .inr ⟨t, [1], Way.one, rfl, by simp [pw]⟩
theorem Cm.next {w : Nat → Nat} {far s t n : Nat} (h : Cm w far s t n) (hn : n ≠ far) (x : Nat) (hx : x ≤ 1) : Cm w far (nx s x) ((t + 1) % 4) (n + ew w t s x) := by
  rcases h with h | ⟨t0, c, hc, ht, e⟩
  · exact absurd h hn
  · refine .inr ⟨t0, c ++ [x], hc.next x hx, ?_, ?_⟩
    · rw [List.length_append, List.length_singleton]; omega
    · rw [hc.pw_next, e, ew_congr w (t0 + c.length) t s x (by omega)]
theorem Cm.back {w : Nat → Nat} {far s t n : Nat} (h : Cm w far s t n) (hn : n ≠ far) (x : Nat) (hx : x ≤ 1) (hz : nx s x = 0) : Cb w far (n + ew w t s x) := by
  rcases h with h | ⟨t0, c, hc, ht, e⟩
  · exact absurd h hn
  · refine .inr ⟨t0, c ++ [x], ?_, ?_⟩
    · have := hc.next x hx; rw [hz] at this; exact this
    · rw [hc.pw_next, e, ew_congr w (t0 + c.length) t s x (by omega)]
theorem ew_bound {w : Nat → Nat} (h : ∀ v, v < 4 → w v ≤ 7) (t s x : Nat) : ew w t s x ≤ 28 := by
  unfold ew
  have a0 := Nat.mul_le_mul (out_bit s x 0) (h (vr 0 t) (vr_lt _ _))
  have a1 := Nat.mul_le_mul (out_bit s x 1) (h (vr 1 t) (vr_lt _ _))
  have a2 := Nat.mul_le_mul (out_bit s x 2) (h (vr 2 t) (vr_lt _ _))
  have a3 := Nat.mul_le_mul (out_bit s x 3) (h (vr 3 t) (vr_lt _ _))
  omega
theorem pw_bound {w : Nat → Nat} (h : ∀ v, v < 4 → w v ≤ 7) : ∀ (c : List Nat) (t s : Nat), pw w t s c ≤ 28 * c.length
  | [], _, _ => by simp [pw]
  | x :: c, t, s => by
    have h1 := ew_bound h t s x
    have h2 := pw_bound h c (t + 1) (nx s x)
    show ew w t s x + pw w (t + 1) (nx s x) c ≤ 28 * (c.length + 1)
    omega
theorem way7 : Way [1, 0, 0, 0, 0, 0, 0] 0 := ⟨⟨_, rfl⟩, by decide, by decide⟩
/-- From such a table the least is read. -/
theorem Fix.lst {w : Nat → Nat} {A : Nat → Nat → Nat} {best far : Nat} (h : Fix w A best) (hb : Cb w far best) (hw : ∀ v, v < 4 → w v ≤ 7) (hf : 196 < far) : Lst w best := by
  refine ⟨h.ge, ?_⟩
  rcases hb with hb | hb
  · have h1 := h.ge 0 _ way7
    have h2 := pw_bound hw [1, 0, 0, 0, 0, 0, 0] 0 0
    simp only [List.length_cons, List.length_nil] at h2
    omega
  · exact hb
theorem Lst.bound {w : Nat → Nat} {n : Nat} (h : Lst w n) (hw : ∀ v, v < 4 → w v ≤ 7) : n ≤ 196 := by
  have h1 := h.ge 0 _ way7
  have h2 := pw_bound hw [1, 0, 0, 0, 0, 0, 0] 0 0
  simp only [List.length_cons, List.length_nil] at h2
  omega

/-! Codes -/
/-- What the first k bits of a code weigh. -/
def wcT (w : Nat → Nat) (c : List Nat) : Nat → Nat
  | 0 => 0
  | k + 1 => wcT w c k + c.getD k 0 * w (vr (k % 4) (k / 4))
theorem wc_four (w : Nat → Nat) (b : List Nat) (hb : ∀ x ∈ b, x ≤ 1) (t : Nat) (ht : t < b.length + 6) : wcT w (code b) (4 * t + 4) = wcT w (code b) (4 * t) + ew w t (sv b t) (b.getD t 0) := by
  show wcT w (code b) (4 * t) + (code b).getD (4 * t) 0 * w (vr (4 * t % 4) (4 * t / 4)) + (code b).getD (4 * t + 1) 0 * w (vr ((4 * t + 1) % 4) ((4 * t + 1) / 4)) + (code b).getD (4 * t + 2) 0 * w (vr ((4 * t + 2) % 4) ((4 * t + 2) / 4)) + (code b).getD (4 * t + 3) 0 * w (vr ((4 * t + 3) % 4) ((4 * t + 3) / 4)) = _
  have e0 := code_getD b t 0 (by omega) ht
  rw [Nat.add_zero] at e0
  rw [e0, code_getD b t 1 (by omega) ht, code_getD b t 2 (by omega) ht, code_getD b t 3 (by omega) ht]
  rw [show 4 * t % 4 = 0 by omega, show 4 * t / 4 = t by omega, show (4 * t + 1) % 4 = 1 by omega, show (4 * t + 1) / 4 = t by omega, show (4 * t + 2) % 4 = 2 by omega, show (4 * t + 2) / 4 = t by omega, show (4 * t + 3) % 4 = 3 by omega, show (4 * t + 3) / 4 = t by omega]
  unfold ew
  rw [out_bitAt b hb, out_bitAt b hb, out_bitAt b hb, out_bitAt b hb]
  omega
theorem wc_pw (w : Nat → Nat) (b : List Nat) (hb : ∀ x ∈ b, x ≤ 1) : ∀ k, k ≤ b.length + 6 → wcT w (code b) (4 * k) = pw w 0 0 ((b ++ z6).take k)
  | 0, _ => rfl
  | k + 1, h => by
    have hl : (b ++ z6).length = b.length + 6 := by rw [List.length_append]; rfl
    rw [show 4 * (k + 1) = 4 * k + 4 by omega, wc_four w b hb k (by omega), wc_pw w b hb k (by omega), List.take_succ_eq_append_getElem (by omega), pw_append, fold_sv b k (by omega), List.length_take, Nat.min_eq_left (by omega), Nat.zero_add]
    show _ = _ + (ew w k (sv b k) _ + 0)
    rw [← Bm.getD_lt (b ++ z6) 0 k (by omega), getD_z6]
    omega
theorem fold_end (b : List Nat) (hb : ∀ x ∈ b, x ≤ 1) : (b ++ z6).foldl nx 0 = 0 := by
  have hl : (b ++ z6).length = b.length + 6 := by rw [List.length_append]; rfl
  have := fold_sv b (b.length + 6) (Nat.le_refl _)
  rw [List.take_of_length_le (by omega), sv_end b hb] at this
  exact this
theorem split_first : ∀ (d : List Nat), (∀ x ∈ d, x ≤ 1) → (∃ j, j < d.length ∧ d.getD j 0 ≠ 0) → ∃ p e, d = List.replicate p 0 ++ 1 :: e
  | [], _, ⟨j, hj, _⟩ => by simp at hj
  | x :: d, hb, ⟨j, hj, h⟩ => by
    have hx := hb x List.mem_cons_self
    by_cases h1 : x = 1
    · exact ⟨0, d, by rw [h1]; rfl⟩
    · have h0 : x = 0 := by omega
      cases j with
      | zero => exact absurd h0 h
      | succ j =>
        obtain ⟨p, e, he⟩ := split_first d (fun y hy => hb y (List.mem_cons_of_mem _ hy)) ⟨j, by simpa using hj, h⟩
        exact ⟨p + 1, e, by rw [he, h0, List.replicate_succ]; rfl⟩
/-- A list that is not noughts alone has a code that weighs no less than a detour. -/
theorem Lst.list {w : Nat → Nat} {n : Nat} (h : Lst w n) (d : List Nat) (hd : ∀ x ∈ d, x ≤ 1) (hj : ∃ j, j < d.length ∧ d.getD j 0 ≠ 0) : n ≤ wcT w (code d) (4 * (d.length + 6)) := by
  have hl : (d ++ z6).length = d.length + 6 := by rw [List.length_append]; rfl
  rw [wc_pw w d hd _ (Nat.le_refl _), List.take_of_length_le (by omega)]
  obtain ⟨p, e, he⟩ := split_first d hd hj
  have hf := fold_end d hd
  rw [he, List.append_assoc] at hf ⊢
  rw [pw_zeros]
  refine h.ge _ _ ⟨⟨_, rfl⟩, fun y hy => ?_, ?_⟩
  · rcases List.mem_append.1 (show y ∈ (1 :: e) ++ z6 from hy) with h1 | h1
    · exact hd y (by rw [he]; exact List.mem_append_right _ h1)
    · have : ∀ z ∈ z6, z ≤ 1 := by decide
      exact this y h1
  · rw [List.foldl_append] at hf
    have : ∀ p, (List.replicate p 0).foldl nx 0 = 0 := by
      intro p
      induction p with
      | zero => rfl
      | succ p ih => rw [List.replicate_succ]; exact ih
    rw [this] at hf
    exact hf
theorem ne_place (a b : List Nat) (h : a.length = b.length) (hne : a ≠ b) : ∃ j, j < a.length ∧ a.getD j 0 ≠ b.getD j 0 := by
  apply Classical.byContradiction
  intro hn
  apply hne
  apply Bm.ext_getD h
  intro i hi
  apply Classical.byContradiction
  intro h2
  exact hn ⟨i, hi, h2⟩
/-- The codes of two unlike lists of one length are unlike in bits of the least weight. -/
theorem Lst.holds {w : Nat → Nat} {n : Nat} (h : Lst w n) (a b : List Nat) (ha : ∀ x ∈ a, x ≤ 1) (hb : ∀ x ∈ b, x ≤ 1) (hl : a.length = b.length) (hne : a ≠ b) : n ≤ wcT w (Crc.zx (code a) (code b)) (4 * (a.length + 6)) := by
  have hz := zx_bit a b ha hb hl
  have hzl := zx_length a b hl
  rw [← code_zx a b hl, ← hzl]
  obtain ⟨j, hj1, hj2⟩ := ne_place a b hl hne
  refine h.list (Crc.zx a b) hz ⟨j, by omega, ?_⟩
  rw [getD_zx a b hl]
  exact fun h5 => hj2 (Poly.xor_eq_zero _ _ h5)
/-- The whole code is twenty apart. -/
theorem ew_ones (t s x : Nat) : ew (fun _ => 1) t s x = wt4 s x := by unfold ew wt4; simp only [Nat.mul_one]
theorem hh_pw : ∀ (c : List Nat) (t s : Nat), s < 64 → (∀ x ∈ c, x ≤ 1) → hh.getD s 0 ≤ pw (fun _ => 1) t s c + hh.getD (c.foldl nx s) 0
  | [], t, s, _, _ => by simp [pw]
  | x :: c, t, s, hs, hb => by
    have hx := hb x List.mem_cons_self
    have h1 := hh_step s hs x (by omega)
    have h2 := hh_pw c (t + 1) (nx s x) (nx_lt s x hs hx) (fun y hy => hb y (List.mem_cons_of_mem _ hy))
    show _ ≤ ew _ t s x + pw _ (t + 1) (nx s x) c + hh.getD (c.foldl nx (nx s x)) 0
    rw [ew_ones]
    omega
theorem Lst.ones {n : Nat} (h : Lst (fun _ => 1) n) : 20 ≤ n := by
  obtain ⟨t, c, hc, e⟩ := h.is
  obtain ⟨d, rfl⟩ := hc.first
  have h1 := hh_pw d (t + 1) 32 (by omega) (fun y hy => hc.bit y (List.mem_cons_of_mem _ hy))
  have h2 : d.foldl nx 32 = 0 := hc.come
  rw [h2] at h1
  have e2 : ew (fun _ => 1) t 0 1 + pw (fun _ => 1) (t + 1) 32 d = n := e
  rw [ew_ones, hh_first.1] at e2
  have h3 := hh_first.2
  rw [show nx 0 1 = 32 from rfl] at h3
  rw [h3, show hh.getD 0 0 = 0 from rfl] at h1
  omega
theorem Lst.none {n : Nat} (h : Lst (fun _ => 0) n) : n = 0 := by
  obtain ⟨t, c, hc, e⟩ := h.is
  have key : ∀ (c : List Nat) (t s : Nat), pw (fun _ => 0) t s c = 0 := by
    intro c
    induction c with
    | nil => intro t s; rfl
    | cons x c ih => intro t s; show ew _ t s x + pw _ (t + 1) (nx s x) c = 0; rw [ih]; simp [ew]
  rw [key] at e
  exact e.symm
end Go.Proofs.YtknfpdlomgllhaaDoor.Cv

namespace Go.Proofs.YtknfpdlomgllhaaDoor.Cv
set_option linter.unusedVariables false

/-- A version's bits of a code. -/
def pick (c : List Nat) (v : Nat) : List Nat := (List.range (c.length / 4)).map fun t => c.getD (4 * t + st v t) 0
theorem pick_length (c : List Nat) (v : Nat) : (pick c v).length = c.length / 4 := by simp [pick]
theorem pick_get (c : List Nat) (v t : Nat) (h : t < c.length / 4) : (pick c v).getD t 0 = c.getD (4 * t + st v t) 0 := by
  rw [Bm.getD_lt _ _ _ (by rw [pick_length]; exact h)]
  simp [pick]
theorem pick_bit (c : List Nat) (hc : ∀ x ∈ c, x ≤ 1) (v : Nat) : ∀ x ∈ pick c v, x ≤ 1 := by
  intro x hx
  obtain ⟨t, _, rfl⟩ := List.mem_map.1 hx
  exact Bm.bit_le c hc _
/-- A bit as a number. -/
def sn (b : Nat) : Int := if b = 0 then 1 else -1
/-- What a version adds at a place. -/
def ctr (k : Nat) (r : Nat × List Nat) : Int := if vr (k % 4) (k / 4) = r.1 then sn (r.2.getD (k / 4) 0) else 0
theorem ctr_in (k : Nat) (r : Nat × List Nat) : -1 ≤ ctr k r ∧ ctr k r ≤ 1 := by unfold ctr sn; split <;> (try split) <;> omega
/-- Numbers to which a version is added. -/
def addv (l : List Int) (r : Nat × List Nat) : List Int := (List.range l.length).map fun k => l.getD k 0 + ctr k r
theorem addv_length (l : List Int) (r : Nat × List Nat) : (addv l r).length = l.length := by simp [addv]
theorem addv_get (l : List Int) (r : Nat × List Nat) (k : Nat) (h : k < l.length) : (addv l r).getD k 0 = l.getD k 0 + ctr k r := by
  rw [Bm.getD_lt _ _ _ (by rw [addv_length]; exact h)]
  simp [addv]
/-- Numbers of a row of versions. -/
def softs (T : Nat) (row : List (Nat × List Nat)) : List Int := row.foldl addv (List.replicate (4 * T) 0)
theorem softs_snoc (T : Nat) (row : List (Nat × List Nat)) (r : Nat × List Nat) : softs T (row ++ [r]) = addv (softs T row) r := by
  unfold softs
  rw [List.foldl_append]
  rfl
theorem fold_addv : ∀ (row : List (Nat × List Nat)) (l : List Int), (row.foldl addv l).length = l.length ∧ ∀ k, k < l.length → (row.foldl addv l).getD k 0 = l.getD k 0 + (row.map (ctr k)).sum
  | [], l => ⟨rfl, fun k _ => by simp⟩
  | r :: row, l => by
    obtain ⟨h1, h2⟩ := fold_addv row (addv l r)
    rw [addv_length] at h1 h2
    refine ⟨h1, fun k hk => ?_⟩
    show (row.foldl addv (addv l r)).getD k 0 = _
    rw [h2 k hk, addv_get l r k hk, List.map_cons, List.sum_cons]
    omega
theorem softs_length (T : Nat) (row : List (Nat × List Nat)) : (softs T row).length = 4 * T := by
  unfold softs
  rw [(fold_addv row _).1, List.length_replicate]
theorem softs_get (T : Nat) (row : List (Nat × List Nat)) (k : Nat) (h : k < 4 * T) : (softs T row).getD k 0 = (row.map (ctr k)).sum := by
  unfold softs
  rw [(fold_addv row _).2 k (by rw [List.length_replicate]; exact h), getD_noughts, Int.zero_add]
theorem sum_in (k : Nat) : ∀ row : List (Nat × List Nat), -(row.length : Int) ≤ (row.map (ctr k)).sum ∧ (row.map (ctr k)).sum ≤ (row.length : Int)
  | [] => by simp
  | r :: row => by
    have h1 := sum_in k row
    have h2 := ctr_in k r
    rw [List.map_cons, List.sum_cons, List.length_cons]
    omega
theorem softs_in (T : Nat) (row : List (Nat × List Nat)) : ∀ z ∈ softs T row, -(row.length : Int) ≤ z ∧ z ≤ (row.length : Int) := by
  intro z hz
  obtain ⟨k, hk, rfl⟩ := List.getElem_of_mem hz
  rw [← Bm.getD_lt (softs T row) 0 k hk, softs_get T row k (by rw [softs_length] at hk; exact hk)]
  exact sum_in k row
theorem ext_int {l m : List Int} (hl : l.length = m.length) (h : ∀ i, i < l.length → l.getD i 0 = m.getD i 0) : l = m := by
  apply List.ext_getElem hl
  intro i h1 h2
  have := h i h1
  rw [Bm.getD_lt _ _ _ h1, Bm.getD_lt _ _ _ h2] at this
  exact this
theorem perm_sum {a b : List Int} (h : a.Perm b) : a.sum = b.sum := by
  induction h with
  | nil => rfl
  | cons x _ ih => rw [List.sum_cons, List.sum_cons, ih]
  | swap x y l => simp only [List.sum_cons]; omega
  | trans _ _ h1 h2 => rw [h1, h2]
/-- In whatever order versions come, the numbers are the same. -/
theorem softs_perm (T : Nat) {a b : List (Nat × List Nat)} (h : a.Perm b) : softs T a = softs T b := by
  refine ext_int (by rw [softs_length, softs_length]) fun k hk => ?_
  rw [softs_length] at hk
  rw [softs_get T a k hk, softs_get T b k hk]
  exact perm_sum (h.map (ctr k))

/-! Scores -/
theorem sg_add (c : Nat) (x y : Int) : sg c (x + y) = sg c x + sg c y := by unfold sg; split <;> omega
/-- What a version's bits score with a code's. -/
def gs (c p : List Nat) (v : Nat) : Nat → Int
  | 0 => 0
  | k + 1 => gs c p v k + sg (c.getD (4 * k + st v k) 0) (sn (p.getD k 0))
theorem vr_iff (i t v : Nat) (hi : i < 4) (hv : v < 4) : vr i t = v ↔ i = st v t := by
  constructor
  · intro h; rw [← h, st_vr i t hi]
  · intro h; rw [h, vr_st v t hv]
theorem ctr_at (t i v : Nat) (p : List Nat) (hi : i < 4) (hv : v < 4) : ctr (4 * t + i) (v, p) = if i = st v t then sn (p.getD t 0) else 0 := by
  unfold ctr
  rw [show (4 * t + i) % 4 = i by omega, show (4 * t + i) / 4 = t by omega]
  by_cases h : i = st v t
  · rw [if_pos h, if_pos ((vr_iff i t v hi hv).2 h)]
  · rw [if_neg h, if_neg (fun h2 => h ((vr_iff i t v hi hv).1 h2))]
theorem sc_addv (l : List Int) (c p : List Nat) (v T : Nat) (hv : v < 4) (hl : l.length = 4 * T) : ∀ k, k ≤ T → scTo (addv l (v, p)) c (4 * k) = scTo l c (4 * k) + gs c p v k
  | 0, _ => by simp [scTo, gs]
  | k + 1, h => by
    have ih := sc_addv l c p v T hv hl k (by omega)
    rw [show 4 * (k + 1) = 4 * k + 4 by omega]
    show scTo (addv l (v, p)) c (4 * k) + sg (c.getD (4 * k) 0) _ + sg (c.getD (4 * k + 1) 0) _ + sg (c.getD (4 * k + 2) 0) _ + sg (c.getD (4 * k + 3) 0) _ = scTo l c (4 * k) + sg (c.getD (4 * k) 0) _ + sg (c.getD (4 * k + 1) 0) _ + sg (c.getD (4 * k + 2) 0) _ + sg (c.getD (4 * k + 3) 0) _ + (gs c p v k + sg (c.getD (4 * k + st v k) 0) (sn (p.getD k 0)))
    have a0 := ctr_at k 0 v p (by omega) hv
    rw [Nat.add_zero] at a0
    rw [ih, addv_get l _ (4 * k) (by omega), addv_get l _ (4 * k + 1) (by omega), addv_get l _ (4 * k + 2) (by omega), addv_get l _ (4 * k + 3) (by omega), a0, ctr_at k 1 v p (by omega) hv, ctr_at k 2 v p (by omega) hv, ctr_at k 3 v p (by omega) hv, sg_add, sg_add, sg_add, sg_add]
    have hs := st_lt v k
    have h4 : st v k = 0 ∨ st v k = 1 ∨ st v k = 2 ∨ st v k = 3 := by omega
    rcases h4 with h4 | h4 | h4 | h4 <;> rw [h4] <;> simp [sg_nought] <;> omega
theorem gs_cnt (c p : List Nat) (v T : Nat) (hc : ∀ x ∈ c, x ≤ 1) (hp : ∀ x ∈ p, x ≤ 1) (hl : c.length = 4 * T) : ∀ k, k ≤ T → gs c p v k = (k : Int) - 2 * (Bm.cnt (fun t => p.getD t 0 != (pick c v).getD t 0) k : Nat)
  | 0, _ => rfl
  | k + 1, h => by
    show gs c p v k + _ = _
    have e : sg (c.getD (4 * k + st v k) 0) (sn (p.getD k 0)) = 1 - 2 * ((if p.getD k 0 != c.getD (4 * k + st v k) 0 then 1 else 0 : Nat) : Int) := sg_soft _ _ (Bm.bit_le p hp k) (Bm.bit_le c hc _)
    rw [gs_cnt c p v T hc hp hl k (by omega), cnt_succ, e, pick_get c v k (by omega)]
    generalize (if (p.getD k 0 != c.getD (4 * k + st v k) 0) = true then 1 else 0) = z
    omega
theorem score_addv (l : List Int) (c p : List Nat) (v T : Nat) (hv : v < 4) (hl : l.length = 4 * T) (hc : ∀ x ∈ c, x ≤ 1) (hp : ∀ x ∈ p, x ≤ 1) (hcl : c.length = 4 * T) (hpl : p.length = T) :
    score (addv l (v, p)) c = score l c + ((T : Int) - 2 * (Bm.ap p (pick c v) : Nat)) := by
  unfold score Bm.ap
  rw [addv_length, hl, sc_addv l c p v T hv hl T (Nat.le_refl _), gs_cnt c p v T hc hp hcl T (Nat.le_refl _), hpl]
/-- What versions lie apart from a code's, together. -/
def apr (c : List Nat) (row : List (Nat × List Nat)) : Nat := (row.map fun r => Bm.ap r.2 (pick c r.1)).sum
theorem apr_snoc (c : List Nat) (row : List (Nat × List Nat)) (r : Nat × List Nat) : apr c (row ++ [r]) = apr c row + Bm.ap r.2 (pick c r.1) := by
  unfold apr
  rw [List.map_append, List.sum_append]
  simp
/-- Versions as they may be. -/
def Vers (T : Nat) (row : List (Nat × List Nat)) : Prop := ∀ r ∈ row, r.1 < 4 ∧ r.2.length = T ∧ ∀ x ∈ r.2, x ≤ 1
theorem Vers.snoc {T : Nat} {row : List (Nat × List Nat)} (h : Vers T row) (r : Nat × List Nat) (h1 : r.1 < 4) (h2 : r.2.length = T) (h3 : ∀ x ∈ r.2, x ≤ 1) : Vers T (row ++ [r]) := by
  intro q hq
  rcases List.mem_append.1 hq with hq | hq
  · exact h q hq
  · rw [List.mem_singleton.1 hq]; exact ⟨h1, h2, h3⟩
theorem score_fold (c : List Nat) (T : Nat) (hc : ∀ x ∈ c, x ≤ 1) (hcl : c.length = 4 * T) : ∀ (row : List (Nat × List Nat)) (l : List Int), l.length = 4 * T → Vers T row → score (row.foldl addv l) c = score l c + ((row.length : Int) * T - 2 * (apr c row : Nat))
  | [], l, _, _ => by simp [apr]
  | r :: row, l, hl, hv => by
    obtain ⟨h1, h2, h3⟩ := hv r List.mem_cons_self
    show score (row.foldl addv (addv l r)) c = _
    rw [score_fold c T hc hcl row (addv l r) (by rw [addv_length]; exact hl) (fun q hq => hv q (List.mem_cons_of_mem _ hq)), score_addv l c r.2 r.1 T h1 hl hc h3 hcl h2]
    have e : apr c (r :: row) = Bm.ap r.2 (pick c r.1) + apr c row := by unfold apr; rw [List.map_cons, List.sum_cons]
    rw [e, List.length_cons]
    have e2 : ((row.length + 1 : Nat) : Int) * (T : Int) = (row.length : Int) * T + T := by rw [Int.natCast_add, Int.add_mul]; simp
    rw [e2]
    omega
theorem score_row (c : List Nat) (T : Nat) (hc : ∀ x ∈ c, x ≤ 1) (hcl : c.length = 4 * T) (row : List (Nat × List Nat)) (hv : Vers T row) : score (softs T row) c = (row.length : Int) * T - 2 * (apr c row : Nat) := by
  have h0 : score (List.replicate (4 * T) 0) c = 0 := by
    have key : ∀ k, scTo (List.replicate (4 * T) 0) c k = 0 := by
      intro k
      induction k with
      | zero => rfl
      | succ k ih =>
        show scTo _ c k + sg _ _ = 0
        rw [ih, getD_noughts, sg_nought]
        rfl
    exact key _
  unfold softs
  rw [score_fold c T hc hcl row _ (List.length_replicate ..) hv, h0, Int.zero_add]

/-! Versions that mend -/
/-- What the versions of two codes lie apart, each as often as it came. -/
def apw (x y : List Nat) (row : List (Nat × List Nat)) : Nat := (row.map fun r => Bm.ap (pick x r.1) (pick y r.1)).sum
theorem apr_tri (x y : List Nat) (T : Nat) (hx : x.length = 4 * T) (hy : y.length = 4 * T) : ∀ row : List (Nat × List Nat), Vers T row → apw x y row ≤ apr x row + apr y row
  | [], _ => by simp [apw, apr]
  | r :: row, hv => by
    obtain ⟨h1, h2, h3⟩ := hv r List.mem_cons_self
    have ih := apr_tri x y T hx hy row (fun q hq => hv q (List.mem_cons_of_mem _ hq))
    have hl : (pick x r.1).length = r.2.length := by rw [pick_length, hx, h2]; omega
    have t := Bm.ap_tri (pick x r.1) r.2 (pick y r.1) hl
    rw [ap_comm (pick x r.1) r.2 hl] at t
    unfold apw apr at *
    rw [List.map_cons, List.sum_cons, List.map_cons, List.sum_cons, List.map_cons, List.sum_cons]
    omega
/-- Where each other list's versions lie farther apart than twice what was turned, the list is the best one. -/
theorem row_best (b : List Nat) (hb : ∀ x ∈ b, x ≤ 1) (row : List (Nat × List Nat)) (hv : Vers (b.length + 6) row)
    (h : ∀ c, c.length = b.length → (∀ x ∈ c, x ≤ 1) → c ≠ b → 2 * apr (code b) row < apw (code b) (code c) row) : Best (tot (softs (b.length + 6) row)) b.length b := by
  have hs : ∀ c, c.length = b.length → (∀ x ∈ c, x ≤ 1) → tot (softs (b.length + 6) row) c = (row.length : Int) * ((b.length + 6 : Nat) : Int) - 2 * (apr (code c) row : Nat) := by
    intro c h1 h2
    rw [← score_tot _ c h2 (by rw [softs_length, h1]), score_row (code c) (b.length + 6) (code_bit c h2) (by rw [code_length, h1]) row hv]
  refine Best.strict rfl hb fun c h1 h2 hne => ?_
  rw [hs c h1 h2, hs b rfl hb]
  have h3 := h c h1 h2 hne
  have h4 := apr_tri (code b) (code c) (b.length + 6) (code_length b) (by rw [code_length, h1]) row hv
  omega
/-- How often a version came. -/
def cv (row : List (Nat × List Nat)) (v : Nat) : Nat := (row.filter fun r => r.1 == v).length
theorem cv_snoc (row : List (Nat × List Nat)) (r : Nat × List Nat) (v : Nat) : cv (row ++ [r]) v = cv row v + if r.1 = v then 1 else 0 := by
  unfold cv
  rw [List.filter_append, List.length_append]
  by_cases h : r.1 = v <;> simp [h]
theorem wcT_add (w u : Nat → Nat) (c : List Nat) : ∀ k, wcT (fun v => w v + u v) c k = wcT w c k + wcT u c k
  | 0 => rfl
  | k + 1 => by
    show wcT _ c k + _ * (_ + _) = wcT w c k + _ + (wcT u c k + _)
    rw [wcT_add w u c k, Nat.mul_add]
    omega
theorem wcT_none (c : List Nat) : ∀ k, wcT (fun _ => 0) c k = 0
  | 0 => rfl
  | k + 1 => by
    show wcT _ c k + _ * 0 = 0
    rw [wcT_none c k, Nat.mul_zero]
theorem xor_one (x y : Nat) (hx : x ≤ 1) (hy : y ≤ 1) : (if (x != y) = true then 1 else 0) = x ^^^ y := by
  have h1 : x = 0 ∨ x = 1 := by omega
  have h2 : y = 0 ∨ y = 1 := by omega
  rcases h1 with rfl | rfl <;> rcases h2 with rfl | rfl <;> rfl
theorem wcT_one (x y : List Nat) (hx : ∀ z ∈ x, z ≤ 1) (hy : ∀ z ∈ y, z ≤ 1) (T : Nat) (hxl : x.length = 4 * T) (hyl : y.length = 4 * T) (v : Nat) (hv : v < 4) : ∀ k, k ≤ T → wcT (fun u => if v = u then 1 else 0) (Crc.zx x y) (4 * k) = Bm.cnt (fun t => (pick x v).getD t 0 != (pick y v).getD t 0) k
  | 0, _ => rfl
  | k + 1, h => by
    have hl : x.length = y.length := by omega
    have ih := wcT_one x y hx hy T hxl hyl v hv k (by omega)
    rw [cnt_succ, pick_get x v k (by omega), pick_get y v k (by omega), xor_one _ _ (Bm.bit_le x hx _) (Bm.bit_le y hy _), ← ih, show 4 * (k + 1) = 4 * k + 4 by omega]
    show wcT _ (Crc.zx x y) (4 * k) + (Crc.zx x y).getD (4 * k) 0 * (if v = vr (4 * k % 4) (4 * k / 4) then 1 else 0) + (Crc.zx x y).getD (4 * k + 1) 0 * (if v = vr ((4 * k + 1) % 4) ((4 * k + 1) / 4) then 1 else 0) + (Crc.zx x y).getD (4 * k + 2) 0 * (if v = vr ((4 * k + 2) % 4) ((4 * k + 2) / 4) then 1 else 0) + (Crc.zx x y).getD (4 * k + 3) 0 * (if v = vr ((4 * k + 3) % 4) ((4 * k + 3) / 4) then 1 else 0) = _
    rw [show 4 * k % 4 = 0 by omega, show 4 * k / 4 = k by omega, show (4 * k + 1) % 4 = 1 by omega, show (4 * k + 1) / 4 = k by omega, show (4 * k + 2) % 4 = 2 by omega, show (4 * k + 2) / 4 = k by omega, show (4 * k + 3) % 4 = 3 by omega, show (4 * k + 3) / 4 = k by omega]
    have e : ∀ i, i < 4 → (if v = vr i k then 1 else 0) = if i = st v k then 1 else 0 := by
      intro i hi
      by_cases h1 : i = st v k
      · rw [if_pos h1, if_pos ((vr_iff i k v hi hv).2 h1).symm]
      · rw [if_neg h1, if_neg (fun h2 => h1 ((vr_iff i k v hi hv).1 h2.symm))]
    rw [e 0 (by omega), e 1 (by omega), e 2 (by omega), e 3 (by omega), ← getD_zx x y hl]
    have hs := st_lt v k
    have h4 : st v k = 0 ∨ st v k = 1 ∨ st v k = 2 ∨ st v k = 3 := by omega
    rcases h4 with h4 | h4 | h4 | h4 <;> rw [h4] <;> simp
theorem apw_wcT (x y : List Nat) (hx : ∀ z ∈ x, z ≤ 1) (hy : ∀ z ∈ y, z ≤ 1) (T : Nat) (hxl : x.length = 4 * T) (hyl : y.length = 4 * T) : ∀ row : List (Nat × List Nat), Vers T row → apw x y row = wcT (cv row) (Crc.zx x y) (4 * T)
  | [], _ => by
    have e : cv ([] : List (Nat × List Nat)) = fun _ => 0 := rfl
    rw [e, wcT_none]
    rfl
  | r :: row, hv => by
    obtain ⟨h1, h2, h3⟩ := hv r List.mem_cons_self
    have e : cv (r :: row) = fun v => (if r.1 = v then 1 else 0) + cv row v := by
      funext v
      unfold cv
      rw [List.filter_cons]
      by_cases h : r.1 = v <;> simp [h] <;> omega
    have e2 : apw x y (r :: row) = Bm.ap (pick x r.1) (pick y r.1) + apw x y row := by unfold apw; rw [List.map_cons, List.sum_cons]
    have e3 : Bm.ap (pick x r.1) (pick y r.1) = Bm.cnt (fun t => (pick x r.1).getD t 0 != (pick y r.1).getD t 0) T := by
      unfold Bm.ap
      rw [pick_length, hxl, show 4 * T / 4 = T by omega]
    rw [e, wcT_add, wcT_one x y hx hy T hxl hyl r.1 h1 T (Nat.le_refl _), e2, e3, apw_wcT x y hx hy T hxl hyl row (fun q hq => hv q (List.mem_cons_of_mem _ hq))]
/-- With no more turned than half of the least the list is told. -/
theorem row_mends (b : List Nat) (hb : ∀ x ∈ b, x ≤ 1) (row : List (Nat × List Nat)) (hv : Vers (b.length + 6) row) (n : Nat) (hn : Lst (cv row) n) (h : 2 * apr (code b) row < n) : Best (tot (softs (b.length + 6) row)) b.length b := by
  refine row_best b hb row hv fun c h1 h2 hne => ?_
  have h3 := hn.holds b c hb h2 h1.symm (Ne.symm hne)
  rw [← apw_wcT (code b) (code c) (code_bit b hb) (code_bit c h2) (b.length + 6) (code_length b) (by rw [code_length, h1]) row hv] at h3
  omega
theorem cnt_zero {p : Nat → Bool} : ∀ k, Bm.cnt p k = 0 → ∀ i, i < k → p i = false
  | 0, _, i, hi => by omega
  | k + 1, h, i, hi => by
    rw [cnt_succ] at h
    by_cases hik : i = k
    · subst hik
      cases hp : p i with
      | false => rfl
      | true => rw [hp] at h; simp at h
    · exact cnt_zero k (by omega) i (by omega)
/-- Each version alone tells the list. -/
theorem pick_ne (b c : List Nat) (hl : c.length = b.length) (hne : c ≠ b) (v : Nat) : 0 < Bm.ap (pick (code b) v) (pick (code c) v) := by
  apply Classical.byContradiction
  intro h0
  have h : Bm.ap (pick (code b) v) (pick (code c) v) = 0 := by omega
  unfold Bm.ap at h
  rw [pick_length, code_length, show 4 * (b.length + 6) / 4 = b.length + 6 by omega] at h
  refine hne (alone c b b.length hl rfl (fun t => st v t) fun t ht => ?_)
  have e := cnt_zero _ h t (by omega)
  rw [pick_get _ _ _ (by rw [code_length]; omega), pick_get _ _ _ (by rw [code_length]; omega), code_getD b t _ (st_lt v t) (by omega), code_getD c t _ (st_lt v t) (by omega)] at e
  have e2 : bitAt b t (st v t) = bitAt c t (st v t) := by simpa using e
  exact e2.symm
/-- Whole versions, one or more: the list is told. -/
theorem row_whole (b : List Nat) (hb : ∀ x ∈ b, x ≤ 1) (row : List (Nat × List Nat)) (hne : row ≠ []) (hw : ∀ r ∈ row, r.1 < 4 ∧ r.2 = pick (code b) r.1) : Best (tot (softs (b.length + 6) row)) b.length b := by
  have hv : Vers (b.length + 6) row := by
    intro r hr
    obtain ⟨h1, h2⟩ := hw r hr
    rw [h2]
    exact ⟨h1, by rw [pick_length, code_length]; omega, pick_bit _ (code_bit b hb) _⟩
  have hself : ∀ l : List Nat, Bm.ap l l = 0 := by
    intro l
    have key : ∀ k, Bm.cnt (fun i => l.getD i 0 != l.getD i 0) k = 0 := by
      intro k
      induction k with
      | zero => rfl
      | succ k ih => rw [cnt_succ, ih]; simp
    exact key _
  have h0 : apr (code b) row = 0 := by
    unfold apr
    have : ∀ rs : List (Nat × List Nat), (∀ r ∈ rs, r.1 < 4 ∧ r.2 = pick (code b) r.1) → (rs.map fun r => Bm.ap r.2 (pick (code b) r.1)).sum = 0 := by
      intro rs
      induction rs with
      | nil => intro _; rfl
      | cons r rs ih =>
        intro h
        rw [List.map_cons, List.sum_cons, ih (fun q hq => h q (List.mem_cons_of_mem _ hq)), (h r List.mem_cons_self).2, hself]
    exact this row hw
  refine row_best b hb row hv fun c h1 h2 hne2 => ?_
  rw [h0]
  cases row with
  | nil => exact absurd rfl hne
  | cons r rs =>
    have := pick_ne b c h1 hne2 r.1
    unfold apw
    rw [List.map_cons, List.sum_cons]
    omega
end Go.Proofs.YtknfpdlomgllhaaDoor.Cv

namespace Go.Proofs.YtknfpdlomgllhaaDoor.Cv
set_option linter.unusedVariables false

theorem pv_left (l r : List Nat) (t k : Nat) (h : t < l.length) : pv (l ++ r) t k = pv l t k := by
  unfold pv
  split
  · rw [Bm.getD_left _ _ _ _ (by omega)]
  · rfl
theorem bt_left (l r : List Nat) (t i : Nat) (h : t < l.length) : ∀ k, bt (l ++ r) t i k = bt l t i k
  | 0 => rfl
  | k + 1 => by
    show _ ^^^ _ = _ ^^^ _
    rw [bt_left l r t i h k, pv_left l r t k h]
theorem bitAt_left (l r : List Nat) (t i : Nat) (h : t < l.length) : bitAt (l ++ r) t i = bitAt l t i := bt_left l r t i h 7
theorem pv_z6 (l : List Nat) (t k : Nat) : pv (l ++ z6) t k = pv l t k := by
  unfold pv
  rw [getD_z6]
theorem bt_z6 (l : List Nat) (t i : Nat) : ∀ k, bt (l ++ z6) t i k = bt l t i k
  | 0 => rfl
  | k + 1 => by
    show _ ^^^ _ = _ ^^^ _
    rw [bt_z6 l t i k, pv_z6]
theorem bitAt_z6 (l : List Nat) (t i : Nat) : bitAt (l ++ z6) t i = bitAt l t i := bt_z6 l t i 7
/-- The newest bit is told as it is, or turned. -/
theorem bitAt_snoc (l : List Nat) (b i : Nat) : bitAt (l ++ [b]) l.length i = b ^^^ bitAt (l ++ [0]) l.length i := by
  have h := bt_diff (l ++ [b]) (l ++ [0]) l.length i (fun j hj => by rw [Bm.getD_left _ _ _ _ hj, Bm.getD_left _ _ _ _ hj]) 6
  have e1 : (l ++ [b]).getD l.length 0 = b := by rw [Bm.getD_right _ _ _ _ (Nat.le_refl _), Nat.sub_self]; rfl
  have e2 : (l ++ [0]).getD l.length 0 = 0 := by rw [Bm.getD_right _ _ _ _ (Nat.le_refl _), Nat.sub_self]; rfl
  rw [e1, e2, Nat.xor_zero] at h
  have key : ∀ x y z : Nat, x ^^^ y = z → x = z ^^^ y := fun x y z hz => by rw [← hz, Nat.xor_assoc, Nat.xor_self, Nat.xor_zero]
  exact key _ _ _ h
/-- The list that a version's first bits alone tell. -/
def al (p : List Nat) (v : Nat) : Nat → List Nat
  | 0 => []
  | t + 1 => al p v t ++ [p.getD t 0 ^^^ bitAt (al p v t ++ [0]) t (st v t)]
theorem al_length (p : List Nat) (v : Nat) : ∀ t, (al p v t).length = t
  | 0 => rfl
  | t + 1 => by rw [al, List.length_append, al_length p v t]; rfl
theorem al_bit (p : List Nat) (hp : ∀ x ∈ p, x ≤ 1) (v : Nat) : ∀ t, ∀ x ∈ al p v t, x ≤ 1
  | 0, x, h => by simp [al] at h
  | t + 1, x, h => by
    rw [al] at h
    rcases List.mem_append.1 h with h | h
    · exact al_bit p hp v t x h
    · rw [List.mem_singleton.1 h]
      refine xor_bit (Bm.bit_le p hp t) (bitAt_bit _ (fun y hy => ?_) _ _)
      rcases List.mem_append.1 hy with hy | hy
      · exact al_bit p hp v t y hy
      · rw [List.mem_singleton.1 hy]; omega
/-- The bit that comes next: 1 where a nought would tell otherwise. -/
theorem al_next (p : List Nat) (hp : ∀ x ∈ p, x ≤ 1) (v t : Nat) : p.getD t 0 ^^^ bitAt (al p v t ++ [0]) t (st v t) = if bitAt (al p v t ++ [0]) t (st v t) ≠ p.getD t 0 then 1 else 0 := by
  have h1 := Bm.bit_le p hp t
  have h2 : bitAt (al p v t ++ [0]) t (st v t) ≤ 1 := bitAt_bit _ (fun y hy => by
    rcases List.mem_append.1 hy with hy | hy
    · exact al_bit p hp v t y hy
    · rw [List.mem_singleton.1 hy]; omega) _ _
  generalize bitAt (al p v t ++ [0]) t (st v t) = y at *
  generalize p.getD t 0 = x at *
  have a : x = 0 ∨ x = 1 := by omega
  have b : y = 0 ∨ y = 1 := by omega
  rcases a with rfl | rfl <;> rcases b with rfl | rfl <;> rfl
theorem al_tells (p : List Nat) (v : Nat) : ∀ T t, t < T → bitAt (al p v T) t (st v t) = p.getD t 0
  | 0, t, h => by omega
  | T + 1, t, h => by
    rw [al]
    by_cases ht : t < T
    · rw [bitAt_left _ _ _ _ (by rw [al_length]; exact ht)]
      exact al_tells p v T t ht
    · obtain rfl : t = T := by omega
      have e := bitAt_snoc (al p v t) (p.getD t 0 ^^^ bitAt (al p v t ++ [0]) t (st v t)) (st v t)
      rw [al_length] at e
      rw [e, Nat.xor_assoc, Nat.xor_self, Nat.xor_zero]
theorem al_uniq (p l : List Nat) (v T : Nat) (hl : l.length = T) (h : ∀ t, t < T → bitAt l t (st v t) = p.getD t 0) : l = al p v T :=
  alone l (al p v T) T hl (al_length p v T) (fun t => st v t) fun t ht => by rw [h t ht, al_tells p v T t ht]
/-- A version of a list's code alone tells it, and six noughts. -/
theorem al_code (l : List Nat) (v : Nat) : al (pick (code l) v) v (l.length + 6) = l ++ z6 := by
  refine (al_uniq _ _ v _ (by rw [List.length_append]; rfl) fun t ht => ?_).symm
  rw [bitAt_z6, pick_get _ _ _ (by rw [code_length]; omega), code_getD l t _ (st_lt v t) ht]
/-- What tells a list is its version. -/
theorem al_pick (p l : List Nat) (v : Nat) (hp : p.length = l.length + 6) (h : al p v (l.length + 6) = l ++ z6) : p = pick (code l) v := by
  refine Bm.ext_getD (by rw [pick_length, code_length, hp]; omega) fun t ht => ?_
  rw [hp] at ht
  rw [pick_get _ _ _ (by rw [code_length]; omega), code_getD l t _ (st_lt v t) ht, ← bitAt_z6, ← h, al_tells p v _ t ht]
end Go.Proofs.YtknfpdlomgllhaaDoor.Cv

namespace Go.Proofs.YtknfpdlomgllhaaDoor.Crc
set_option linter.unusedVariables false

theorem up8_16 : ∀ y, y < 256 → it s16 8 y = y * 256 := by decide +kernel
theorem join16 (x y : Nat) (hy : y < 256) : x * 256 ^^^ y = x * 256 + y := by
  have e := Nat.two_pow_add_eq_or_of_lt (i := 8) (b := y) (by omega) x
  have e2 : x * 256 ||| y = x * 256 ^^^ y := by
    apply Nat.eq_of_testBit_eq
    intro j
    rw [Nat.testBit_xor, Nat.testBit_or]
    by_cases hj : j < 8
    · have : (x * 256).testBit j = false := by
        rw [show x * 256 = 2 ^ 8 * x by omega, Nat.testBit_two_pow_mul]
        simp; omega
      rw [this]; simp
    · have : y.testBit j = false := Nat.testBit_lt_two_pow (Nat.lt_of_lt_of_le hy (Nat.pow_le_pow_right (n := 2) (i := 8) (by decide) (by omega)))
      rw [this]; simp
  rw [← e2, Nat.mul_comm x 256]; exact e.symm
/-- Two bytes behind. -/
theorem tail16 (l : List Nat) (x y : Nat) (hy : y < 256) : r16 (l ++ [x, y]) = it s16 16 (r16 l ^^^ (x * 256 + y)) := by
  have e : l ++ [x, y] = (l ++ [x]) ++ [y] := by simp
  unfold r16
  rw [e, run_snoc, run_snoc]
  unfold tk
  rw [← up8_16 y hy, ← (s16_lin.it 8), ← it_add, Nat.xor_assoc, join16 x y hy]
theorem right16 (l : List Nat) (x y : Nat) (hl : ∀ b ∈ l, b < 256) (hx : x < 256) (hy : y < 256) : r16 (l ++ [x, y]) = 0 ↔ r16 l = x * 256 + y := by
  rw [tail16 l x y hy]
  have h1 := r16_lt l hl
  constructor
  · intro h
    exact Poly.xor_eq_zero _ _ (it16_zero 16 _ (Nat.xor_lt_two_pow (n := 16) h1 (by omega)) h)
  · intro h
    rw [h, Nat.xor_self]; exact (s16_lin.it 16).zero
theorem split2 (bs : List Nat) (h : 2 ≤ bs.length) : bs = bs.take (bs.length - 2) ++ [bs.getD (bs.length - 2) 0, bs.getD (bs.length - 1) 0] := by
  conv => lhs; rw [← List.take_append_drop (bs.length - 2) bs]
  congr 1
  rw [Bm.getD_lt _ _ _ (by omega), Bm.getD_lt _ _ _ (by omega), ← List.getElem_cons_drop (h := by omega)]
  congr 1
  have e : bs.length - 2 + 1 = bs.length - 1 := by omega
  rw [List.drop_eq_getElem_cons (by omega : bs.length - 2 + 1 < bs.length)]
  simp only [e]
  rw [List.drop_of_length_le (by omega)]
/-- Are the last two bytes the sum of those ahead? -/
def ok16 (bs : List Nat) : Bool := decide (2 ≤ bs.length ∧ r16 (bs.take (bs.length - 2)) = bs.getD (bs.length - 2) 0 * 256 + bs.getD (bs.length - 1) 0)
theorem ok16_eq (bs : List Nat) (hb : ∀ b ∈ bs, b < 256) (h : 2 ≤ bs.length) : ok16 bs = decide (r16 bs = 0) := by
  have e := split2 bs h
  have h2 := right16 (bs.take (bs.length - 2)) (bs.getD (bs.length - 2) 0) (bs.getD (bs.length - 1) 0) (fun b hh => hb b (List.mem_of_mem_take hh)) (Bm.byte_lt bs hb _) (Bm.byte_lt bs hb _)
  rw [← e] at h2
  unfold ok16
  rw [Bool.eq_iff_iff]
  simp only [decide_eq_true_eq]
  rw [h2]
  exact ⟨fun h => h.2, fun h3 => ⟨h, h3⟩⟩
/-- Bytes with their sum behind. -/
def seal16 (l : List Nat) : List Nat := l ++ [r16 l / 256, r16 l % 256]
theorem seal16_length (l : List Nat) : (seal16 l).length = l.length + 2 := by simp [seal16]
theorem seal16_lt (l : List Nat) (h : ∀ b ∈ l, b < 256) : ∀ b ∈ seal16 l, b < 256 := by
  intro b hb
  have := r16_lt l h
  simp only [seal16, List.mem_append, List.mem_cons, List.not_mem_nil, or_false] at hb
  rcases hb with hb | rfl | rfl
  · exact h b hb
  · omega
  · omega
theorem seal16_zero (l : List Nat) (h : ∀ b ∈ l, b < 256) : r16 (seal16 l) = 0 := by
  have := r16_lt l h
  exact (right16 l _ _ h (by omega) (by omega)).2 (by omega)

/-- What a byte of which one bit is turned does. -/
theorem flip16 (bs : List Nat) (q r k i : Nat) (hr : r ≤ 7) (hi : i ≤ 15) (h : 8 * q + r = k + i) (hn : k + i < 8 * bs.length) :
    r16 (bs.set q (bs.getD q 0 ^^^ 2 ^ (7 - r))) = r16 bs ^^^ it s16 (8 * bs.length - k) (2 ^ (15 - i)) := by
  have := run_set s16_lin 8 bs q (2 ^ (7 - r)) 65535 (by omega)
  rw [place16 bs.length q r k i hr hi h hn] at this
  exact this
theorem flip32 (bs : List Nat) (q r k i : Nat) (hr : r ≤ 7) (hi : i ≤ 31) (h : 8 * q + r = k + i) (hn : k + i < 8 * bs.length) :
    r32 (bs.set q (bs.getD q 0 ^^^ 2 ^ r)) = r32 bs ^^^ it s32 (8 * bs.length - k) (2 ^ i) := by
  have := run_set s32_lin 0 bs q (2 ^ r) 4294967295 (by omega)
  rw [place32 bs.length q r k i hr hi h hn] at this
  exact this
end Go.Proofs.YtknfpdlomgllhaaDoor.Crc

namespace Go.Proofs.YtknfpdlomgllhaaDoor.Crc
set_option linter.unusedVariables false

theorem dn8 : ∀ y, y < 256 → it s32 8 (y * 256) = y := by decide +kernel
theorem dn16 : ∀ y, y < 256 → it s32 16 (y * 65536) = y := by decide +kernel
theorem dn24 : ∀ y, y < 256 → it s32 24 (y * 16777216) = y := by decide +kernel

/-- The number of the first k bytes, the lowest first. -/
def leTo (l : List Nat) : Nat → Nat
  | 0 => 0
  | k + 1 => leTo l k + l.getD k 0 * 2 ^ (8 * k)
theorem leTo_lt (l : List Nat) (h : ∀ b ∈ l, b < 256) : ∀ k, leTo l k < 2 ^ (8 * k)
  | 0 => by simp [leTo]
  | k + 1 => by
    have h1 := leTo_lt l h k
    have h2 := Bm.byte_lt l h k
    unfold leTo
    have e : 2 ^ (8 * (k + 1)) = 256 * 2 ^ (8 * k) := by rw [Nat.mul_add, Nat.pow_add, Nat.mul_comm]
    have h3 : l.getD k 0 * 2 ^ (8 * k) ≤ 255 * 2 ^ (8 * k) := Nat.mul_le_mul_right _ (by omega)
    omega
theorem add_xor (i a y : Nat) (h : y < 2 ^ i) : y + a * 2 ^ i = y ^^^ a * 2 ^ i := by
  have e := Nat.two_pow_add_eq_or_of_lt h a
  have e2 : a * 2 ^ i ||| y = y ^^^ a * 2 ^ i := by
    apply Nat.eq_of_testBit_eq
    intro j
    rw [Nat.testBit_xor, Nat.testBit_or]
    by_cases hj : j < i
    · have : (a * 2 ^ i).testBit j = false := by
        rw [Nat.mul_comm, Nat.testBit_two_pow_mul]
        simp; omega
      rw [this]; simp
    · have : y.testBit j = false := Nat.testBit_lt_two_pow (Nat.lt_of_lt_of_le h (Nat.pow_le_pow_right (n := 2) (i := i) (by decide) (by omega)))
      rw [this]; simp
  rw [← e2, Nat.mul_comm a, ← e, Nat.add_comm]

/-- Four bytes behind. -/
theorem tail32 (l : List Nat) (a b c d : Nat) (ha : a < 256) (hb : b < 256) (hc : c < 256) (hd : d < 256) : r32 (l ++ [a, b, c, d]) = it s32 32 (r32 l ^^^ leTo [a, b, c, d] 4) := by
  have e : l ++ [a, b, c, d] = ((((l ++ [a]) ++ [b]) ++ [c]) ++ [d]) := by simp
  have hv : leTo [a, b, c, d] 4 = a ^^^ b * 256 ^^^ c * 65536 ^^^ d * 16777216 := by
    show 0 + a * 2 ^ 0 + b * 2 ^ 8 + c * 2 ^ 16 + d * 2 ^ 24 = _
    rw [add_xor 24 d _ (by omega), add_xor 16 c _ (by omega), add_xor 8 b _ (by omega)]
    simp
  rw [hv]
  unfold r32
  rw [e, run_snoc, run_snoc, run_snoc, run_snoc]
  generalize run s32 1 4294967295 l = s
  unfold tk
  simp only [Nat.mul_one]
  have e1 : it s32 8 (s ^^^ a) ^^^ b = it s32 8 (s ^^^ a ^^^ b * 256) := by rw [s32_lin.it 8 (s ^^^ a), dn8 b hb]
  have e2 : it s32 8 (it s32 8 (s ^^^ a ^^^ b * 256)) ^^^ c = it s32 16 (s ^^^ a ^^^ b * 256 ^^^ c * 65536) := by
    rw [← it_add, s32_lin.it 16 (s ^^^ a ^^^ b * 256), dn16 c hc]
  have e3 : it s32 8 (it s32 16 (s ^^^ a ^^^ b * 256 ^^^ c * 65536)) ^^^ d = it s32 24 (s ^^^ a ^^^ b * 256 ^^^ c * 65536 ^^^ d * 16777216) := by
    rw [← it_add, s32_lin.it 24 (s ^^^ a ^^^ b * 256 ^^^ c * 65536), dn24 d hd]
  have e4 : s ^^^ a ^^^ b * 256 ^^^ c * 65536 ^^^ d * 16777216 = s ^^^ (a ^^^ b * 256 ^^^ c * 65536 ^^^ d * 16777216) := by simp only [Nat.xor_assoc]
  rw [e1, e2, e3, e4]
  exact (it_add s32 24 8 _).symm

/-- What the register is behind whatever is closed. -/
def key : Nat := it s32 32 4294967295
theorem inj32 (n a b : Nat) (ha : a < 4294967296) (hb : b < 4294967296) (h : it s32 n a = it s32 n b) : a = b := by
  apply Poly.xor_eq_zero
  refine it32_zero n _ (Nat.xor_lt_two_pow (n := 32) ha hb) ?_
  rw [s32_lin.it n, h, Nat.xor_self]
theorem full_xor (r v : Nat) : 4294967295 ^^^ r = v ↔ r ^^^ v = 4294967295 := by
  constructor
  · intro h; rw [← h, Nat.xor_comm, Nat.xor_assoc, Nat.xor_self, Nat.xor_zero]
  · intro h; rw [← h, Nat.xor_comm, ← Nat.xor_assoc, Nat.xor_self, Nat.zero_xor]
theorem right32 (l : List Nat) (a b c d : Nat) (hl : ∀ b ∈ l, b < 256) (ha : a < 256) (hb : b < 256) (hc : c < 256) (hd : d < 256) : r32 (l ++ [a, b, c, d]) = key ↔ c32 l = leTo [a, b, c, d] 4 := by
  have h4 : ∀ x ∈ [a, b, c, d], x < 256 := by intro x hx; simp at hx; omega
  have hv := leTo_lt [a, b, c, d] h4 4
  rw [tail32 l a b c d ha hb hc hd, c32, full_xor]
  constructor
  · intro h; exact inj32 32 _ _ (Nat.xor_lt_two_pow (n := 32) (r32_lt l hl) hv) (by decide) h
  · intro h; rw [h]; rfl
theorem split4 (bs : List Nat) (h : 4 ≤ bs.length) : ∃ a b c d, bs.drop (bs.length - 4) = [a, b, c, d] := by
  have hl : (bs.drop (bs.length - 4)).length = 4 := by simp; omega
  match hd : bs.drop (bs.length - 4), hl with
  | [a, b, c, d], _ => exact ⟨a, b, c, d, rfl⟩
/-- Are the last four bytes the sum of those ahead? -/
def ok32 (bs : List Nat) : Bool := decide (4 ≤ bs.length ∧ c32 (bs.take (bs.length - 4)) = leTo (bs.drop (bs.length - 4)) 4)
theorem ok32_eq (bs : List Nat) (hb : ∀ b ∈ bs, b < 256) (h : 4 ≤ bs.length) : ok32 bs = decide (r32 bs = key) := by
  obtain ⟨a, b, c, d, e⟩ := split4 bs h
  have h4 : ∀ x ∈ [a, b, c, d], x < 256 := fun x hx => hb x (List.mem_of_mem_drop (by rw [e]; exact hx))
  have h2 := right32 (bs.take (bs.length - 4)) a b c d (fun b hh => hb b (List.mem_of_mem_take hh)) (h4 a (by simp)) (h4 b (by simp)) (h4 c (by simp)) (h4 d (by simp))
  rw [← e, List.take_append_drop] at h2
  unfold ok32
  rw [Bool.eq_iff_iff]
  simp only [decide_eq_true_eq]
  rw [h2]
  exact ⟨fun h => h.2, fun h3 => ⟨h, h3⟩⟩
/-- A number's four bytes, the lowest first. -/
def le4 (s : Nat) : List Nat := [s % 256, s / 256 % 256, s / 65536 % 256, s / 16777216 % 256]
theorem le4_lt (s : Nat) : ∀ x ∈ le4 s, x < 256 := by intro x hx; simp [le4] at hx; omega
theorem leTo_le4 (s : Nat) (hs : s < 4294967296) : leTo (le4 s) 4 = s := by
  show 0 + s % 256 * 2 ^ 0 + s / 256 % 256 * 2 ^ 8 + s / 65536 % 256 * 2 ^ 16 + s / 16777216 % 256 * 2 ^ 24 = s
  omega
theorem le4_take (s k : Nat) (h : k < 4) : (le4 s).take (k + 1) = (le4 s).take k ++ [s / 2 ^ (8 * k) % 256] := by
  match k, h with
  | 0, _ => simp [le4]
  | 1, _ => simp [le4]
  | 2, _ => simp [le4]
  | 3, _ => simp [le4]
/-- Bytes with their sum behind. -/
def close32 (l : List Nat) : List Nat := l ++ le4 (c32 l)
theorem close32_length (l : List Nat) : (close32 l).length = l.length + 4 := by simp [close32, le4]
theorem close32_lt (l : List Nat) (h : ∀ b ∈ l, b < 256) : ∀ b ∈ close32 l, b < 256 := by
  intro b hb
  rcases List.mem_append.1 hb with hb | hb
  · exact h b hb
  · exact le4_lt _ b hb
theorem close32_key (l : List Nat) (h : ∀ b ∈ l, b < 256) : r32 (close32 l) = key := by
  have h4 := le4_lt (c32 l)
  refine (right32 l _ _ _ _ h ?_ ?_ ?_ ?_).2 ?_
  · exact h4 _ (by simp [le4])
  · exact h4 _ (by simp [le4])
  · exact h4 _ (by simp [le4])
  · exact h4 _ (by simp [le4])
  · exact (leTo_le4 _ (c32_lt l h)).symm
theorem close32_take (l : List Nat) : (close32 l).take ((close32 l).length - 4) = l := by
  rw [close32_length, Nat.add_sub_cancel]; simp [close32]
end Go.Proofs.YtknfpdlomgllhaaDoor.Crc

namespace Go.Proofs.YtknfpdlomgllhaaDoor.Crc
set_option linter.unusedVariables false

/-- The bits of a byte, the lowest first. -/
def lo8 (x : Nat) : List Nat := [x % 2, x / 2 % 2, x / 4 % 2, x / 8 % 2, x / 16 % 2, x / 32 % 2, x / 64 % 2, x / 128 % 2]
/-- The bits of bytes, of each the lowest first. -/
def lo (bs : List Nat) : List Nat := bs.flatMap lo8
theorem lo_length (bs : List Nat) : (lo bs).length = 8 * bs.length := by
  induction bs with
  | nil => rfl
  | cons x bs ih =>
    show (lo8 x ++ lo bs).length = _
    rw [List.length_append, ih, List.length_cons]
    show 8 + _ = _
    omega
theorem lo_snoc (bs : List Nat) (b : Nat) : lo (bs ++ [b]) = lo bs ++ lo8 b := by simp [lo]
theorem lo_take (bs : List Nat) (k : Nat) (h : k < bs.length) : lo (bs.take (k + 1)) = lo (bs.take k) ++ lo8 (bs.getD k 0) := by
  rw [List.take_succ_eq_append_getElem h, lo_snoc, Bm.getD_lt _ _ _ h]
theorem lo8_all (b : Nat) : (lo8 b).take 8 = lo8 b := rfl
theorem lo8_take (b k : Nat) (h : k < 8) : (lo8 b).take (k + 1) = (lo8 b).take k ++ [b / 2 ^ k % 2] := by
  match k, h with
  | 0, _ => simp [lo8]
  | 1, _ => simp [lo8]
  | 2, _ => simp [lo8]
  | 3, _ => simp [lo8]
  | 4, _ => simp [lo8]
  | 5, _ => simp [lo8]
  | 6, _ => simp [lo8]
  | 7, _ => simp [lo8]
theorem lo_bit (bs : List Nat) : ∀ x ∈ lo bs, x ≤ 1 := by
  intro x hx
  simp only [lo, List.mem_flatMap] at hx
  obtain ⟨b, _, hb⟩ := hx
  simp only [lo8, List.mem_cons, List.not_mem_nil, or_false] at hb
  omega

/-- The register takes a bit. -/
def ub (s x : Nat) : Nat := s32 (s ^^^ x)
/-- The register behind bits. -/
def tb (l : List Nat) : Nat := l.foldl ub 4294967295
theorem tb_snoc (l : List Nat) (x : Nat) : tb (l ++ [x]) = ub (tb l) x := by simp [tb]
theorem ub_lo8 (s x : Nat) : ∀ k, k ≤ 8 → ((lo8 x).take k).foldl ub s = it s32 k (s ^^^ low32 x k)
  | 0, _ => by show s = s ^^^ 0; simp
  | k + 1, h => by
    rw [lo8_take x k (by omega), List.foldl_append, ub_lo8 s x k (by omega)]
    show s32 (it s32 k (s ^^^ low32 x k) ^^^ x / 2 ^ k % 2) = _
    have e : x / 2 ^ k % 2 = it s32 k ((x / 2 ^ k % 2) * 2 ^ k) := by
      have hb : x / 2 ^ k % 2 = 0 ∨ x / 2 ^ k % 2 = 1 := by omega
      rcases hb with e | e <;> rw [e]
      · rw [Nat.zero_mul, (s32_lin.it k).zero]
      · rw [Nat.one_mul, up32 k (by omega)]
    conv => lhs; rw [e]
    rw [← s32_lin.it k, ← it_succ s32 k, Nat.xor_assoc]
    rfl
theorem tb_lo (bs : List Nat) (hb : ∀ b ∈ bs, b < 256) : tb (lo bs) = r32 bs := by
  suffices h : ∀ (bs : List Nat) (s : Nat), (∀ b ∈ bs, b < 256) → (lo bs).foldl ub s = run s32 1 s bs from h bs _ hb
  intro bs
  induction bs with
  | nil => intro s _; rfl
  | cons x bs ih =>
    intro s h
    show (lo8 x ++ lo bs).foldl ub s = _
    rw [List.foldl_append, run_cons, ← ih _ (fun b hb => h b (List.mem_cons_of_mem _ hb))]
    congr 1
    have := ub_lo8 s x 8 (by omega)
    rw [lo8_all, low32_eq, Nat.mod_eq_of_lt (show x < 2 ^ 8 from h x List.mem_cons_self)] at this
    rw [this]
    unfold tk
    rw [Nat.mul_one]

/-- Bits from a place on, as a number, the first the lowest. -/
def win (l : List Nat) (i : Nat) : Nat → Nat
  | 0 => 0
  | k + 1 => win l i k ^^^ l.getD (i + k) 0 * 2 ^ k
theorem win_lt (l : List Nat) (hl : ∀ x ∈ l, x ≤ 1) (i : Nat) : ∀ k, win l i k < 2 ^ k
  | 0 => by simp [win]
  | k + 1 => by
    have h1 := win_lt l hl i k
    have h2 := Bm.bit_le l hl (i + k)
    have e : 2 ^ (k + 1) = 2 * 2 ^ k := by rw [Nat.pow_succ, Nat.mul_comm]
    refine Nat.xor_lt_two_pow (n := k + 1) (by omega) ?_
    have : l.getD (i + k) 0 * 2 ^ k ≤ 1 * 2 ^ k := Nat.mul_le_mul_right _ h2
    omega
theorem win_add (l : List Nat) (hl : ∀ x ∈ l, x ≤ 1) (i k : Nat) : win l i (k + 1) = win l i k + l.getD (i + k) 0 * 2 ^ k :=
  (add_xor k _ _ (win_lt l hl i k)).symm
theorem s32_pow (k : Nat) : s32 (2 ^ (k + 1)) = 2 ^ k := by
  unfold s32
  rw [if_neg (by rw [Nat.pow_succ]; omega), Nat.pow_succ]; omega
theorem s32_bit_pow (x k : Nat) (hx : x ≤ 1) : s32 (x * 2 ^ (k + 1)) = x * 2 ^ k := by
  have : x = 0 ∨ x = 1 := by omega
  rcases this with rfl | rfl
  · simp [s32_lin.zero]
  · rw [Nat.one_mul, Nat.one_mul, s32_pow]
theorem s32_bit (x : Nat) (hx : x ≤ 1) : s32 x = x * 3988292384 := by
  have : x = 0 ∨ x = 1 := by omega
  rcases this with rfl | rfl
  · simp [s32_lin.zero]
  · decide
/-- A step takes the first bit off. -/
theorem s32_win (l : List Nat) (hl : ∀ x ∈ l, x ≤ 1) (i : Nat) : ∀ k, s32 (win l i (k + 1)) = l.getD i 0 * 3988292384 ^^^ win l (i + 1) k
  | 0 => by
    show s32 (0 ^^^ l.getD (i + 0) 0 * 2 ^ 0) = _ ^^^ 0
    rw [Nat.zero_xor, Nat.pow_zero, Nat.mul_one, Nat.xor_zero, Nat.add_zero]
    exact s32_bit _ (Bm.bit_le l hl i)
  | k + 1 => by
    show s32 (win l i (k + 1) ^^^ l.getD (i + (k + 1)) 0 * 2 ^ (k + 1)) = _ ^^^ (win l (i + 1) k ^^^ l.getD (i + 1 + k) 0 * 2 ^ k)
    rw [s32_lin, s32_win l hl i k, s32_bit_pow _ _ (Bm.bit_le l hl _), Nat.xor_assoc, show i + (k + 1) = i + 1 + k by omega]

/-- The polynomial's coefficients, the highest first. -/
def pcL : List Nat := [1, 0, 0, 0, 0, 0, 1, 0, 0, 1, 1, 0, 0, 0, 0, 0, 1, 0, 0, 0, 1, 1, 1, 0, 1, 1, 0, 1, 1, 0, 1, 1, 1]
theorem pcL_bit : ∀ x ∈ pcL, x ≤ 1 := by decide
theorem pcL_win : win pcL 1 32 = 3988292384 := by decide

/-- The first k coefficients are taken away from place i on. -/
def dv (l : List Nat) (i k : Nat) : List Nat := (List.range l.length).map fun j => if i ≤ j ∧ j < i + k then l.getD j 0 ^^^ pcL.getD (j - i) 0 else l.getD j 0
theorem dv_length (l : List Nat) (i k : Nat) : (dv l i k).length = l.length := by simp [dv]
theorem dv_getD (l : List Nat) (i k j : Nat) (h : j < l.length) : (dv l i k).getD j 0 = if i ≤ j ∧ j < i + k then l.getD j 0 ^^^ pcL.getD (j - i) 0 else l.getD j 0 := by
  simp [dv, List.getD, h]
theorem dv_zero (l : List Nat) (i : Nat) : dv l i 0 = l := by
  apply Bm.ext_getD (dv_length l i 0)
  intro j hj
  rw [dv_length] at hj
  rw [dv_getD l i 0 j hj, if_neg (by omega)]
theorem dv_succ (l : List Nat) (i k : Nat) (h : i + k < l.length) : dv l i (k + 1) = (dv l i k).set (i + k) ((dv l i k).getD (i + k) 0 ^^^ pcL.getD k 0) := by
  apply Bm.ext_getD (by rw [dv_length, List.length_set, dv_length])
  intro j hj
  rw [dv_length] at hj
  rw [Bm.set_getD _ _ _ _ (by rw [dv_length]; exact h), dv_getD l i (k + 1) j hj, dv_getD l i k j hj, dv_getD l i k (i + k) h]
  by_cases hjk : i + k = j
  · subst hjk
    rw [if_pos (show i ≤ i + k ∧ i + k < i + (k + 1) by omega), if_pos rfl, if_neg (by omega), show i + k - i = k by omega]
  · rw [if_neg hjk]
    by_cases h2 : i ≤ j ∧ j < i + k
    · rw [if_pos (by omega), if_pos h2]
    · rw [if_neg (by omega), if_neg h2]
theorem xor_bit (a b : Nat) (ha : a ≤ 1) (hb : b ≤ 1) : a ^^^ b ≤ 1 := by
  have := Nat.xor_lt_two_pow (n := 1) (x := a) (y := b) (by omega) (by omega)
  omega
theorem dv_bit (l : List Nat) (hl : ∀ x ∈ l, x ≤ 1) (i k : Nat) : ∀ x ∈ dv l i k, x ≤ 1 := by
  intro x hx
  simp only [dv, List.mem_map, List.mem_range] at hx
  obtain ⟨j, _, rfl⟩ := hx
  split
  · exact xor_bit _ _ (Bm.bit_le l hl j) (Bm.bit_le pcL pcL_bit _)
  · exact Bm.bit_le l hl j
theorem dv_win (l : List Nat) (i : Nat) (h : i + 33 ≤ l.length) : ∀ k, k ≤ 32 → win (dv l i 33) (i + 1) k = win l (i + 1) k ^^^ win pcL 1 k
  | 0, _ => by simp [win]
  | k + 1, hk => by
    show win (dv l i 33) (i + 1) k ^^^ (dv l i 33).getD (i + 1 + k) 0 * 2 ^ k = (win l (i + 1) k ^^^ l.getD (i + 1 + k) 0 * 2 ^ k) ^^^ (win pcL 1 k ^^^ pcL.getD (1 + k) 0 * 2 ^ k)
    rw [dv_win l i h k (by omega), dv_getD l i 33 _ (by omega), if_pos (by omega), mul_pow_xor, show i + 1 + k - i = 1 + k by omega, xor_swap]

/-- What holds at place i of the division: the bits ahead of it are as they were, and the window is told by the register. -/
structure Dvd (L X : List Nat) (i : Nat) : Prop where
  len : X.length = L.length
  bit : ∀ x ∈ X, x ≤ 1
  beyond : ∀ j, i + 32 ≤ j → X.getD j 0 = L.getD j 0
  window : win X i 32 = tb (L.take i) ^^^ win L i 32
theorem Dvd.next {L X : List Nat} {i : Nat} (h : Dvd L X i) (hL : ∀ x ∈ L, x ≤ 1) (hi : i + 32 < L.length) : Dvd L (if X.getD i 0 = 0 then X else dv X i 33) (i + 1) := by
  have hx := Bm.bit_le X h.bit i
  have h1 := s32_win X h.bit i 31
  have h2 := s32_win L hL i 31
  have h3 : X.getD (i + 1 + 31) 0 = L.getD (i + 1 + 31) 0 := h.beyond _ (by omega)
  have hw : win X (i + 1) 32 ^^^ X.getD i 0 * 3988292384 = tb (L.take (i + 1)) ^^^ win L (i + 1) 32 := by
    have e1 : win X (i + 1) 32 = win X (i + 1) 31 ^^^ X.getD (i + 1 + 31) 0 * 2 ^ 31 := rfl
    have e2 : win L (i + 1) 32 = win L (i + 1) 31 ^^^ L.getD (i + 1 + 31) 0 * 2 ^ 31 := rfl
    have e3 : tb (L.take (i + 1)) = s32 (tb (L.take i)) ^^^ L.getD i 0 * 3988292384 := by
      rw [List.take_succ_eq_append_getElem (by omega), tb_snoc, ← Bm.getD_lt L 0 i (by omega)]
      show s32 _ = _
      rw [s32_lin, s32_bit _ (Bm.bit_le L hL i)]
    have e4 : X.getD i 0 * 3988292384 ^^^ win X (i + 1) 31 = s32 (tb (L.take i)) ^^^ (L.getD i 0 * 3988292384 ^^^ win L (i + 1) 31) := by
      rw [← h1, ← h2, ← s32_lin, ← h.window]
    rw [e1, e2, e3, h3, Nat.xor_assoc, Nat.xor_comm (_ * 2 ^ 31), ← Nat.xor_assoc, Nat.xor_comm (win X (i + 1) 31), e4]
    simp only [Nat.xor_assoc]
  split
  · rename_i h0
    rw [h0, Nat.zero_mul, Nat.xor_zero] at hw
    exact ⟨h.len, h.bit, fun j hj => h.beyond j (by omega), hw⟩
  · rename_i h0
    have h5 : X.getD i 0 = 1 := by omega
    have hl := h.len
    rw [h5, Nat.one_mul] at hw
    refine ⟨by rw [dv_length]; exact h.len, dv_bit X h.bit i 33, fun j hj => ?_, ?_⟩
    · by_cases hjl : j < X.length
      · rw [dv_getD X i 33 j hjl, if_neg (by omega)]; exact h.beyond j (by omega)
      · rw [Bm.getD_ge _ _ _ (by rw [dv_length]; omega), Bm.getD_ge _ _ _ (by omega)]
    · rw [dv_win X i (by omega) 32 (Nat.le_refl _), pcL_win]; exact hw

/-- The list that is divided: the bits, and thirty-two noughts. -/
def lz (bs : List Nat) : List Nat := lo bs ++ List.replicate 32 0
theorem lz_length (bs : List Nat) : (lz bs).length = 8 * bs.length + 32 := by simp [lz, lo_length]
theorem lz_bit (bs : List Nat) : ∀ x ∈ lz bs, x ≤ 1 := by
  intro x hx
  rcases List.mem_append.1 hx with h | h
  · exact lo_bit bs x h
  · have := List.eq_of_mem_replicate h; omega
theorem trn_win (L : List Nat) (h : 32 ≤ L.length) : ∀ k, k ≤ 32 → win (Bm.trn L (Bm.allTo 32)) 0 k = (2 ^ k - 1) ^^^ win L 0 k
  | 0, _ => by simp [win]
  | k + 1, hk => by
    show win (Bm.trn L (Bm.allTo 32)) 0 k ^^^ (Bm.trn L (Bm.allTo 32)).getD (0 + k) 0 * 2 ^ k = _ ^^^ (win L 0 k ^^^ L.getD (0 + k) 0 * 2 ^ k)
    rw [trn_win L h k (by omega), Nat.zero_add, Bm.trn_getD L _ k (by omega), Bm.tgl_allTo, if_pos (by omega), mul_pow_xor, Nat.one_mul]
    have e : 2 ^ (k + 1) - 1 = (2 ^ k - 1) ^^^ 2 ^ k := by
      have := pow_xor k (2 ^ k - 1) (by have := Nat.two_pow_pos k; omega)
      rw [Nat.xor_comm, this, Nat.pow_succ]
      have := Nat.two_pow_pos k
      omega
    rw [e, Nat.xor_comm (L.getD k 0 * 2 ^ k), xor_swap]
theorem Dvd.start (L : List Nat) (hL : ∀ x ∈ L, x ≤ 1) (h : 32 ≤ L.length) : Dvd L (Bm.trn L (Bm.allTo 32)) 0 := by
  refine ⟨Bm.trn_length _ _, ?_, fun j hj => ?_, ?_⟩
  · intro x hx
    have := Bm.trn_lt 1 (by omega) L (Bm.allTo 32) (fun y hy => by have := hL y hy; omega) x hx
    omega
  · by_cases hjl : j < L.length
    · rw [Bm.trn_getD L _ j hjl, Bm.tgl_allTo, if_neg (by omega)]
    · rw [Bm.getD_ge _ _ _ (by rw [Bm.trn_length]; omega), Bm.getD_ge _ _ _ (by omega)]
  · exact trn_win L h 32 (Nat.le_refl _)
theorem Dvd.stop {bs X : List Nat} (h : Dvd (lz bs) X (8 * bs.length)) (hb : ∀ b ∈ bs, b < 256) : win X (8 * bs.length) 32 = r32 bs := by
  have h0 : ∀ k, win (lz bs) (8 * bs.length) k = 0 := by
    intro k
    induction k with
    | zero => rfl
    | succ k ih =>
      show win (lz bs) (8 * bs.length) k ^^^ (lz bs).getD (8 * bs.length + k) 0 * 2 ^ k = 0
      have e : (lz bs).getD (8 * bs.length + k) 0 = 0 := by
        unfold lz
        rw [Bm.getD_right _ _ _ _ (by rw [lo_length]; omega)]
        by_cases hk : 8 * bs.length + k - (lo bs).length < 32
        · rw [Bm.getD_lt _ _ _ (by rw [List.length_replicate]; exact hk), List.getElem_replicate]
        · rw [Bm.getD_ge _ _ _ (by rw [List.length_replicate]; omega)]
      rw [ih, e]; simp
  rw [h.window, h0, Nat.xor_zero]
  have e : (lz bs).take (8 * bs.length) = lo bs := by
    unfold lz
    rw [← lo_length, List.take_left]
  rw [e, tb_lo bs hb]
end Go.Proofs.YtknfpdlomgllhaaDoor.Crc
