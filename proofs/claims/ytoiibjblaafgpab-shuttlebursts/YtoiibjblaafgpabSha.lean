/-
  The places of a list that is read column by column. No program.
-/
import Derived.Test.YtoiibjblaafgpabBm
namespace Go.Proofs.Ytoiibjblaafgpab
namespace Sh

/-- How many places of column c are ahead of n. -/
def colN (n wide c : Nat) : Nat := (n + wide - 1 - c) / wide
theorem lt_colN {n wide c r : Nat} (hc : c < wide) : r < colN n wide c ↔ r * wide + c < n := by
  unfold colN
  rw [← Nat.succ_le_iff, Nat.le_div_iff_mul_le (by omega), Nat.succ_mul]
  omega
/-- The places of column c. -/
def col (n wide c : Nat) : List Nat := (List.range (colN n wide c)).map fun r => r * wide + c
/-- The places of the first m columns. -/
def cols (n wide m : Nat) : List Nat := (List.range m).flatMap (col n wide)
/-- The places of all columns. -/
def ordl (n wide : Nat) : List Nat := cols n wide wide
theorem cols_succ (n wide m : Nat) : cols n wide (m + 1) = cols n wide m ++ col n wide m := by
  unfold cols
  rw [List.range_succ, List.flatMap_append]; simp
theorem mem_col {n wide c p : Nat} (hc : c < wide) : p ∈ col n wide c ↔ p < n ∧ p % wide = c := by
  unfold col
  rw [List.mem_map]
  constructor
  · rintro ⟨r, hr, rfl⟩
    rw [List.mem_range, lt_colN hc] at hr
    refine ⟨hr, ?_⟩
    rw [Nat.mul_comm, Nat.mul_add_mod, Nat.mod_eq_of_lt hc]
  · rintro ⟨hp, rfl⟩
    have e : p / wide * wide + p % wide = p := by rw [Nat.mul_comm]; exact Nat.div_add_mod p wide
    exact ⟨p / wide, by rw [List.mem_range, lt_colN hc, e]; exact hp, e⟩
theorem mem_cols {n wide m p : Nat} (hm : m ≤ wide) : p ∈ cols n wide m ↔ p < n ∧ p % wide < m := by
  unfold cols
  rw [List.mem_flatMap]
  constructor
  · rintro ⟨c, hc, hp⟩
    rw [List.mem_range] at hc
    rw [mem_col (by omega)] at hp
    exact ⟨hp.1, by omega⟩
  · rintro ⟨h1, h2⟩
    exact ⟨p % wide, List.mem_range.2 h2, (mem_col (by omega)).2 ⟨h1, rfl⟩⟩
theorem mem_ordl {n wide p : Nat} (hw : 0 < wide) : p ∈ ordl n wide ↔ p < n := by
  unfold ordl
  rw [mem_cols (Nat.le_refl _)]
  exact ⟨fun h => h.1, fun h => ⟨h, Nat.mod_lt _ hw⟩⟩
theorem nodup_col {n wide c : Nat} (hc : c < wide) : (col n wide c).Nodup := by
  unfold col List.Nodup
  rw [List.pairwise_map]
  refine List.Pairwise.imp ?_ (List.nodup_range (n := colN n wide c))
  intro a b hab e
  apply hab
  have h : a * wide = b * wide := by omega
  exact Nat.eq_of_mul_eq_mul_right (by omega) h
theorem nodup_cols {n wide m : Nat} (hm : m ≤ wide) : (cols n wide m).Nodup := by
  induction m with
  | zero => exact List.nodup_nil
  | succ m ih =>
    rw [cols_succ]
    rw [List.nodup_append]
    refine ⟨ih (by omega), nodup_col (by omega), ?_⟩
    intro a ha b hb e
    rw [mem_cols (by omega)] at ha
    rw [mem_col (by omega)] at hb
    rw [e] at ha
    omega
theorem nodup_ordl (n wide : Nat) : (ordl n wide).Nodup := nodup_cols (Nat.le_refl _)
theorem len_of_mem : ∀ (n : Nat) (l : List Nat), l.Nodup → (∀ p, p ∈ l ↔ p < n) → l.length = n
  | 0, l, _, hm => by
    cases l with
    | nil => rfl
    | cons x l => have := (hm x).1 List.mem_cons_self; omega
  | n + 1, l, hn, hm => by
    have h1 : n ∈ l := (hm n).2 (by omega)
    have h2 : (l.erase n).length = n := len_of_mem n (l.erase n) (hn.erase n) (fun p => by
      rw [hn.mem_erase_iff, hm p]; omega)
    rw [List.length_erase_of_mem h1] at h2
    have : 0 < l.length := List.length_pos_of_mem h1
    omega
theorem ordl_length {n wide : Nat} (hw : 0 < wide) : (ordl n wide).length = n := len_of_mem n _ (nodup_ordl n wide) (fun _ => mem_ordl hw)
theorem cols_length_le {n wide m : Nat} (hm : m ≤ wide) (hw : 0 < wide) : (cols n wide m).length ≤ n := by
  have hp : ∀ k, cols n wide m <+: cols n wide (m + k) := by
    intro k
    induction k with
    | zero => exact List.prefix_refl _
    | succ k ih => exact ih.trans (by rw [← Nat.add_assoc, cols_succ]; exact List.prefix_append _ _)
  have h2 := hp (wide - m)
  rw [show m + (wide - m) = wide by omega] at h2
  have h3 := ordl_length (n := n) hw
  have h4 := h2.length_le
  unfold ordl at h3
  omega
/-- A list in that order. -/
def puts (O : List Nat) (l : List Nat) : List Nat := O.map fun p => l.getD p 0
theorem puts_length (O l : List Nat) : (puts O l).length = O.length := by simp [puts]
theorem puts_get (O l : List Nat) (k : Nat) (hk : k < O.length) : (puts O l).getD k 0 = l.getD (O.getD k 0) 0 := by
  unfold puts
  rw [Bm.getD_lt _ _ _ (by simpa using hk), List.getElem_map, Bm.getD_lt O 0 k hk]
/-- All that a row of places is. -/
structure Ord (n : Nat) (O : List Nat) : Prop where
  len : O.length = n
  nodup : O.Nodup
  mem : ∀ p, p ∈ O ↔ p < n
theorem ord_ordl {n wide : Nat} (hw : 0 < wide) : Ord n (ordl n wide) := ⟨ordl_length hw, nodup_ordl n wide, fun _ => mem_ordl hw⟩
theorem Ord.lt {n : Nat} {O : List Nat} (h : Ord n O) (k : Nat) (hk : k < n) : O.getD k 0 < n := by
  rw [← h.mem, Bm.getD_lt _ _ _ (by rw [h.len]; exact hk)]
  exact List.getElem_mem _
theorem Ord.hit {n : Nat} {O : List Nat} (h : Ord n O) (p : Nat) (hp : p < n) : ∃ k, k < n ∧ O.getD k 0 = p := by
  obtain ⟨k, hk, e⟩ := List.getElem_of_mem ((h.mem p).2 hp)
  exact ⟨k, by rw [← h.len]; exact hk, by rw [Bm.getD_lt _ _ _ hk]; exact e⟩
theorem Ord.inj {n : Nat} {O : List Nat} (h : Ord n O) (j k : Nat) (hj : j < n) (hk : k < n) (e : O.getD j 0 = O.getD k 0) : j = k := by
  rw [← h.len] at hj hk
  rw [Bm.getD_lt _ _ _ hj, Bm.getD_lt _ _ _ hk] at e
  exact (List.getElem_inj h.nodup).1 e
/-- In the midst of 't[O[k]] = l[k]'. -/
structure Tk (n : Nat) (O l T : List Nat) (k : Nat) : Prop where
  len : T.length = n
  at_ : ∀ j, j < k → T.getD (O.getD j 0) 0 = l.getD j 0
theorem Tk.step {n : Nat} {O l T : List Nat} {k : Nat} (h : Tk n O l T k) (ho : Ord n O) (hk : k < n) : Tk n O l (T.set (O.getD k 0) (l.getD k 0)) (k + 1) := by
  refine ⟨by rw [List.length_set]; exact h.len, fun j hj => ?_⟩
  have hl : O.getD j 0 < (T.set (O.getD k 0) (l.getD k 0)).length := by rw [List.length_set, h.len]; exact ho.lt j (by omega)
  rw [Bm.getD_lt _ _ _ hl, List.getElem_set]
  by_cases e : O.getD k 0 = O.getD j 0
  · rw [if_pos e, ho.inj _ _ hk (by omega) e]
  · rw [if_neg e, ← Bm.getD_lt T 0 (O.getD j 0) (by rw [h.len]; exact ho.lt j (by omega))]
    refine h.at_ j ?_
    by_cases hjk : j = k
    · subst hjk; exact absurd rfl e
    · omega
theorem ext_getD {a b : List Nat} (hl : a.length = b.length) (h : ∀ p, p < a.length → a.getD p 0 = b.getD p 0) : a = b := by
  refine List.ext_getElem hl (fun i h1 h2 => ?_)
  have := h i h1
  rw [Bm.getD_lt _ _ _ h1, Bm.getD_lt _ _ _ h2] at this
  exact this
theorem Tk.uniq {n : Nat} {O l T T' : List Nat} (h : Tk n O l T n) (h' : Tk n O l T' n) (ho : Ord n O) : T = T' := by
  refine ext_getD (h.len.trans h'.len.symm) (fun p hp => ?_)
  rw [h.len] at hp
  obtain ⟨k, hk, rfl⟩ := ho.hit p hp
  rw [h.at_ k hk, h'.at_ k hk]
/-- What is taken of what was put. -/
theorem Tk.put {n : Nat} {O l T : List Nat} (ho : Ord n O) (hl : l.length = n) (h : Tk n O (puts O l) T n) : T = l := by
  refine ext_getD (h.len.trans hl.symm) (fun p hp => ?_)
  rw [h.len] at hp
  obtain ⟨k, hk, rfl⟩ := ho.hit p hp
  rw [h.at_ k hk, puts_get _ _ _ (by rw [ho.len]; exact hk)]
/-- What is put of what was taken. -/
theorem Tk.take {n : Nat} {O l T : List Nat} (ho : Ord n O) (hl : l.length = n) (h : Tk n O l T n) : puts O T = l := by
  refine ext_getD (by rw [puts_length, ho.len, hl]) (fun p hp => ?_)
  rw [puts_length, ho.len] at hp
  rw [puts_get _ _ _ (by rw [ho.len]; exact hp), h.at_ p hp]
theorem puts_take (O l : List Nat) (k : Nat) (hk : k < O.length) : (puts O l).take (k + 1) = (puts O l).take k ++ [l.getD (O.getD k 0) 0] := by
  rw [List.take_succ_eq_append_getElem (by rw [puts_length]; exact hk), ← puts_get O l k hk, Bm.getD_lt _ _ _ (by rw [puts_length]; exact hk)]
/-- The difference. -/
def ds (a b : Nat) : Nat := (a - b) + (b - a)
/-- The least difference of neighbours, of the first k ones; n, if there are none. -/
def apm (A : List Nat) (n : Nat) : Nat → Nat
  | 0 => n
  | k + 1 => min (apm A n k) (ds (A.getD k 0) (A.getD (k + 1) 0))
/-- Where each place goes: what is taken of the numbers from 0 on. -/
structure Wh (n : Nat) (O A : List Nat) : Prop where
  tk : Tk n O (List.range n) A n
theorem Wh.at_ {n : Nat} {O A : List Nat} (h : Wh n O A) (k : Nat) (hk : k < n) : A.getD (O.getD k 0) 0 = k := by
  rw [h.tk.at_ k hk, Bm.getD_lt _ _ _ (by simpa using hk), List.getElem_range]
theorem Wh.lt {n : Nat} {O A : List Nat} (h : Wh n O A) (ho : Ord n O) (p : Nat) (hp : p < n) : A.getD p 0 < n := by
  obtain ⟨k, hk, rfl⟩ := ho.hit p hp
  rw [h.at_ k hk]; exact hk
theorem Wh.ds {n : Nat} {O A : List Nat} (h : Wh n O A) (ho : Ord n O) (p : Nat) (hp : p + 1 < n) : 1 ≤ ds (A.getD p 0) (A.getD (p + 1) 0) ∧ ds (A.getD p 0) (A.getD (p + 1) 0) < n := by
  obtain ⟨k, hk, e1⟩ := ho.hit p (by omega)
  obtain ⟨j, hj, e2⟩ := ho.hit (p + 1) hp
  have hkj : k ≠ j := by intro e; subst e; omega
  rw [← e2, h.at_ j hj, ← e1, h.at_ k hk]
  unfold Sh.ds
  omega
theorem apm_pos {n : Nat} {O A : List Nat} (h : Wh n O A) (ho : Ord n O) : ∀ k, k + 1 ≤ n → 1 ≤ apm A n k ∧ (0 < k → apm A n k < n)
  | 0, hk => ⟨hk, fun h => absurd h (by omega)⟩
  | k + 1, hk => by
    have h1 := (apm_pos h ho k (by omega)).1
    have h2 := h.ds ho k (by omega)
    unfold apm
    omega
end Sh
end Go.Proofs.Ytoiibjblaafgpab
