/-
  Where the places of a list go that is read column by column; which are turned by some side by side. No program.
-/
import Derived.Test.YtoiibjblaafgpabSha
namespace Go.Proofs.Ytoiibjblaafgpab
set_option linter.unusedVariables false
namespace Sh

theorem cols_len_succ {n wide m : Nat} : (cols n wide (m + 1)).length = (cols n wide m).length + colN n wide m := by
  rw [cols_succ, List.length_append]
  congr 1
  simp [col]
theorem colN_ge {n wide c : Nat} (hc : c < wide) : n / wide ≤ colN n wide c := by
  unfold colN
  exact Nat.div_le_div_right (by omega)
theorem cols_len_ge {n wide : Nat} : ∀ m, m ≤ wide → m * (n / wide) ≤ (cols n wide m).length
  | 0, _ => by simp
  | m + 1, hm => by
    rw [cols_len_succ, Nat.succ_mul]
    have := cols_len_ge (n := n) (wide := wide) m (by omega)
    have := colN_ge (n := n) (c := m) (show m < wide by omega)
    omega
theorem cols_prefix {n wide : Nat} (m : Nat) : ∀ k, ∃ rest, cols n wide (m + k) = cols n wide m ++ rest
  | 0 => ⟨[], by simp⟩
  | k + 1 => by
    obtain ⟨rest, h⟩ := cols_prefix (n := n) (wide := wide) m k
    exact ⟨rest ++ col n wide (m + k), by rw [← Nat.add_assoc, cols_succ, h, List.append_assoc]⟩
theorem ordl_at {n wide c r : Nat} (hc : c < wide) (hr : r < colN n wide c) : (ordl n wide).getD ((cols n wide c).length + r) 0 = r * wide + c := by
  obtain ⟨rest, h⟩ := cols_prefix (n := n) (wide := wide) (c + 1) (wide - (c + 1))
  rw [show c + 1 + (wide - (c + 1)) = wide by omega] at h
  unfold ordl
  rw [h, cols_succ]
  have hl : (col n wide c).length = colN n wide c := by simp [col]
  rw [Bm.getD_lt _ _ _ (by rw [List.length_append, List.length_append, hl]; omega), List.getElem_append_left (by rw [List.length_append, hl]; omega), List.getElem_append_right (by omega)]
  simp [col]
/-- Where a place goes. -/
def posn (n wide p : Nat) : Nat := (cols n wide (p % wide)).length + p / wide
theorem posn_at {n wide p : Nat} (hw : 0 < wide) (hp : p < n) : posn n wide p < n ∧ (ordl n wide).getD (posn n wide p) 0 = p := by
  have hc : p % wide < wide := Nat.mod_lt _ hw
  have e : p / wide * wide + p % wide = p := by rw [Nat.mul_comm]; exact Nat.div_add_mod p wide
  have hr : p / wide < colN n wide (p % wide) := (lt_colN hc).2 (by rw [e]; exact hp)
  refine ⟨?_, (ordl_at hc hr).trans e⟩
  have := cols_length_le (n := n) (show p % wide + 1 ≤ wide by omega) hw
  rw [cols_len_succ] at this
  unfold posn
  omega
theorem mod_succ {p wide : Nat} (hw : 0 < wide) : (p % wide + 1 < wide ∧ (p + 1) % wide = p % wide + 1 ∧ (p + 1) / wide = p / wide) ∨ (p % wide + 1 = wide ∧ (p + 1) % wide = 0 ∧ (p + 1) / wide = p / wide + 1) := by
  have h1 := Nat.div_add_mod p wide
  have h2 := Nat.mod_lt p hw
  by_cases h : p % wide + 1 < wide
  · left
    refine ⟨h, ?_, ?_⟩
    · rw [← h1, Nat.add_assoc, Nat.mul_add_mod, Nat.mod_eq_of_lt h, Nat.mul_add_mod, Nat.mod_mod]
    · have : (p + 1) / wide = (wide * (p / wide) + (p % wide + 1)) / wide := by congr 1; omega
      rw [this, Nat.mul_add_div hw, Nat.div_eq_of_lt h, Nat.add_zero]
  · right
    have h3 : p % wide + 1 = wide := by omega
    have h4 : p + 1 = wide * (p / wide + 1) := by rw [Nat.mul_succ]; omega
    refine ⟨h3, ?_, ?_⟩
    · rw [h4]; exact Nat.mul_mod_right _ _
    · rw [h4]; exact Nat.mul_div_cancel_left _ hw
/-- Neighbours are put apart. -/
theorem posn_apart {n wide p : Nat} (hw : 3 ≤ wide) (hp : p + 1 < n) (hq : 1 ≤ n / wide) : posn n wide p + n / wide ≤ posn n wide (p + 1) ∨ posn n wide (p + 1) + n / wide ≤ posn n wide p := by
  unfold posn
  rcases mod_succ (p := p) (wide := wide) (by omega) with ⟨h1, h2, h3⟩ | ⟨h1, h2, h3⟩
  · left
    rw [h2, h3, cols_len_succ]
    have := colN_ge (n := n) (c := p % wide) (show p % wide < wide by omega)
    omega
  · right
    rw [h2, h3]
    have h4 := cols_len_ge (n := n) (wide := wide) (p % wide) (by omega)
    have h5 : 2 * (n / wide) ≤ p % wide * (n / wide) := Nat.mul_le_mul_right _ (by omega)
    have h6 : (cols n wide 0).length = 0 := rfl
    omega
/-- Some side by side are turned. -/
def tog (l : List Nat) (a b : Nat) : List Nat := (List.range l.length).map fun k => if a ≤ k ∧ k < b then l.getD k 0 ^^^ 1 else l.getD k 0
theorem tog_length (l : List Nat) (a b : Nat) : (tog l a b).length = l.length := by simp [tog]
theorem tog_get (l : List Nat) (a b k : Nat) (hk : k < l.length) : (tog l a b).getD k 0 = if a ≤ k ∧ k < b then l.getD k 0 ^^^ 1 else l.getD k 0 := by
  rw [Bm.getD_lt _ _ _ (by rw [tog_length]; exact hk)]
  simp [tog]
theorem tog_none (l : List Nat) (a : Nat) : tog l a a = l := by
  refine ext_getD (tog_length _ _ _) (fun p hp => ?_)
  rw [tog_length] at hp
  rw [tog_get _ _ _ _ hp, if_neg (by omega)]
theorem tog_step (l : List Nat) (a b : Nat) (hab : a ≤ b) (hb : b < l.length) : (tog l a b).set b (l.getD b 0 ^^^ 1) = tog l a (b + 1) := by
  refine ext_getD (by rw [List.length_set, tog_length, tog_length]) (fun p hp => ?_)
  rw [List.length_set, tog_length] at hp
  rw [Bm.getD_lt _ _ _ (by rw [List.length_set, tog_length]; exact hp), List.getElem_set, tog_get _ _ _ _ hp]
  by_cases h : b = p
  · rw [if_pos h, if_pos (by omega), h]
  · rw [if_neg h, ← Bm.getD_lt (tog l a b) 0 p (by rw [tog_length]; exact hp), tog_get _ _ _ _ hp]
    by_cases h2 : a ≤ p ∧ p < b
    · rw [if_pos h2, if_pos (by omega)]
    · rw [if_neg h2, if_neg (by omega)]
/-- Is this place turned? -/
def trn (n wide a b p : Nat) : Bool := decide (a ≤ posn n wide p ∧ posn n wide p < b)
/-- What is taken back. -/
theorem tk_tog {n wide a b : Nat} {l T : List Nat} (hw : 0 < wide) (hl : l.length = n) (h : Tk n (ordl n wide) (tog (puts (ordl n wide) l) a b) T n) (p : Nat) (hp : p < n) : T.getD p 0 = if trn n wide a b p = true then l.getD p 0 ^^^ 1 else l.getD p 0 := by
  obtain ⟨h1, h2⟩ := posn_at hw hp
  have h3 := h.at_ (posn n wide p) h1
  have hlen : (ordl n wide).length = n := ordl_length hw
  rw [h2, tog_get _ _ _ _ (by rw [puts_length, hlen]; exact h1), puts_get _ _ _ (by rw [hlen]; exact h1), h2] at h3
  rw [h3]
  simp [trn]
theorem len_eq : ∀ (a b : List Nat), a.Nodup → b.Nodup → (∀ x, x ∈ a ↔ x ∈ b) → a.length = b.length
  | [], b, _, _, h => by
    cases b with
    | nil => rfl
    | cons y b => exact absurd ((h y).2 List.mem_cons_self) (by simp)
  | x :: a, b, ha, hb, h => by
    have hx : x ∈ b := (h x).1 List.mem_cons_self
    rw [List.nodup_cons] at ha
    have h2 := len_eq a (b.erase x) ha.2 (hb.erase x) (fun y => by
      rw [hb.mem_erase_iff, ← h y, List.mem_cons]
      constructor
      · intro hy; exact ⟨fun e => ha.1 (by rw [← e]; exact hy), .inr hy⟩
      · rintro ⟨h1, h2 | h2⟩
        · exact absurd h2 h1
        · exact h2)
    rw [List.length_erase_of_mem hx] at h2
    have : 0 < b.length := List.length_pos_of_mem hx
    simp only [List.length_cons]
    omega
/-- How many of the first ones are turned. -/
def cnt (n wide a b i : Nat) : Nat := ((List.range i).filter (trn n wide a b)).length
theorem cnt_succ (n wide a b i : Nat) : cnt n wide a b (i + 1) = cnt n wide a b i + if trn n wide a b i = true then 1 else 0 := by
  unfold cnt
  rw [List.range_succ, List.filter_append, List.length_append]
  congr 1
  simp only [List.filter_cons, List.filter_nil]
  split <;> rfl
theorem cnt_all {n wide a b : Nat} (hw : 0 < wide) (hab : a ≤ b) (hb : b ≤ n) : cnt n wide a b n = b - a := by
  have ho := ord_ordl (n := n) hw
  have h := len_eq ((List.range n).filter (trn n wide a b)) ((List.range (b - a)).map fun j => (ordl n wide).getD (a + j) 0)
    ((List.nodup_range (n := n)).filter _) (by
      unfold List.Nodup
      rw [List.pairwise_map]
      refine List.Pairwise.imp_of_mem ?_ (List.nodup_range (n := b - a))
      intro x y hx hy hxy e
      rw [List.mem_range] at hx hy
      have := ho.inj (a + x) (a + y) (by omega) (by omega) e
      omega) (fun p => by
      rw [List.mem_filter, List.mem_range, List.mem_map]
      constructor
      · rintro ⟨hp, ht⟩
        obtain ⟨h1, h2⟩ := posn_at hw hp
        simp [trn] at ht
        exact ⟨posn n wide p - a, by rw [List.mem_range]; omega, by rw [show a + (posn n wide p - a) = posn n wide p by omega]; exact h2⟩
      · rintro ⟨j, hj, rfl⟩
        rw [List.mem_range] at hj
        have hlt := ho.lt (a + j) (by omega)
        obtain ⟨h1, h2⟩ := posn_at hw hlt
        have := ho.inj _ _ h1 (by omega) h2
        refine ⟨hlt, ?_⟩
        simp [trn]
        rw [← List.getD_eq_getElem?_getD, this]
        omega)
  unfold cnt
  rw [h, List.length_map, List.length_range]
theorem not_beside {n wide a b p : Nat} (hw : 3 ≤ wide) (hp : p + 1 < n) (hb : b ≤ a + n / wide) (hq : 1 ≤ n / wide) (h : trn n wide a b (p + 1) = true) : trn n wide a b p = false := by
  have h1 := posn_apart hw hp hq
  simp [trn] at h ⊢
  omega
end Sh
end Go.Proofs.Ytoiibjblaafgpab
