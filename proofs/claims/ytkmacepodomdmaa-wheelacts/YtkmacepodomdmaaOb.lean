/-
  The library's sort: what is permuted and what is sorted: partitions, and the way on. No program.
-/
import Derived.Test.YtkmacepodomdmaaOa
import Derived.Sort.LotA
namespace Go.Proofs.Ytkmacepodomdmaa
open Go.RowKit
set_option maxRecDepth 100000
open Go.Sort (swp PermIn SortedIn SWO Holds putRow mapBlock)
set_option linter.unusedVariables false

/-- Rising from a to b. -/
def So (a b : Nat) (d : Array Nat) : Prop := ∀ i j, a ≤ i → i < j → j < b → d[i]! ≤ d[j]!
theorem so_iff {a b : Nat} {d : Array Nat} : SortedIn ltN a b d ↔ So a b d := by
  constructor
  · intro h i j h1 h2 h3
    have := h i j h1 h2 h3
    simp [ltN] at this; exact this
  · intro h i j h1 h2 h3
    have := h i j h1 h2 h3
    simp [ltN]; exact this
theorem pm_refl (a b : Nat) (d : Array Nat) : PermIn a b d d := Go.Sort.permIn_refl d a b
theorem pm_trans {a b : Nat} {d d' d'' : Array Nat} (h : PermIn a b d d') (h2 : PermIn a b d' d'') : PermIn a b d d'' := Go.Sort.permIn_trans d d' d'' a b h h2
theorem pm_swp {a b i j : Nat} (d : Array Nat) (h1 : a ≤ i) (h2 : i < b) (h3 : a ≤ j) (h4 : j < b) (hb : b ≤ d.size) : PermIn a b d (swp d i j) := Go.Sort.swp_permIn d a b i j h1 h2 h3 h4 hb
theorem pm_mono {a b a' b' : Nat} {d d' : Array Nat} (h1 : a' ≤ a) (h2 : b ≤ b') (hb : b' ≤ d.size) (h : PermIn a b d d') : PermIn a' b' d d' := Go.Sort.permIn_mono d d' a b a' b' h1 h2 hb h
theorem pm_all {a b : Nat} {d d' : Array Nat} {p : Nat → Prop} (hb : b ≤ d.size) (h : PermIn a b d d') (hp : ∀ i, a ≤ i → i < b → p d[i]!) : ∀ i, a ≤ i → i < b → p d'[i]! := Go.Sort.permIn_all d d' a b p hb h hp
theorem pm_out {a b : Nat} {d d' : Array Nat} (h : PermIn a b d d') (i : Nat) (hi : i < a ∨ b ≤ i) : d'[i]! = d[i]! := h.2.1 i hi
theorem swp_at (d : Array Nat) {i j : Nat} (hi : i < d.size) (hj : j < d.size) (k : Nat) : (swp d i j)[k]! = if k = j then d[i]! else if k = i then d[j]! else d[k]! := Go.Sort.swp_get d hi hj k

/-- In the midst of a partition: what goes left lies behind a, up to i; what doesn't, from behind j on. -/
structure PInv (R : Nat → Nat → Prop) (a b i j : Nat) (d dk : Array Nat) : Prop where
  perm : PermIn a b d dk
  lo : a < i
  le : i ≤ j + 1
  hi : j < b
  left : ∀ k, a < k → k < i → R dk[a]! dk[k]!
  right : ∀ k, j < k → k < b → ¬ R dk[a]! dk[k]!
section
variable {R : Nat → Nat → Prop} {a b i j : Nat} {d dk : Array Nat}
theorem PInv.start (h : PermIn a b d dk) (hab : a < b) : PInv R a b (a + 1) (b - 1) d dk := ⟨h, by omega, by omega, by omega, fun k h1 h2 => by omega, fun k h1 h2 => by omega⟩
theorem PInv.up (h : PInv R a b i j d dk) (hij : i ≤ j) (hr : R dk[a]! dk[i]!) : PInv R a b (i + 1) j d dk :=
  ⟨h.perm, by have := h.lo; omega, by omega, h.hi, fun k h1 h2 => by
    by_cases e : k = i
    · rw [e]; exact hr
    · exact h.left k h1 (by omega), h.right⟩
theorem PInv.down (h : PInv R a b i j d dk) (hij : i ≤ j) (hr : ¬ R dk[a]! dk[j]!) : PInv R a b i (j - 1) d dk :=
  ⟨h.perm, h.lo, by omega, by have := h.hi; omega, h.left, fun k h1 h2 => by
    by_cases e : k = j
    · rw [e]; exact hr
    · exact h.right k (by omega) h2⟩
theorem PInv.swap (h : PInv R a b i j d dk) (hij : i ≤ j) (hb : b ≤ d.size) (h1 : ¬ R dk[a]! dk[i]!) (h2 : R dk[a]! dk[j]!) : PInv R a b (i + 1) (j - 1) d (swp dk i j) := by
  have hs : dk.size = d.size := h.perm.1
  have lo := h.lo
  have hi := h.hi
  have hne : i ≠ j := fun e => by rw [e] at h1; exact h1 h2
  have ea : (swp dk i j)[a]! = dk[a]! := by rw [swp_at dk (by omega) (by omega), if_neg (by omega), if_neg (by omega)]
  refine ⟨pm_trans h.perm (pm_swp dk (by omega) (by omega) (by omega) (by omega) (by omega)), by omega, by omega, by omega, fun k k1 k2 => ?_, fun k k1 k2 => ?_⟩
  · rw [ea, swp_at dk (by omega) (by omega), if_neg (by omega)]
    by_cases e : k = i
    · rw [if_pos e]; exact h2
    · rw [if_neg e]; exact h.left k k1 (by omega)
  · rw [ea, swp_at dk (by omega) (by omega)]
    by_cases e : k = j
    · rw [if_pos e]; exact h1
    · rw [if_neg e, if_neg (by omega)]; exact h.right k (by omega) k2
end
/-- A partition has been made: mid's element parts the smaller ones from the others. -/
structure Parted (a b mid : Nat) (d d' : Array Nat) : Prop where
  perm : PermIn a b d d'
  lo : a ≤ mid
  hi : mid < b
  left : ∀ k, a ≤ k → k < mid → d'[k]! < d'[mid]!
  right : ∀ k, mid < k → k < b → d'[mid]! ≤ d'[k]!
theorem PInv.parted {a b i j : Nat} {d dk : Array Nat} (h : PInv (fun p x => x < p) a b i j d dk) (hij : j < i) (hb : b ≤ d.size) : Parted a b j d (swp dk j a) := by
  have hs : dk.size = d.size := h.perm.1
  have lo := h.lo
  have hi := h.hi
  have le := h.le
  have ej : (swp dk j a)[j]! = dk[a]! := by
    rw [swp_at dk (by omega) (by omega)]
    by_cases e : j = a
    · rw [if_pos e, e]
    · rw [if_neg e, if_pos rfl]
  refine ⟨pm_trans h.perm (pm_swp dk (by omega) (by omega) (by omega) (by omega) (by omega)), by omega, by omega, fun k k1 k2 => ?_, fun k k1 k2 => ?_⟩
  · rw [ej, swp_at dk (by omega) (by omega)]
    by_cases e : k = a
    · rw [if_pos e]; exact h.left j (by omega) (by omega)
    · rw [if_neg e, if_neg (by omega)]; exact h.left k (by omega) (by omega)
  · rw [ej, swp_at dk (by omega) (by omega), if_neg (by omega), if_neg (by omega)]
    have := h.right k k1 k2
    omega
/-- A partition by what is equal has been made. -/
structure PartedEq (a b mid p : Nat) (d d' : Array Nat) : Prop where
  perm : PermIn a b d d'
  lo : a < mid
  hi : mid ≤ b
  left : ∀ k, a ≤ k → k < mid → d'[k]! ≤ p
  right : ∀ k, mid ≤ k → k < b → p < d'[k]!
theorem PInv.partedEq {a b i j p : Nat} {d dk : Array Nat} (h : PInv (fun p x => ¬ p < x) a b i j d dk) (hij : j < i) (hp : dk[a]! = p) : PartedEq a b i p d dk := by
  have lo := h.lo
  have hi := h.hi
  have le := h.le
  refine ⟨h.perm, by omega, by omega, fun k k1 k2 => ?_, fun k k1 k2 => ?_⟩
  · by_cases e : k = a
    · rw [e, hp]; exact Nat.le_refl _
    · have := h.left k (by omega) k2
      rw [hp] at this; omega
  · have := h.right k (by omega) k2
    rw [hp] at this; omega

/-- Nothing from a to b is less than what lies ahead. -/
def Lw (a b : Nat) (d : Array Nat) : Prop := a = 0 ∨ ∀ i, a ≤ i → i < b → d[a - 1]! ≤ d[i]!
/-- The way on: once the part from a' to b' is sorted, all from a to b is. -/
structure Way (a b : Nat) (d : Array Nat) (a' b' : Nat) (dk : Array Nat) : Prop where
  lo : a ≤ a'
  le : a' ≤ b'
  hi : b' ≤ b
  sz : b ≤ d.size
  perm : PermIn a b d dk
  low : Lw a' b' dk
  on : ∀ d'', PermIn a' b' dk d'' → So a' b' d'' → So a b d''
section
variable {a b a' b' mid : Nat} {d dk d2 d3 : Array Nat}
theorem Lw.perm (h : Lw a b d) (hb : b ≤ d.size) (hp : PermIn a b d d2) : Lw a b d2 := by
  rcases h with h | h
  · exact .inl h
  · by_cases ha : a = 0
    · exact .inl ha
    · refine .inr ?_
      rw [pm_out hp (a - 1) (by omega)]
      exact pm_all (p := fun x => d[a - 1]! ≤ x) hb hp h
theorem Way.start (hab : a ≤ b) (hb : b ≤ d.size) (h : Lw a b d) : Way a b d a b d := ⟨Nat.le_refl _, hab, Nat.le_refl _, hb, pm_refl _ _ _, h, fun d'' _ h => h⟩
theorem Way.szk (h : Way a b d a' b' dk) : b' ≤ dk.size := by have := h.perm.1; have := h.sz; have := h.hi; omega
theorem Way.more (h : Way a b d a' b' dk) (hp : PermIn a' b' dk d2) : Way a b d a' b' d2 :=
  ⟨h.lo, h.le, h.hi, h.sz, pm_trans h.perm (pm_mono h.lo h.hi (by have := h.perm.1; have := h.sz; omega) hp), h.low.perm h.szk hp, fun d'' p s => h.on d'' (pm_trans hp p) s⟩
theorem Way.done (h : Way a b d a' b' dk) (hp : PermIn a' b' dk d2) (hs : So a' b' d2) : PermIn a b d d2 ∧ So a b d2 := ⟨(h.more hp).perm, h.on d2 hp hs⟩
/-- The left part is sorted: on with the right one. -/
theorem Way.left (h : Way a b d a' b' dk) (hp : Parted a' b' mid dk d2) (h3 : PermIn a' mid d2 d3) (hs : So a' mid d3) : Way a b d (mid + 1) b' d3 := by
  have lo := hp.lo
  have hi := hp.hi
  have hb : b' ≤ d2.size := by have := hp.perm.1; have := h.szk; omega
  have h4 : PermIn a' b' dk d3 := pm_trans hp.perm (pm_mono (Nat.le_refl _) (by omega) hb h3)
  have w4 := h.more h4
  have eo : ∀ k, mid ≤ k → d3[k]! = d2[k]! := fun k hk => pm_out h3 k (.inr hk)
  have hl : ∀ k, a' ≤ k → k < mid → d3[k]! < d2[mid]! := pm_all (p := fun x => x < d2[mid]!) (by omega) h3 hp.left
  have hr : ∀ k, mid + 1 ≤ k → k < b' → d2[mid]! ≤ d3[k]! := fun k k1 k2 => by rw [eo k (by omega)]; exact hp.right k (by omega) k2
  refine ⟨by have := h.lo; omega, by omega, h.hi, h.sz, w4.perm, .inr fun k k1 k2 => ?_, fun d'' p s => ?_⟩
  · rw [Nat.add_sub_cancel, eo mid (Nat.le_refl _)]; exact hr k k1 k2
  · have hb3 : b' ≤ d3.size := by have := h3.1; omega
    have e5 : ∀ k, k ≤ mid → d''[k]! = d3[k]! := fun k hk => pm_out p k (.inl (by omega))
    have hr5 : ∀ k, mid + 1 ≤ k → k < b' → d2[mid]! ≤ d''[k]! := pm_all (p := fun x => d2[mid]! ≤ x) hb3 p hr
    refine w4.on d'' (pm_mono (by omega) (Nat.le_refl _) hb3 p) fun i j i1 i2 i3 => ?_
    have em : d3[mid]! = d2[mid]! := eo mid (Nat.le_refl _)
    by_cases c1 : mid < i
    · exact s i j (by omega) i2 i3
    · rw [e5 i (by omega)]
      have hle : d3[i]! ≤ d2[mid]! := by
        by_cases c2 : i = mid
        · rw [c2, em]; exact Nat.le_refl _
        · exact Nat.le_of_lt (hl i i1 (by omega))
      by_cases c3 : mid < j
      · exact Nat.le_trans hle (hr5 j (by omega) i3)
      · rw [e5 j (by omega)]
        by_cases c4 : j = mid
        · rw [c4, em]; exact hle
        · exact hs i j i1 i2 (by omega)
/-- The right part is sorted: on with the left one. -/
theorem Way.right (h : Way a b d a' b' dk) (hp : Parted a' b' mid dk d2) (h3 : PermIn (mid + 1) b' d2 d3) (hs : So (mid + 1) b' d3) : Way a b d a' mid d3 := by
  have lo := hp.lo
  have hi := hp.hi
  have hb : b' ≤ d2.size := by have := hp.perm.1; have := h.szk; omega
  have h4 : PermIn a' b' dk d3 := pm_trans hp.perm (pm_mono (by omega) (Nat.le_refl _) hb h3)
  have w4 := h.more h4
  have eo : ∀ k, k ≤ mid → d3[k]! = d2[k]! := fun k hk => pm_out h3 k (.inl (by omega))
  have hr : ∀ k, mid + 1 ≤ k → k < b' → d2[mid]! ≤ d3[k]! := pm_all (p := fun x => d2[mid]! ≤ x) hb h3 (fun k k1 k2 => hp.right k (by omega) k2)
  have hl : ∀ k, a' ≤ k → k < mid → d3[k]! < d2[mid]! := fun k k1 k2 => by rw [eo k (by omega)]; exact hp.left k k1 k2
  refine ⟨h.lo, by omega, by have := h.hi; omega, h.sz, w4.perm, ?_, fun d'' p s => ?_⟩
  · rcases w4.low with c | c
    · exact .inl c
    · exact .inr fun k k1 k2 => c k k1 (by omega)
  · have hb3 : b' ≤ d3.size := by have := h3.1; omega
    have e5 : ∀ k, mid ≤ k → d''[k]! = d3[k]! := fun k hk => pm_out p k (.inr hk)
    have hl5 : ∀ k, a' ≤ k → k < mid → d''[k]! < d2[mid]! := pm_all (p := fun x => x < d2[mid]!) (by omega) p hl
    refine w4.on d'' (pm_mono (Nat.le_refl _) (by omega) hb3 p) fun i j i1 i2 i3 => ?_
    have em : d3[mid]! = d2[mid]! := eo mid (Nat.le_refl _)
    by_cases c1 : j < mid
    · exact s i j i1 i2 c1
    · rw [e5 j (by omega)]
      have hge : d2[mid]! ≤ d3[j]! := by
        by_cases c2 : j = mid
        · rw [c2, em]; exact Nat.le_refl _
        · exact hr j (by omega) i3
      by_cases c3 : i < mid
      · exact Nat.le_trans (Nat.le_of_lt (hl5 i i1 c3)) hge
      · rw [e5 i (by omega)]
        by_cases c4 : i = mid
        · rw [c4, em]; exact hge
        · exact hs i j (by omega) i2 i3
/-- All that is equal to what lies ahead is in its place. -/
theorem Way.equal {p : Nat} (h : Way a b d a' b' dk) (ha : 0 < a') (hle : p ≤ dk[a' - 1]!) (hp : PartedEq a' b' mid p dk d2) : Way a b d mid b' d2 := by
  have lo := hp.lo
  have hi := hp.hi
  have w4 := h.more hp.perm
  have hb : b' ≤ d2.size := by have := hp.perm.1; have := h.szk; omega
  have e1 : d2[a' - 1]! = dk[a' - 1]! := pm_out hp.perm _ (.inl (by omega))
  have heq : ∀ k, a' ≤ k → k < mid → d2[k]! = p := fun k k1 k2 => by
    have h1 := hp.left k k1 k2
    rcases w4.low with c | c
    · omega
    · have := c k k1 (by omega)
      rw [e1] at this; omega
  refine ⟨by have := h.lo; omega, hi, h.hi, h.sz, w4.perm, .inr fun k k1 k2 => ?_, fun d'' q s => ?_⟩
  · have := hp.right k k1 k2
    have := heq (mid - 1) (by omega) (by omega)
    omega
  · have e5 : ∀ k, k < mid → d''[k]! = d2[k]! := fun k hk => pm_out q k (.inl hk)
    have hr5 : ∀ k, mid ≤ k → k < b' → p < d''[k]! := pm_all (p := fun x => p < x) hb q hp.right
    refine w4.on d'' (pm_mono (by omega) (Nat.le_refl _) hb q) fun i j i1 i2 i3 => ?_
    by_cases c1 : mid ≤ i
    · exact s i j c1 i2 i3
    · rw [e5 i (by omega), heq i i1 (by omega)]
      by_cases c2 : mid ≤ j
      · exact Nat.le_of_lt (hr5 j c2 i3)
      · rw [e5 j (by omega), heq j (by omega) (by omega)]; exact Nat.le_refl _
theorem Lw.zero (b : Nat) (d : Array Nat) : Lw 0 b d := .inl rfl
theorem Lw.of_left (h : Way a b d a' b' dk) (hp : Parted a' b' mid dk d2) : Lw a' mid d2 := by
  have w4 := h.more hp.perm
  have := hp.hi
  rcases w4.low with c | c
  · exact .inl c
  · exact .inr fun k k1 k2 => c k k1 (by omega)
theorem Lw.of_right (hp : Parted a' b' mid dk d2) : Lw (mid + 1) b' d2 := .inr fun k k1 k2 => by
  rw [Nat.add_sub_cancel]; exact hp.right k (by omega) k2
end
theorem ins_sorts (d : Array Nat) (a b : Nat) (h : a ≤ b) (hb : b ≤ d.size) : PermIn a b d (Go.Sort.insertionSort ltN d a b) ∧ So a b (Go.Sort.insertionSort ltN d a b) := by
  have := Go.Sort.insertionSort_holds (lt := ltN) swoN d a b h hb
  exact ⟨this.1, so_iff.1 this.2⟩
theorem heap_sorts (d : Array Nat) (a b : Nat) (h : a ≤ b) (hb : b ≤ d.size) : PermIn a b d (Go.Sort.heapSort ltN d a b) ∧ So a b (Go.Sort.heapSort ltN d a b) := by
  have := Go.Sort.heapSort_holds (lt := ltN) swoN d a b h hb
  exact ⟨this.1, so_iff.1 this.2⟩
end Go.Proofs.Ytkmacepodomdmaa
