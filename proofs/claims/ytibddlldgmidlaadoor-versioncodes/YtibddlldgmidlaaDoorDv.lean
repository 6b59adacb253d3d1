/-
  Plain mathematics for layer 11 (version): the list that a version alone tells. No program is named.
-/
import Derived.Test.YtibddlldgmidlaaDoorDn
namespace Go.Proofs.YtibddlldgmidlaaDoor.Cv
set_option linter.unusedVariables false

theorem pv_left (l r : List Nat) (t k : Nat) (h : t < l.length) : pv (l ++ r) t k = pv l t k := by
  unfold pv
  split
  · rw [Bm.getD_left _ _ _ _ (by omega)]
  · rfl
theorem bt_left (l r : List Nat) (t i : Nat) (h : t < l.length) : ∀ k, bt (l ++ r) t i k = bt l t i k
  | 0 => rfl
  | k + 1 => by
    show _ ^^^ _ = _ ^^^ _
    rw [bt_left l r t i h k, pv_left l r t k h]
theorem bitAt_left (l r : List Nat) (t i : Nat) (h : t < l.length) : bitAt (l ++ r) t i = bitAt l t i := bt_left l r t i h 7
theorem pv_z6 (l : List Nat) (t k : Nat) : pv (l ++ z6) t k = pv l t k := by
  unfold pv
  rw [getD_z6]
theorem bt_z6 (l : List Nat) (t i : Nat) : ∀ k, bt (l ++ z6) t i k = bt l t i k
  | 0 => rfl
  | k + 1 => by
    show _ ^^^ _ = _ ^^^ _
    rw [bt_z6 l t i k, pv_z6]
theorem bitAt_z6 (l : List Nat) (t i : Nat) : bitAt (l ++ z6) t i = bitAt l t i := bt_z6 l t i 7
/-- The newest bit is told as it is, or turned. -/
theorem bitAt_snoc (l : List Nat) (b i : Nat) : bitAt (l ++ [b]) l.length i = b ^^^ bitAt (l ++ [0]) l.length i := by
  have h := bt_diff (l ++ [b]) (l ++ [0]) l.length i (fun j hj => by rw [Bm.getD_left _ _ _ _ hj, Bm.getD_left _ _ _ _ hj]) 6
  have e1 : (l ++ [b]).getD l.length 0 = b := by rw [Bm.getD_right _ _ _ _ (Nat.le_refl _), Nat.sub_self]; rfl
  have e2 : (l ++ [0]).getD l.length 0 = 0 := by rw [Bm.getD_right _ _ _ _ (Nat.le_refl _), Nat.sub_self]; rfl
  rw [e1, e2, Nat.xor_zero] at h
  have key : ∀ x y z : Nat, x ^^^ y = z → x = z ^^^ y := fun x y z hz => by rw [← hz, Nat.xor_assoc, Nat.xor_self, Nat.xor_zero]
  exact key _ _ _ h
/-- The list that a version's first bits alone tell. -/
def al (p : List Nat) (v : Nat) : Nat → List Nat
  | 0 => []
  | t + 1 => al p v t ++ [p.getD t 0 ^^^ bitAt (al p v t ++ [0]) t (st v t)]
theorem al_length (p : List Nat) (v : Nat) : ∀ t, (al p v t).length = t
  | 0 => rfl
  | t + 1 => by rw [al, List.length_append, al_length p v t]; rfl
theorem al_bit (p : List Nat) (hp : ∀ x ∈ p, x ≤ 1) (v : Nat) : ∀ t, ∀ x ∈ al p v t, x ≤ 1
  | 0, x, h => by simp [al] at h
  | t + 1, x, h => by
    rw [al] at h
    rcases List.mem_append.1 h with h | h
    · exact al_bit p hp v t x h
    · rw [List.mem_singleton.1 h]
      refine xor_bit (Bm.bit_le p hp t) (bitAt_bit _ (fun y hy => ?_) _ _)
      rcases List.mem_append.1 hy with hy | hy
      · exact al_bit p hp v t y hy
      · rw [List.mem_singleton.1 hy]; omega
/-- The bit that comes next: 1 where a nought would tell otherwise. -/
theorem al_next (p : List Nat) (hp : ∀ x ∈ p, x ≤ 1) (v t : Nat) : p.getD t 0 ^^^ bitAt (al p v t ++ [0]) t (st v t) = if bitAt (al p v t ++ [0]) t (st v t) ≠ p.getD t 0 then 1 else 0 := by
  have h1 := Bm.bit_le p hp t
  have h2 : bitAt (al p v t ++ [0]) t (st v t) ≤ 1 := bitAt_bit _ (fun y hy => by
    rcases List.mem_append.1 hy with hy | hy
    · exact al_bit p hp v t y hy
    · rw [List.mem_singleton.1 hy]; omega) _ _
  generalize bitAt (al p v t ++ [0]) t (st v t) = y at *
  generalize p.getD t 0 = x at *
  have a : x = 0 ∨ x = 1 := by omega
  have b : y = 0 ∨ y = 1 := by omega
  rcases a with rfl | rfl <;> rcases b with rfl | rfl <;> rfl
theorem al_tells (p : List Nat) (v : Nat) : ∀ T t, t < T → bitAt (al p v T) t (st v t) = p.getD t 0
  | 0, t, h => by omega
  | T + 1, t, h => by
    rw [al]
    by_cases ht : t < T
    · rw [bitAt_left _ _ _ _ (by rw [al_length]; exact ht)]
      exact al_tells p v T t ht
    · obtain rfl : t = T := by omega
      have e := bitAt_snoc (al p v t) (p.getD t 0 ^^^ bitAt (al p v t ++ [0]) t (st v t)) (st v t)
      rw [al_length] at e
      rw [e, Nat.xor_assoc, Nat.xor_self, Nat.xor_zero]
theorem al_uniq (p l : List Nat) (v T : Nat) (hl : l.length = T) (h : ∀ t, t < T → bitAt l t (st v t) = p.getD t 0) : l = al p v T :=
  alone l (al p v T) T hl (al_length p v T) (fun t => st v t) fun t ht => by rw [h t ht, al_tells p v T t ht]
/-- A version of a list's code alone tells it, and six noughts. -/
theorem al_code (l : List Nat) (v : Nat) : al (pick (code l) v) v (l.length + 6) = l ++ z6 := by
  refine (al_uniq _ _ v _ (by rw [List.length_append]; rfl) fun t ht => ?_).symm
  rw [bitAt_z6, pick_get _ _ _ (by rw [code_length]; omega), code_getD l t _ (st_lt v t) ht]
/-- What tells a list is its version. -/
theorem al_pick (p l : List Nat) (v : Nat) (hp : p.length = l.length + 6) (h : al p v (l.length + 6) = l ++ z6) : p = pick (code l) v := by
  refine Bm.ext_getD (by rw [pick_length, code_length, hp]; omega) fun t ht => ?_
  rw [hp] at ht
  rw [pick_get _ _ _ (by rw [code_length]; omega), code_getD l t _ (st_lt v t) ht, ← bitAt_z6, ← h, al_tells p v _ t ht]
end Go.Proofs.YtibddlldgmidlaaDoor.Cv
