/-
  Layer 9: what the steps from the end come to is the best from each state on; what is read off is the best list.
-/
import Derived.Test.YtknfpdlomgllhaaDoorVf
namespace Go.Proofs.YtknfpdlomgllhaaDoor
set_option linter.unusedVariables false

theorem nums_get (l : List Int) (t i : Nat) (hi : i < 4) : (nums l t).getD i 0 = l.getD (4 * t + i) 0 := by
  unfold nums
  rw [List.getD_eq_getElem?_getD, List.getD_eq_getElem?_getD, List.getElem?_take, if_pos hi, List.getElem?_drop]
theorem sc4_gn (l : List Int) (t s x : Nat) (h : 4 * t + 4 ≤ l.length) : sc4 (nums l t) s x = Cv.gn l t s x := by
  unfold sc4 Cv.score
  rw [nums_length l t h]
  show 0 + Cv.sg _ ((nums l t).getD 0 0) + Cv.sg _ ((nums l t).getD 1 0) + Cv.sg _ ((nums l t).getD 2 0) + Cv.sg _ ((nums l t).getD 3 0) = _
  rw [nums_get l t 0 (by omega), nums_get l t 1 (by omega), nums_get l t 2 (by omega), nums_get l t 3 (by omega)]
  unfold Cv.gn
  rw [Nat.add_zero, Int.zero_add]
  rfl
theorem getD_drop (l : List Int) (n i : Nat) : (l.drop n).getD i 0 = l.getD (n + i) 0 := by
  rw [List.getD_eq_getElem?_getD, List.getD_eq_getElem?_getD, List.getElem?_drop]
theorem gn_drop (l : List Int) (n t s x : Nat) : Cv.gn (l.drop (4 * n)) t s x = Cv.gn l (n + t) s x := by
  unfold Cv.gn
  rw [getD_drop, getD_drop, getD_drop, getD_drop, show 4 * n + 4 * t = 4 * (n + t) by omega, show 4 * n + (4 * t + 1) = 4 * (n + t) + 1 by omega, show 4 * n + (4 * t + 2) = 4 * (n + t) + 2 by omega, show 4 * n + (4 * t + 3) = 4 * (n + t) + 3 by omega]
theorem fw_drop (l : List Int) (n : Nat) : ∀ (c : List Nat) (t s : Nat), Cv.fw (l.drop (4 * n)) t s c = Cv.fw l (n + t) s c
  | [], _, _ => rfl
  | x :: c, t, s => by
    show Cv.gn _ t s x + Cv.fw _ (t + 1) (Cv.nx s x) c = Cv.gn l (n + t) s x + Cv.fw l (n + t + 1) (Cv.nx s x) c
    rw [gn_drop, fw_drop l n c, Nat.add_assoc]
theorem en_fw (l : List Int) (hl : l.length = 24) : ∀ m, m ≤ 6 → ∀ s, s < 64 → (en l m).getD s 0 = Cv.fw l (6 - m) s (List.replicate m 0)
  | 0, _, s, _ => Cv.getD_noughts 64 s
  | m + 1, hm, s, hs => by
    have e : en l (m + 1) = byL (nums l (5 - m)) 0 (en l m) := rfl
    rw [e, byL_get _ _ _ _ hs, sc4_gn l _ s 0 (by omega), en_fw l hl m (by omega) _ (Cv.nx_lt s 0 hs (by omega)), List.replicate_succ]
    show _ = Cv.gn l (6 - (m + 1)) s 0 + Cv.fw l (6 - (m + 1) + 1) (Cv.nx s 0) (List.replicate m 0)
    rw [show 6 - (m + 1) = 5 - m by omega, show 5 - m + 1 = 6 - m by omega]
/-- The scores from the end, m steps ahead of the six noughts. -/
def dl (l : List Int) (n : Nat) : Nat → List Int
  | 0 => en (l.drop (4 * n)) 6
  | m + 1 => chL (nums l (n - 1 - m)) (dl l n m)
theorem dl_length (l : List Int) (n : Nat) : ∀ m, (dl l n m).length = 64
  | 0 => en_length _ _
  | m + 1 => chL_length _ _
theorem dl_mb (l : List Int) (n : Nat) (hl : l.length = 4 * (n + 6)) : ∀ m, m ≤ n → ∀ s, s < 64 → (dl l n m).getD s 0 = Cv.mb l m (n - m) s
  | 0, _, s, hs => by
    show (en (l.drop (4 * n)) 6).getD s 0 = Cv.fw l (n - 0) s Cv.z6
    rw [en_fw _ (by rw [List.length_drop]; omega) 6 (by omega) s hs, fw_drop]
    rfl
  | m + 1, hm, s, hs => by
    show (chL (nums l (n - 1 - m)) (dl l n m)).getD s 0 = max _ _
    have h0 := dl_mb l n hl m (by omega) (Cv.nx s 0) (Cv.nx_lt s 0 hs (by omega))
    have h1 := dl_mb l n hl m (by omega) (Cv.nx s 1) (Cv.nx_lt s 1 hs (by omega))
    rw [chL_get _ _ _ hs, byL_get _ _ _ _ hs, byL_get _ _ _ _ hs, sc4_gn l _ s 0 (by omega), sc4_gn l _ s 1 (by omega), h0, h1, show n - 1 - m = n - (m + 1) by omega, show n - (m + 1) + 1 = n - m by omega]
    split <;> omega
/-- By which bit it goes on. -/
def fq (l : List Int) (n t s : Nat) : Nat := if Cv.gn l t s 0 + Cv.mb l (n - 1 - t) (t + 1) (Cv.nx s 0) < Cv.gn l t s 1 + Cv.mb l (n - 1 - t) (t + 1) (Cv.nx s 1) then 1 else 0
theorem fq_bit (l : List Int) (n t s : Nat) : fq l n t s ≤ 1 := by unfold fq; split <;> omega
theorem fq_row (l : List Int) (n : Nat) (hl : l.length = 4 * (n + 6)) (m : Nat) (hm : m < n) : rowAt (fq l n) (n - 1 - m) = wyL (nums l (n - 1 - m)) (dl l n m) := by
  refine Bm.ext_getD (by rw [rowAt_length, wyL_length]) fun s hs => ?_
  rw [rowAt_length] at hs
  have h0 := dl_mb l n hl m (by omega) (Cv.nx s 0) (Cv.nx_lt s 0 hs (by omega))
  have h1 := dl_mb l n hl m (by omega) (Cv.nx s 1) (Cv.nx_lt s 1 hs (by omega))
  rw [rowAt_get _ _ _ hs, wyL_get _ _ _ hs, byL_get _ _ _ _ hs, byL_get _ _ _ _ hs, sc4_gn l _ s 0 (by omega), sc4_gn l _ s 1 (by omega), h0, h1]
  unfold fq
  rw [show n - 1 - (n - 1 - m) = m by omega, show n - 1 - m + 1 = n - m by omega]
theorem wls_rb (l : List Int) (n : Nat) : ∀ k, k ≤ n → Cv.rb l n 0 0 = wls (fq l n) k ++ Cv.rb l (n - k) k (wst (fq l n) k)
  | 0, _ => by simp [wls, wst]
  | k + 1, h => by
    rw [wls_rb l n k (by omega), show n - k = (n - (k + 1)) + 1 by omega]
    show wls (fq l n) k ++ (if _ = _ then 0 :: Cv.rb l (n - (k + 1)) (k + 1) (Cv.nx (wst (fq l n) k) 0) else 1 :: Cv.rb l (n - (k + 1)) (k + 1) (Cv.nx (wst (fq l n) k) 1)) = (wls (fq l n) k ++ [fq l n k (wst (fq l n) k)]) ++ Cv.rb l (n - (k + 1)) (k + 1) (Cv.nx (wst (fq l n) k) (fq l n k (wst (fq l n) k)))
    rw [List.append_assoc]
    congr 1
    generalize wst (fq l n) k = s
    have e : Cv.mb l (n - (k + 1) + 1) k s = max (Cv.gn l k s 0 + Cv.mb l (n - (k + 1)) (k + 1) (Cv.nx s 0)) (Cv.gn l k s 1 + Cv.mb l (n - (k + 1)) (k + 1) (Cv.nx s 1)) := rfl
    have ef : fq l n k s = if Cv.gn l k s 0 + Cv.mb l (n - (k + 1)) (k + 1) (Cv.nx s 0) < Cv.gn l k s 1 + Cv.mb l (n - (k + 1)) (k + 1) (Cv.nx s 1) then 1 else 0 := by
      unfold fq; rw [show n - 1 - k = n - (k + 1) by omega]
    by_cases hc : Cv.gn l k s 0 + Cv.mb l (n - (k + 1)) (k + 1) (Cv.nx s 0) < Cv.gn l k s 1 + Cv.mb l (n - (k + 1)) (k + 1) (Cv.nx s 1)
    · rw [ef, if_pos hc, if_neg (by omega)]
      rfl
    · rw [ef, if_neg hc, if_pos (by omega)]
      rfl
/-- What is read off is the best list. -/
theorem wls_all (l : List Int) (n : Nat) : wls (fq l n) n = Cv.rb l n 0 0 := by
  have := wls_rb l n n (Nat.le_refl _)
  rw [Nat.sub_self] at this
  rw [this]
  exact (List.append_nil _).symm
theorem chL_bounds {ns : List Int} (h : ∀ z ∈ ns, -31 ≤ z ∧ z ≤ 31) (hl : ns.length = 4) (B : List Int) (K : Int) (hK : 0 ≤ K) (hB : ∀ i, -K ≤ B.getD i 0 ∧ B.getD i 0 ≤ K) : ∀ i, -(K + 124) ≤ (chL ns B).getD i 0 ∧ (chL ns B).getD i 0 ≤ K + 124 := by
  intro i
  by_cases hi : i < 64
  · rw [chL_get _ _ _ hi]
    have h0 := byL_bounds h hl 0 B K hK hB i
    have h1 := byL_bounds h hl 1 B K hK hB i
    split <;> omega
  · rw [Bm.getD_ge _ _ _ (by rw [chL_length]; omega)]; omega
theorem drop_in {l : List Int} (h : ∀ z ∈ l, -31 ≤ z ∧ z ≤ 31) (k : Nat) : ∀ z ∈ l.drop k, -31 ≤ z ∧ z ≤ 31 := fun z hz => h z (List.mem_of_mem_drop hz)
theorem dl_bounds {l : List Int} (h : ∀ z ∈ l, -31 ≤ z ∧ z ≤ 31) (n : Nat) (hl : l.length = 4 * (n + 6)) : ∀ m : Nat, m ≤ n → ∀ i : Nat, -(124 * ((m : Int) + 6)) ≤ (dl l n m).getD i 0 ∧ (dl l n m).getD i 0 ≤ 124 * ((m : Int) + 6)
  | 0, _, i => by
    have := en_bounds (drop_in h (4 * n)) (by rw [List.length_drop]; omega) 6 (by omega) i
    have e : dl l n 0 = en (l.drop (4 * n)) 6 := rfl
    rw [e]
    constructor <;> omega
  | m + 1, hm, i => by
    have := chL_bounds (nums_in h (n - 1 - m)) (nums_length l _ (by omega)) (dl l n m) (124 * ((m : Int) + 6)) (by omega) (dl_bounds h n hl m (by omega)) i
    have e : dl l n (m + 1) = chL (nums l (n - 1 - m)) (dl l n m) := rfl
    rw [e]
    constructor <;> omega
end Go.Proofs.YtknfpdlomgllhaaDoor
