/-
  Plain mathematics for layer 9 (viterbi): a code of which few bits are turned; numbers doubled; noughts alone; a code of which one stream is known at each step. No program is named.
-/
import Derived.Test.YtknfpdlomgllhaaVm
namespace Go.Proofs.Ytknfpdlomgllhaa.Cv
set_option linter.unusedVariables false

/-- How sure bits are. -/
def soft (t : List Nat) : List Int := t.map fun b => if b = 0 then 1 else -1
theorem soft_length (t : List Nat) : (soft t).length = t.length := by simp [soft]
theorem soft_getD (t : List Nat) (k : Nat) (h : k < t.length) : (soft t).getD k 0 = if t.getD k 0 = 0 then 1 else -1 := by
  rw [Bm.getD_lt _ _ _ (by rw [soft_length]; exact h), Bm.getD_lt _ _ _ h]
  simp [soft]
theorem sg_soft (a b : Nat) (ha : a ≤ 1) (hb : b ≤ 1) : sg b (if a = 0 then 1 else -1) = 1 - 2 * (if a != b then 1 else 0 : Nat) := by
  have h1 : a = 0 ∨ a = 1 := by omega
  have h2 : b = 0 ∨ b = 1 := by omega
  rcases h1 with rfl | rfl <;> rcases h2 with rfl | rfl <;> rfl
theorem cnt_succ (p : Nat → Bool) (k : Nat) : Bm.cnt p (k + 1) = Bm.cnt p k + if p k then 1 else 0 := rfl
theorem sc_soft (t c : List Nat) (ht : ∀ x ∈ t, x ≤ 1) (hc : ∀ x ∈ c, x ≤ 1) : ∀ k, k ≤ t.length → scTo (soft t) c k = (k : Int) - 2 * (Bm.cnt (fun i => t.getD i 0 != c.getD i 0) k : Nat)
  | 0, _ => rfl
  | k + 1, h => by
    show scTo (soft t) c k + _ = _
    rw [sc_soft t c ht hc k (by omega), soft_getD t k (by omega), sg_soft _ _ (Bm.bit_le t ht k) (Bm.bit_le c hc k)]
    rw [cnt_succ]
    generalize (if (t.getD k 0 != c.getD k 0) = true then 1 else 0) = z
    omega
/-- Of bits the best score is theirs: two less for each place at which others are unlike. -/
theorem score_soft (t c : List Nat) (ht : ∀ x ∈ t, x ≤ 1) (hc : ∀ x ∈ c, x ≤ 1) : score (soft t) c = (t.length : Int) - 2 * (Bm.ap t c : Nat) := by
  unfold score
  rw [soft_length, sc_soft t c ht hc _ (Nat.le_refl _)]
  rfl

theorem cnt4 (p : Nat → Bool) (k : Nat) : Bm.cnt p (4 * k + 4) = Bm.cnt p (4 * k) + (if p (4 * k) then 1 else 0) + (if p (4 * k + 1) then 1 else 0) + (if p (4 * k + 2) then 1 else 0) + (if p (4 * k + 3) then 1 else 0) := rfl
theorem bit_one (x : Nat) (h : x ≤ 1) : (if (x != 0) = true then 1 else 0) = x := by
  have : x = 0 ∨ x = 1 := by omega
  rcases this with rfl | rfl <;> rfl
theorem cnt_code (l : List Nat) (hl : ∀ x ∈ l, x ≤ 1) : ∀ k, k ≤ l.length + 6 → Bm.cnt (fun i => (code l).getD i 0 != 0) (4 * k) = wf l 0 k
  | 0, _ => rfl
  | k + 1, h => by
    have e0 := code_getD l k 0 (by omega) (by omega)
    rw [Nat.add_zero] at e0
    rw [show 4 * (k + 1) = 4 * k + 4 by omega, cnt4, cnt_code l hl k (by omega), wf_add l k 0 1, Nat.zero_add, e0, code_getD l k 1 (by omega) (by omega), code_getD l k 2 (by omega) (by omega), code_getD l k 3 (by omega) (by omega)]
    rw [bit_one _ (bitAt_bit l hl k 0), bit_one _ (bitAt_bit l hl k 1), bit_one _ (bitAt_bit l hl k 2), bit_one _ (bitAt_bit l hl k 3)]
    show _ = _ + (wt4 (sv l k) (l.getD k 0) + 0)
    unfold wt4
    rw [out_bitAt l hl, out_bitAt l hl, out_bitAt l hl, out_bitAt l hl]
    omega
theorem zx_bit (a b : List Nat) (ha : ∀ x ∈ a, x ≤ 1) (hb : ∀ x ∈ b, x ≤ 1) (h : a.length = b.length) : ∀ x ∈ Crc.zx a b, x ≤ 1 := by
  intro x hx
  obtain ⟨i, hi, rfl⟩ := List.getElem_of_mem hx
  rw [← Bm.getD_lt (Crc.zx a b) 0 i hi, getD_zx a b h]
  exact xor_bit (Bm.bit_le a ha i) (Bm.bit_le b hb i)
theorem ne_xor (x y : Nat) : (x != y) = (x ^^^ y != 0) := by
  rw [Bool.eq_iff_iff]
  simp only [bne_iff_ne]
  constructor
  · intro h h2; exact h (Poly.xor_eq_zero _ _ h2)
  · intro h h2; apply h; rw [h2, Nat.xor_self]
/-- The codes of two unlike lists of one length are twenty apart, at least. -/
theorem apart20 (a b : List Nat) (ha : ∀ x ∈ a, x ≤ 1) (hb : ∀ x ∈ b, x ≤ 1) (h : a.length = b.length) (hne : a ≠ b) : 20 ≤ Bm.ap (code a) (code b) := by
  have hz := zx_bit a b ha hb h
  have hzl := zx_length a b h
  have e : Bm.ap (code a) (code b) = wf (Crc.zx a b) 0 ((Crc.zx a b).length + 6) := by
    rw [← cnt_code (Crc.zx a b) hz _ (Nat.le_refl _)]
    unfold Bm.ap
    rw [code_length, hzl]
    refine Bm.cnt_congr _ fun i hi => ?_
    rw [code_zx a b h, getD_zx (code a) (code b) (by rw [code_length, code_length, h]), ne_xor]
  rw [e]
  have hj : ∃ j, j < a.length ∧ a.getD j 0 ≠ b.getD j 0 := by
    apply Classical.byContradiction
    intro hn
    apply hne
    apply Bm.ext_getD h
    intro i hi
    apply Classical.byContradiction
    intro h2
    exact hn ⟨i, hi, h2⟩
  obtain ⟨j, hj1, hj2⟩ := hj
  refine weighs (Crc.zx a b) hz j (by omega) ?_
  rw [getD_zx a b h]
  have h1 := Bm.bit_le a ha j
  have h2 := Bm.bit_le b hb j
  have h3 := xor_bit h1 h2
  have h4 : a.getD j 0 ^^^ b.getD j 0 ≠ 0 := fun h5 => hj2 (Poly.xor_eq_zero _ _ h5)
  omega
theorem ap_comm (a b : List Nat) (h : a.length = b.length) : Bm.ap a b = Bm.ap b a := by
  unfold Bm.ap
  rw [h]
  refine Bm.cnt_congr _ fun i _ => ?_
  rw [Bool.eq_iff_iff]
  simp only [bne_iff_ne]
  exact ⟨Ne.symm, Ne.symm⟩
/-- Of a code of which fewer than ten bits are turned the list is told. -/
theorem mends (b t : List Nat) (hb : ∀ x ∈ b, x ≤ 1) (ht : ∀ x ∈ t, x ≤ 1) (hl : t.length = 4 * (b.length + 6)) (h : Bm.ap t (code b) < 10) :
    Best (tot (soft t)) b.length b ∧ tot (soft t) b = (t.length : Int) - 2 * (Bm.ap t (code b) : Nat) := by
  have hs : ∀ c, c.length = b.length → (∀ x ∈ c, x ≤ 1) → tot (soft t) c = (t.length : Int) - 2 * (Bm.ap t (code c) : Nat) := by
    intro c h1 h2
    rw [← score_tot (soft t) c h2 (by rw [soft_length, hl, h1]), score_soft t (code c) ht (code_bit c h2)]
  refine ⟨Best.strict rfl hb fun c h1 h2 hne => ?_, hs b rfl hb⟩
  rw [hs c h1 h2, hs b rfl hb]
  have h3 := apart20 b c hb h2 h1.symm (Ne.symm hne)
  have h4 := Bm.ap_tri (code b) t (code c) (by rw [code_length, hl])
  rw [ap_comm (code b) t (by rw [code_length, hl])] at h4
  omega

/-! Doubled, and noughts alone -/
theorem getD_twice (l : List Int) (k : Nat) : (l.map (2 * ·)).getD k 0 = 2 * l.getD k 0 := by
  by_cases h : k < l.length
  · rw [Bm.getD_lt _ _ _ (by rw [List.length_map]; exact h), Bm.getD_lt _ _ _ h]; simp
  · rw [Bm.getD_ge _ _ _ (by rw [List.length_map]; omega), Bm.getD_ge _ _ _ (by omega)]; rfl
theorem sg_twice (c : Nat) (x : Int) : sg c (2 * x) = 2 * sg c x := by unfold sg; split <;> omega
theorem gn_twice (l : List Int) (t s x : Nat) : gn (l.map (2 * ·)) t s x = 2 * gn l t s x := by
  unfold gn
  rw [getD_twice, getD_twice, getD_twice, getD_twice, sg_twice, sg_twice, sg_twice, sg_twice]
  omega
theorem fw_twice (l : List Int) : ∀ (c : List Nat) (t s : Nat), fw (l.map (2 * ·)) t s c = 2 * fw l t s c
  | [], _, _ => rfl
  | x :: c, t, s => by
    show gn _ t s x + fw _ (t + 1) (nx s x) c = 2 * (gn l t s x + fw l (t + 1) (nx s x) c)
    rw [gn_twice, fw_twice l c]
    omega
theorem tot_twice (l : List Int) (b : List Nat) : tot (l.map (2 * ·)) b = 2 * tot l b := fw_twice l _ 0 0
theorem best_twice (l : List Int) (n : Nat) (b : List Nat) (h : Best (tot l) n b) : Best (tot (l.map (2 * ·))) n b :=
  h.congr fun c _ _ => by rw [tot_twice, tot_twice]; omega
theorem getD_noughts (N k : Nat) : (List.replicate N (0 : Int)).getD k 0 = 0 := by
  by_cases h : k < N
  · rw [Bm.getD_lt _ _ _ (by rw [List.length_replicate]; exact h), List.getElem_replicate]
  · rw [Bm.getD_ge _ _ _ (by rw [List.length_replicate]; omega)]
theorem fw_noughts (N : Nat) : ∀ (c : List Nat) (t s : Nat), fw (List.replicate N (0 : Int)) t s c = 0
  | [], _, _ => rfl
  | x :: c, t, s => by
    show gn _ t s x + fw _ (t + 1) (nx s x) c = 0
    rw [fw_noughts N c]
    unfold gn
    rw [getD_noughts, getD_noughts, getD_noughts, getD_noughts]
    simp [sg]
theorem lexle_noughts : ∀ c : List Nat, lexle (List.replicate c.length 0) c
  | [] => trivial
  | x :: c => by
    show 0 < x ∨ (0 = x ∧ lexle (List.replicate c.length 0) c)
    by_cases h : x = 0
    · exact .inr ⟨h.symm, lexle_noughts c⟩
    · exact .inl (by omega)
theorem best_noughts (N n : Nat) : Best (tot (List.replicate N (0 : Int))) n (List.replicate n 0) := by
  refine ⟨List.length_replicate, fun x hx => by have := List.eq_of_mem_replicate hx; omega, fun c h1 h2 => .inr ⟨?_, ?_⟩⟩
  · unfold tot; rw [fw_noughts, fw_noughts]
  · subst h1; exact lexle_noughts c
theorem tot_noughts (N : Nat) (b : List Nat) : tot (List.replicate N (0 : Int)) b = 0 := fw_noughts N _ 0 0

/-! One stream known at each step -/
theorem sg_nought (c : Nat) : sg c 0 = 0 := by unfold sg; split <;> rfl
theorem sc_one (l : List Int) (b c : List Nat) (hb : ∀ x ∈ b, x ≤ 1) (hc : ∀ x ∈ c, x ≤ 1) (hl : c.length = b.length) (s : Nat → Nat) (hs : ∀ t, s t < 4)
    (h : ∀ t i, t < b.length + 6 → i < 4 → l.getD (4 * t + i) 0 = if i = s t then (if bitAt b t i = 0 then 1 else -1) else 0) :
    ∀ k, k ≤ b.length + 6 → scTo l (code c) (4 * k) = (k : Int) - 2 * (Bm.cnt (fun t => bitAt b t (s t) != bitAt c t (s t)) k : Nat)
  | 0, _ => rfl
  | k + 1, hk => by
    have g := sc_four l c hc k (by omega)
    rw [show 4 * (k + 1) = 4 * k + 4 by omega, g, sc_one l b c hb hc hl s hs h k (by omega)]
    have e0 := h k 0 (by omega) (by omega)
    have e1 := h k 1 (by omega) (by omega)
    have e2 := h k 2 (by omega) (by omega)
    have e3 := h k 3 (by omega) (by omega)
    rw [Nat.add_zero] at e0
    have pick : ∀ (v0 v1 v2 v3 : Int) (c0 c1 c2 c3 j : Nat) (vj : Int) (cj : Nat), (j = 0 → v0 = vj ∧ c0 = cj ∧ v1 = 0 ∧ v2 = 0 ∧ v3 = 0) → (j = 1 → v1 = vj ∧ c1 = cj ∧ v0 = 0 ∧ v2 = 0 ∧ v3 = 0) → (j = 2 → v2 = vj ∧ c2 = cj ∧ v0 = 0 ∧ v1 = 0 ∧ v3 = 0) → (j = 3 → v3 = vj ∧ c3 = cj ∧ v0 = 0 ∧ v1 = 0 ∧ v2 = 0) → j < 4 → sg c0 v0 + sg c1 v1 + sg c2 v2 + sg c3 v3 = sg cj vj := by
      intro v0 v1 v2 v3 c0 c1 c2 c3 j vj cj h0 h1 h2 h3 hj
      have ek : j = 0 ∨ j = 1 ∨ j = 2 ∨ j = 3 := by omega
      rcases ek with e | e | e | e
      · obtain ⟨rfl, rfl, rfl, rfl, rfl⟩ := h0 e
        rw [sg_nought, sg_nought, sg_nought]; omega
      · obtain ⟨rfl, rfl, rfl, rfl, rfl⟩ := h1 e
        rw [sg_nought, sg_nought, sg_nought]; omega
      · obtain ⟨rfl, rfl, rfl, rfl, rfl⟩ := h2 e
        rw [sg_nought, sg_nought, sg_nought]; omega
      · obtain ⟨rfl, rfl, rfl, rfl, rfl⟩ := h3 e
        rw [sg_nought, sg_nought, sg_nought]; omega
    have q := sg_soft (bitAt b k (s k)) (bitAt c k (s k)) (bitAt_bit b hb k _) (bitAt_bit c hc k _)
    have hg : gn l k (sv c k) (c.getD k 0) = 1 - 2 * (if bitAt b k (s k) != bitAt c k (s k) then 1 else 0 : Nat) := by
      rw [← q]
      unfold gn
      rw [out_bitAt c hc, out_bitAt c hc, out_bitAt c hc, out_bitAt c hc, e0, e1, e2, e3]
      refine pick _ _ _ _ _ _ _ _ (s k) _ _ ?_ ?_ ?_ ?_ (hs k)
      · intro e; rw [e]; exact ⟨if_pos rfl, rfl, if_neg (show ¬ 1 = 0 by omega), if_neg (show ¬ 2 = 0 by omega), if_neg (show ¬ 3 = 0 by omega)⟩
      · intro e; rw [e]; exact ⟨if_pos rfl, rfl, if_neg (show ¬ 0 = 1 by omega), if_neg (show ¬ 2 = 1 by omega), if_neg (show ¬ 3 = 1 by omega)⟩
      · intro e; rw [e]; exact ⟨if_pos rfl, rfl, if_neg (show ¬ 0 = 2 by omega), if_neg (show ¬ 1 = 2 by omega), if_neg (show ¬ 3 = 2 by omega)⟩
      · intro e; rw [e]; exact ⟨if_pos rfl, rfl, if_neg (show ¬ 0 = 3 by omega), if_neg (show ¬ 1 = 3 by omega), if_neg (show ¬ 2 = 3 by omega)⟩
    rw [hg, cnt_succ]
    generalize (if (bitAt b k (s k) != bitAt c k (s k)) = true then 1 else 0) = z
    omega
/-- The list is told. -/
theorem erased (l : List Int) (b : List Nat) (hb : ∀ x ∈ b, x ≤ 1) (hl : l.length = 4 * (b.length + 6)) (s : Nat → Nat) (hs : ∀ t, s t < 4)
    (h : ∀ t i, t < b.length + 6 → i < 4 → l.getD (4 * t + i) 0 = if i = s t then (if bitAt b t i = 0 then 1 else -1) else 0) :
    Best (tot l) b.length b ∧ tot l b = ((b.length + 6 : Nat) : Int) := by
  have ht : ∀ c, c.length = b.length → (∀ x ∈ c, x ≤ 1) → tot l c = ((b.length + 6 : Nat) : Int) - 2 * (Bm.cnt (fun t => bitAt b t (s t) != bitAt c t (s t)) (b.length + 6) : Nat) := by
    intro c h1 h2
    rw [← score_tot l c h2 (by rw [hl, h1])]
    unfold score
    rw [hl]
    exact sc_one l b c hb h2 h1 s hs h _ (Nat.le_refl _)
  have h0 : tot l b = ((b.length + 6 : Nat) : Int) := by
    have e : Bm.cnt (fun t => bitAt b t (s t) != bitAt b t (s t)) (b.length + 6) = 0 := by
      have : ∀ k, Bm.cnt (fun t => bitAt b t (s t) != bitAt b t (s t)) k = 0 := by
        intro k
        induction k with
        | zero => rfl
        | succ k ih => unfold Bm.cnt; rw [ih]; simp
      exact this _
    rw [ht b rfl hb, e]; omega
  refine ⟨Best.strict rfl hb fun c h1 h2 hne => ?_, h0⟩
  rw [h0, ht c h1 h2]
  have hp : 0 < Bm.cnt (fun t => bitAt b t (s t) != bitAt c t (s t)) (b.length + 6) := by
    apply Classical.byContradiction
    intro hn
    have hz : Bm.cnt (fun t => bitAt b t (s t) != bitAt c t (s t)) (b.length + 6) = 0 := by omega
    have key : ∀ k, Bm.cnt (fun t => bitAt b t (s t) != bitAt c t (s t)) k = 0 → ∀ t, t < k → bitAt b t (s t) = bitAt c t (s t) := by
      intro k
      induction k with
      | zero => intro _ t ht; omega
      | succ k ih =>
        intro hk t ht
        unfold Bm.cnt at hk
        by_cases htk : t = k
        · subst htk
          by_cases he : bitAt b t (s t) = bitAt c t (s t)
          · exact he
          · have : (bitAt b t (s t) != bitAt c t (s t)) = true := by simp [he]
            rw [this] at hk
            simp at hk
        · exact ih (by omega) t (by omega)
    exact hne (alone b c b.length rfl h1 s (fun t ht => key _ hz t (by omega))).symm
  omega
end Go.Proofs.Ytknfpdlomgllhaa.Cv
