/-
  Plain mathematics for layers 10 and 12 (pattern, distance): in which version a stream's bit stands; what ways weigh; detours and the least of them; tables from which no way is shorter; codes of unlike lists. No program is named.
-/
import Derived.Test.YtknfpdlomgllhaaVn
namespace Go.Proofs.Ytknfpdlomgllhaa.Cv
set_option linter.unusedVariables false

/-- The version in which a stream's bit stands at a step. -/
def vr (i t : Nat) : Nat := (i + 3 * t) % 4
/-- The stream whose bit stands in a version at a step. -/
def st (v t : Nat) : Nat := (v + t) % 4
theorem vr_lt (i t : Nat) : vr i t < 4 := Nat.mod_lt _ (by omega)
theorem st_lt (v t : Nat) : st v t < 4 := Nat.mod_lt _ (by omega)
theorem st_vr (i t : Nat) (hi : i < 4) : st (vr i t) t = i := by unfold st vr; omega
theorem vr_st (v t : Nat) (hv : v < 4) : vr (st v t) t = v := by unfold st vr; omega
theorem vr_congr (i t t' : Nat) (h : t % 4 = t' % 4) : vr i t = vr i t' := by unfold vr; omega
/-- What an edge weighs at a step. -/
def ew (w : Nat → Nat) (t s x : Nat) : Nat := out s x 0 * w (vr 0 t) + out s x 1 * w (vr 1 t) + out s x 2 * w (vr 2 t) + out s x 3 * w (vr 3 t)
theorem ew_congr (w : Nat → Nat) (t t' s x : Nat) (h : t % 4 = t' % 4) : ew w t s x = ew w t' s x := by
  unfold ew
  rw [vr_congr 0 t t' h, vr_congr 1 t t' h, vr_congr 2 t t' h, vr_congr 3 t t' h]
/-- What bits weigh, from a state on. -/
def pw (w : Nat → Nat) : Nat → Nat → List Nat → Nat
  | _, _, [] => 0
  | t, s, x :: c => ew w t s x + pw w (t + 1) (nx s x) c
theorem pw_congr (w : Nat → Nat) : ∀ (c : List Nat) (t t' s : Nat), t % 4 = t' % 4 → pw w t s c = pw w t' s c
  | [], _, _, _, _ => rfl
  | x :: c, t, t', s, h => by
    show ew w t s x + pw w (t + 1) (nx s x) c = ew w t' s x + pw w (t' + 1) (nx s x) c
    rw [ew_congr w t t' s x h, pw_congr w c (t + 1) (t' + 1) (nx s x) (by omega)]
theorem pw_append (w : Nat → Nat) : ∀ (a : List Nat) (t s : Nat) (b : List Nat), pw w t s (a ++ b) = pw w t s a + pw w (t + a.length) (a.foldl nx s) b
  | [], t, s, b => by simp [pw]
  | x :: a, t, s, b => by
    show ew w t s x + pw w (t + 1) (nx s x) (a ++ b) = ew w t s x + pw w (t + 1) (nx s x) a + pw w (t + (a.length + 1)) (a.foldl nx (nx s x)) b
    rw [pw_append w a, show t + 1 + a.length = t + (a.length + 1) by omega]
    omega
theorem out_zero : out 0 0 0 = 0 ∧ out 0 0 1 = 0 ∧ out 0 0 2 = 0 ∧ out 0 0 3 = 0 := by decide
theorem ew_zero (w : Nat → Nat) (t : Nat) : ew w t 0 0 = 0 := by
  obtain ⟨h0, h1, h2, h3⟩ := out_zero
  unfold ew
  rw [h0, h1, h2, h3]
  simp
theorem pw_zeros (w : Nat → Nat) (b : List Nat) : ∀ p t, pw w t 0 (List.replicate p 0 ++ b) = pw w (t + p) 0 b
  | 0, t => by simp
  | p + 1, t => by
    rw [List.replicate_succ]
    show ew w t 0 0 + pw w (t + 1) (nx 0 0) (List.replicate p 0 ++ b) = _
    rw [ew_zero, show nx 0 0 = 0 from rfl, pw_zeros w b p (t + 1), Nat.zero_add, show t + 1 + p = t + (p + 1) by omega]
theorem fold_lt : ∀ (c : List Nat) (s : Nat), s < 64 → (∀ x ∈ c, x ≤ 1) → c.foldl nx s < 64
  | [], s, hs, _ => hs
  | x :: c, s, hs, h => fold_lt c (nx s x) (nx_lt s x hs (h x List.mem_cons_self)) (fun y hy => h y (List.mem_cons_of_mem _ hy))

/-- Bits that leave state 0 by a 1 and come to a state. -/
structure Way (c : List Nat) (s : Nat) : Prop where
  first : ∃ d, c = 1 :: d
  bit : ∀ x ∈ c, x ≤ 1
  come : c.foldl nx 0 = s
theorem Way.one : Way [1] 32 := ⟨⟨[], rfl⟩, by simp, rfl⟩
theorem Way.next {c : List Nat} {s : Nat} (h : Way c s) (x : Nat) (hx : x ≤ 1) : Way (c ++ [x]) (nx s x) := by
  obtain ⟨d, hd⟩ := h.first
  refine ⟨⟨d ++ [x], by rw [hd]; rfl⟩, fun y hy => ?_, ?_⟩
  · rcases List.mem_append.1 hy with hy | hy
    · exact h.bit y hy
    · rw [List.mem_singleton.1 hy]; exact hx
  · rw [List.foldl_append, h.come]
    rfl
theorem Way.pw_next {c : List Nat} {s : Nat} (h : Way c s) (w : Nat → Nat) (t x : Nat) : pw w t 0 (c ++ [x]) = pw w t 0 c + ew w (t + c.length) s x := by
  rw [pw_append, h.come]
  rfl
/-- n is the least that a detour weighs. -/
structure Lst (w : Nat → Nat) (n : Nat) : Prop where
  ge : ∀ t c, Way c 0 → n ≤ pw w t 0 c
  is : ∃ t c, Way c 0 ∧ pw w t 0 c = n
theorem Lst.uniq {w : Nat → Nat} {n m : Nat} (h1 : Lst w n) (h2 : Lst w m) : n = m := by
  obtain ⟨t, c, hc, e⟩ := h1.is
  obtain ⟨t', c', hc', e'⟩ := h2.is
  have a := h1.ge t' c' hc'
  have b := h2.ge t c hc
  omega
theorem ew_le {w u : Nat → Nat} (h : ∀ v, v < 4 → w v ≤ u v) (t s x : Nat) : ew w t s x ≤ ew u t s x := by
  unfold ew
  have a0 := Nat.mul_le_mul_left (out s x 0) (h (vr 0 t) (vr_lt _ _))
  have a1 := Nat.mul_le_mul_left (out s x 1) (h (vr 1 t) (vr_lt _ _))
  have a2 := Nat.mul_le_mul_left (out s x 2) (h (vr 2 t) (vr_lt _ _))
  have a3 := Nat.mul_le_mul_left (out s x 3) (h (vr 3 t) (vr_lt _ _))
  omega
theorem pw_le {w u : Nat → Nat} (h : ∀ v, v < 4 → w v ≤ u v) : ∀ (c : List Nat) (t s : Nat), pw w t s c ≤ pw u t s c
  | [], _, _ => Nat.le_refl _
  | x :: c, t, s => Nat.add_le_add (ew_le h t s x) (pw_le h c (t + 1) (nx s x))
/-- With more weight it is never less. -/
theorem Lst.mono {w u : Nat → Nat} {n m : Nat} (h : ∀ v, v < 4 → w v ≤ u v) (h1 : Lst w n) (h2 : Lst u m) : n ≤ m := by
  obtain ⟨t, c, hc, e⟩ := h2.is
  have := h1.ge t c hc
  have := pw_le h c t 0
  omega
theorem Lst.congr {w u : Nat → Nat} {n : Nat} (h : ∀ v, v < 4 → w v = u v) (h1 : Lst w n) : Lst u n := by
  have e : ∀ t s c, pw u t s c = pw w t s c := fun t s c => Nat.le_antisymm (pw_le (fun v hv => by rw [h v hv]; exact Nat.le_refl _) c t s) (pw_le (fun v hv => by rw [h v hv]; exact Nat.le_refl _) c t s)
  exact ⟨fun t c hc => by rw [e]; exact h1.ge t c hc, by
    obtain ⟨t, c, hc, e2⟩ := h1.is
    exact ⟨t, c, hc, by rw [e]; exact e2⟩⟩
theorem ew_twice (w : Nat → Nat) (t s x : Nat) : ew (fun v => 2 * w v) t s x = 2 * ew w t s x := by
  unfold ew
  simp only [Nat.mul_left_comm _ 2, ← Nat.mul_add]
theorem pw_twice (w : Nat → Nat) : ∀ (c : List Nat) (t s : Nat), pw (fun v => 2 * w v) t s c = 2 * pw w t s c
  | [], _, _ => rfl
  | x :: c, t, s => by
    show ew _ t s x + pw _ (t + 1) (nx s x) c = 2 * (ew w t s x + pw w (t + 1) (nx s x) c)
    rw [ew_twice, pw_twice w c]
    omega
/-- With each weight twice it is twice as much. -/
theorem Lst.twice {w : Nat → Nat} {n : Nat} (h : Lst w n) : Lst (fun v => 2 * w v) (2 * n) := by
  refine ⟨fun t c hc => ?_, ?_⟩
  · rw [pw_twice]; have := h.ge t c hc; omega
  · obtain ⟨t, c, hc, e⟩ := h.is
    exact ⟨t, c, hc, by rw [pw_twice, e]⟩
theorem ew_turn (w u : Nat → Nat) (k : Nat) (h : ∀ v, v < 4 → u ((v + k) % 4) = w v) (t s x : Nat) : ew u t s x = ew w (t + k) s x := by
  have e : ∀ i, u (vr i t) = w (vr i (t + k)) := by
    intro i
    rw [← h (vr i (t + k)) (vr_lt _ _)]
    congr 1
    unfold vr
    omega
  unfold ew
  rw [e 0, e 1, e 2, e 3]
theorem pw_turn (w u : Nat → Nat) (k : Nat) (h : ∀ v, v < 4 → u ((v + k) % 4) = w v) : ∀ (c : List Nat) (t s : Nat), pw u t s c = pw w (t + k) s c
  | [], _, _ => rfl
  | x :: c, t, s => by
    show ew u t s x + pw u (t + 1) (nx s x) c = ew w (t + k) s x + pw w (t + k + 1) (nx s x) c
    rw [ew_turn w u k h, pw_turn w u k h c, show t + 1 + k = t + k + 1 by omega]
/-- Weights that are turned round have the same least. -/
theorem Lst.turn {w u : Nat → Nat} {n : Nat} (k : Nat) (h : ∀ v, v < 4 → u ((v + k) % 4) = w v) (h1 : Lst w n) : Lst u n := by
  refine ⟨fun t c hc => ?_, ?_⟩
  · rw [pw_turn w u k h]; exact h1.ge _ c hc
  · obtain ⟨t, c, hc, e⟩ := h1.is
    exact ⟨t + 3 * k, c, hc, by rw [pw_turn w u k h, pw_congr w c (t + 3 * k + k) t 0 (by omega)]; exact e⟩

/-! Tables -/
/-- A table from which no way is shorter. -/
structure Fix (w : Nat → Nat) (A : Nat → Nat → Nat) (best : Nat) : Prop where
  first : ∀ t, t < 4 → A 32 ((t + 1) % 4) ≤ ew w t 0 1
  next : ∀ s, 0 < s → s < 64 → ∀ t, t < 4 → ∀ x, x ≤ 1 → nx s x ≠ 0 → A (nx s x) ((t + 1) % 4) ≤ A s t + ew w t s x
  back : ∀ s, 0 < s → s < 64 → ∀ t, t < 4 → ∀ x, x ≤ 1 → nx s x = 0 → best ≤ A s t + ew w t s x
theorem Fix.from_ {w : Nat → Nat} {A : Nat → Nat → Nat} {best : Nat} (h : Fix w A best) : ∀ (c : List Nat) (t s : Nat), 0 < s → s < 64 → (∀ x ∈ c, x ≤ 1) → c.foldl nx s = 0 → best ≤ A s (t % 4) + pw w t s c
  | [], t, s, hs, _, _, h0 => by
    exfalso
    have e : s = 0 := h0
    omega
  | x :: c, t, s, hs, hs2, hb, h0 => by
    have hx := hb x List.mem_cons_self
    show best ≤ A s (t % 4) + (ew w t s x + pw w (t + 1) (nx s x) c)
    rw [ew_congr w t (t % 4) s x (by omega)]
    by_cases hz : nx s x = 0
    · have := h.back s hs hs2 (t % 4) (by omega) x hx hz
      omega
    · have h1 := h.next s hs hs2 (t % 4) (by omega) x hx hz
      have h2 := h.from_ c (t + 1) (nx s x) (by omega) (nx_lt s x hs2 hx) (fun y hy => hb y (List.mem_cons_of_mem _ hy)) h0
      rw [show (t % 4 + 1) % 4 = (t + 1) % 4 by omega] at h1
      omega
theorem Fix.ge {w : Nat → Nat} {A : Nat → Nat → Nat} {best : Nat} (h : Fix w A best) (t : Nat) (c : List Nat) (hc : Way c 0) : best ≤ pw w t 0 c := by
  obtain ⟨d, rfl⟩ := hc.first
  have h1 := h.first (t % 4) (by omega)
  have h2 := h.from_ d (t + 1) 32 (by omega) (by omega) (fun y hy => hc.bit y (List.mem_cons_of_mem _ hy)) hc.come
  rw [show (t % 4 + 1) % 4 = (t + 1) % 4 by omega, ew_congr w (t % 4) t 0 1 (by omega)] at h1
  show best ≤ ew w t 0 1 + pw w (t + 1) (nx 0 1) d
  rw [show nx 0 1 = 32 from rfl]
  omega
/-- A number that a way to a state weighs, or far. -/
def Cm (w : Nat → Nat) (far s t n : Nat) : Prop := n = far ∨ ∃ t0 c, Way c s ∧ (t0 + c.length) % 4 = t ∧ pw w t0 0 c = n
/-- The best so far is a detour's, or far. -/
def Cb (w : Nat → Nat) (far n : Nat) : Prop := n = far ∨ ∃ t0 c, Way c 0 ∧ pw w t0 0 c = n
theorem Cm.one (w : Nat → Nat) (far t : Nat) : Cm w far 32 ((t + 1) % 4) (ew w t 0 1) := .inr ⟨t, [1], Way.one, rfl, by simp [pw]⟩
theorem Cm.next {w : Nat → Nat} {far s t n : Nat} (h : Cm w far s t n) (hn : n ≠ far) (x : Nat) (hx : x ≤ 1) : Cm w far (nx s x) ((t + 1) % 4) (n + ew w t s x) := by
  rcases h with h | ⟨t0, c, hc, ht, e⟩
  · exact absurd h hn
  · refine .inr ⟨t0, c ++ [x], hc.next x hx, ?_, ?_⟩
    · rw [List.length_append, List.length_singleton]; omega
    · rw [hc.pw_next, e, ew_congr w (t0 + c.length) t s x (by omega)]
theorem Cm.back {w : Nat → Nat} {far s t n : Nat} (h : Cm w far s t n) (hn : n ≠ far) (x : Nat) (hx : x ≤ 1) (hz : nx s x = 0) : Cb w far (n + ew w t s x) := by
  rcases h with h | ⟨t0, c, hc, ht, e⟩
  · exact absurd h hn
  · refine .inr ⟨t0, c ++ [x], ?_, ?_⟩
    · have := hc.next x hx; rw [hz] at this; exact this
    · rw [hc.pw_next, e, ew_congr w (t0 + c.length) t s x (by omega)]
theorem ew_bound {w : Nat → Nat} (h : ∀ v, v < 4 → w v ≤ 7) (t s x : Nat) : ew w t s x ≤ 28 := by
  unfold ew
  have a0 := Nat.mul_le_mul (out_bit s x 0) (h (vr 0 t) (vr_lt _ _))
  have a1 := Nat.mul_le_mul (out_bit s x 1) (h (vr 1 t) (vr_lt _ _))
  have a2 := Nat.mul_le_mul (out_bit s x 2) (h (vr 2 t) (vr_lt _ _))
  have a3 := Nat.mul_le_mul (out_bit s x 3) (h (vr 3 t) (vr_lt _ _))
  omega
theorem pw_bound {w : Nat → Nat} (h : ∀ v, v < 4 → w v ≤ 7) : ∀ (c : List Nat) (t s : Nat), pw w t s c ≤ 28 * c.length
  | [], _, _ => by simp [pw]
  | x :: c, t, s => by
    have h1 := ew_bound h t s x
    have h2 := pw_bound h c (t + 1) (nx s x)
    show ew w t s x + pw w (t + 1) (nx s x) c ≤ 28 * (c.length + 1)
    omega
theorem way7 : Way [1, 0, 0, 0, 0, 0, 0] 0 := ⟨⟨_, rfl⟩, by decide, by decide⟩
/-- From such a table the least is read. -/
theorem Fix.lst {w : Nat → Nat} {A : Nat → Nat → Nat} {best far : Nat} (h : Fix w A best) (hb : Cb w far best) (hw : ∀ v, v < 4 → w v ≤ 7) (hf : 196 < far) : Lst w best := by
  refine ⟨h.ge, ?_⟩
  rcases hb with hb | hb
  · have h1 := h.ge 0 _ way7
    have h2 := pw_bound hw [1, 0, 0, 0, 0, 0, 0] 0 0
    simp only [List.length_cons, List.length_nil] at h2
    omega
  · exact hb
theorem Lst.bound {w : Nat → Nat} {n : Nat} (h : Lst w n) (hw : ∀ v, v < 4 → w v ≤ 7) : n ≤ 196 := by
  have h1 := h.ge 0 _ way7
  have h2 := pw_bound hw [1, 0, 0, 0, 0, 0, 0] 0 0
  simp only [List.length_cons, List.length_nil] at h2
  omega

/-! Codes -/
/-- What the first k bits of a code weigh. -/
def wcT (w : Nat → Nat) (c : List Nat) : Nat → Nat
  | 0 => 0
  | k + 1 => wcT w c k + c.getD k 0 * w (vr (k % 4) (k / 4))
theorem wc_four (w : Nat → Nat) (b : List Nat) (hb : ∀ x ∈ b, x ≤ 1) (t : Nat) (ht : t < b.length + 6) : wcT w (code b) (4 * t + 4) = wcT w (code b) (4 * t) + ew w t (sv b t) (b.getD t 0) := by
  show wcT w (code b) (4 * t) + (code b).getD (4 * t) 0 * w (vr (4 * t % 4) (4 * t / 4)) + (code b).getD (4 * t + 1) 0 * w (vr ((4 * t + 1) % 4) ((4 * t + 1) / 4)) + (code b).getD (4 * t + 2) 0 * w (vr ((4 * t + 2) % 4) ((4 * t + 2) / 4)) + (code b).getD (4 * t + 3) 0 * w (vr ((4 * t + 3) % 4) ((4 * t + 3) / 4)) = _
  have e0 := code_getD b t 0 (by omega) ht
  rw [Nat.add_zero] at e0
  rw [e0, code_getD b t 1 (by omega) ht, code_getD b t 2 (by omega) ht, code_getD b t 3 (by omega) ht]
  rw [show 4 * t % 4 = 0 by omega, show 4 * t / 4 = t by omega, show (4 * t + 1) % 4 = 1 by omega, show (4 * t + 1) / 4 = t by omega, show (4 * t + 2) % 4 = 2 by omega, show (4 * t + 2) / 4 = t by omega, show (4 * t + 3) % 4 = 3 by omega, show (4 * t + 3) / 4 = t by omega]
  unfold ew
  rw [out_bitAt b hb, out_bitAt b hb, out_bitAt b hb, out_bitAt b hb]
  omega
theorem wc_pw (w : Nat → Nat) (b : List Nat) (hb : ∀ x ∈ b, x ≤ 1) : ∀ k, k ≤ b.length + 6 → wcT w (code b) (4 * k) = pw w 0 0 ((b ++ z6).take k)
  | 0, _ => rfl
  | k + 1, h => by
    have hl : (b ++ z6).length = b.length + 6 := by rw [List.length_append]; rfl
    rw [show 4 * (k + 1) = 4 * k + 4 by omega, wc_four w b hb k (by omega), wc_pw w b hb k (by omega), List.take_succ_eq_append_getElem (by omega), pw_append, fold_sv b k (by omega), List.length_take, Nat.min_eq_left (by omega), Nat.zero_add]
    show _ = _ + (ew w k (sv b k) _ + 0)
    rw [← Bm.getD_lt (b ++ z6) 0 k (by omega), getD_z6]
    omega
theorem fold_end (b : List Nat) (hb : ∀ x ∈ b, x ≤ 1) : (b ++ z6).foldl nx 0 = 0 := by
  have hl : (b ++ z6).length = b.length + 6 := by rw [List.length_append]; rfl
  have := fold_sv b (b.length + 6) (Nat.le_refl _)
  rw [List.take_of_length_le (by omega), sv_end b hb] at this
  exact this
theorem split_first : ∀ (d : List Nat), (∀ x ∈ d, x ≤ 1) → (∃ j, j < d.length ∧ d.getD j 0 ≠ 0) → ∃ p e, d = List.replicate p 0 ++ 1 :: e
  | [], _, ⟨j, hj, _⟩ => by simp at hj
  | x :: d, hb, ⟨j, hj, h⟩ => by
    have hx := hb x List.mem_cons_self
    by_cases h1 : x = 1
    · exact ⟨0, d, by rw [h1]; rfl⟩
    · have h0 : x = 0 := by omega
      cases j with
      | zero => exact absurd h0 h
      | succ j =>
        obtain ⟨p, e, he⟩ := split_first d (fun y hy => hb y (List.mem_cons_of_mem _ hy)) ⟨j, by simpa using hj, h⟩
        exact ⟨p + 1, e, by rw [he, h0, List.replicate_succ]; rfl⟩
/-- A list that is not noughts alone has a code that weighs no less than a detour. -/
theorem Lst.list {w : Nat → Nat} {n : Nat} (h : Lst w n) (d : List Nat) (hd : ∀ x ∈ d, x ≤ 1) (hj : ∃ j, j < d.length ∧ d.getD j 0 ≠ 0) : n ≤ wcT w (code d) (4 * (d.length + 6)) := by
  have hl : (d ++ z6).length = d.length + 6 := by rw [List.length_append]; rfl
  rw [wc_pw w d hd _ (Nat.le_refl _), List.take_of_length_le (by omega)]
  obtain ⟨p, e, he⟩ := split_first d hd hj
  have hf := fold_end d hd
  rw [he, List.append_assoc] at hf ⊢
  rw [pw_zeros]
  refine h.ge _ _ ⟨⟨_, rfl⟩, fun y hy => ?_, ?_⟩
  · rcases List.mem_append.1 (show y ∈ (1 :: e) ++ z6 from hy) with h1 | h1
    · exact hd y (by rw [he]; exact List.mem_append_right _ h1)
    · have : ∀ z ∈ z6, z ≤ 1 := by decide
      exact this y h1
  · rw [List.foldl_append] at hf
    have : ∀ p, (List.replicate p 0).foldl nx 0 = 0 := by
      intro p
      induction p with
      | zero => rfl
      | succ p ih => rw [List.replicate_succ]; exact ih
    rw [this] at hf
    exact hf
theorem ne_place (a b : List Nat) (h : a.length = b.length) (hne : a ≠ b) : ∃ j, j < a.length ∧ a.getD j 0 ≠ b.getD j 0 := by
  apply Classical.byContradiction
  intro hn
  apply hne
  apply Bm.ext_getD h
  intro i hi
  apply Classical.byContradiction
  intro h2
  exact hn ⟨i, hi, h2⟩
/-- The codes of two unlike lists of one length are unlike in bits of the least weight. -/
theorem Lst.holds {w : Nat → Nat} {n : Nat} (h : Lst w n) (a b : List Nat) (ha : ∀ x ∈ a, x ≤ 1) (hb : ∀ x ∈ b, x ≤ 1) (hl : a.length = b.length) (hne : a ≠ b) : n ≤ wcT w (Crc.zx (code a) (code b)) (4 * (a.length + 6)) := by
  have hz := zx_bit a b ha hb hl
  have hzl := zx_length a b hl
  rw [← code_zx a b hl, ← hzl]
  obtain ⟨j, hj1, hj2⟩ := ne_place a b hl hne
  refine h.list (Crc.zx a b) hz ⟨j, by omega, ?_⟩
  rw [getD_zx a b hl]
  exact fun h5 => hj2 (Poly.xor_eq_zero _ _ h5)
/-- The whole code is twenty apart. -/
theorem ew_ones (t s x : Nat) : ew (fun _ => 1) t s x = wt4 s x := by unfold ew wt4; simp only [Nat.mul_one]
theorem hh_pw : ∀ (c : List Nat) (t s : Nat), s < 64 → (∀ x ∈ c, x ≤ 1) → hh.getD s 0 ≤ pw (fun _ => 1) t s c + hh.getD (c.foldl nx s) 0
  | [], t, s, _, _ => by simp [pw]
  | x :: c, t, s, hs, hb => by
    have hx := hb x List.mem_cons_self
    have h1 := hh_step s hs x (by omega)
    have h2 := hh_pw c (t + 1) (nx s x) (nx_lt s x hs hx) (fun y hy => hb y (List.mem_cons_of_mem _ hy))
    show _ ≤ ew _ t s x + pw _ (t + 1) (nx s x) c + hh.getD (c.foldl nx (nx s x)) 0
    rw [ew_ones]
    omega
theorem Lst.ones {n : Nat} (h : Lst (fun _ => 1) n) : 20 ≤ n := by
  obtain ⟨t, c, hc, e⟩ := h.is
  obtain ⟨d, rfl⟩ := hc.first
  have h1 := hh_pw d (t + 1) 32 (by omega) (fun y hy => hc.bit y (List.mem_cons_of_mem _ hy))
  have h2 : d.foldl nx 32 = 0 := hc.come
  rw [h2] at h1
  have e2 : ew (fun _ => 1) t 0 1 + pw (fun _ => 1) (t + 1) 32 d = n := e
  rw [ew_ones, hh_first.1] at e2
  have h3 := hh_first.2
  rw [show nx 0 1 = 32 from rfl] at h3
  rw [h3, show hh.getD 0 0 = 0 from rfl] at h1
  omega
theorem Lst.none {n : Nat} (h : Lst (fun _ => 0) n) : n = 0 := by
  obtain ⟨t, c, hc, e⟩ := h.is
  have key : ∀ (c : List Nat) (t s : Nat), pw (fun _ => 0) t s c = 0 := by
    intro c
    induction c with
    | nil => intro t s; rfl
    | cons x c ih => intro t s; show ew _ t s x + pw _ (t + 1) (nx s x) c = 0; rw [ih]; simp [ew]
  rw [key] at e
  exact e.symm
end Go.Proofs.Ytknfpdlomgllhaa.Cv
