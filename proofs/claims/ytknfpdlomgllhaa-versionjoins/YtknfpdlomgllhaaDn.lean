/-
  Plain mathematics for layers 11 and 13 (version, combine): a version's bits; numbers to which versions are added; what they score; versions that mend. No program is named.
-/
import Derived.Test.YtknfpdlomgllhaaDm
namespace Go.Proofs.Ytknfpdlomgllhaa.Cv
set_option linter.unusedVariables false

/-- A version's bits of a code. -/
def pick (c : List Nat) (v : Nat) : List Nat := (List.range (c.length / 4)).map fun t => c.getD (4 * t + st v t) 0
theorem pick_length (c : List Nat) (v : Nat) : (pick c v).length = c.length / 4 := by simp [pick]
theorem pick_get (c : List Nat) (v t : Nat) (h : t < c.length / 4) : (pick c v).getD t 0 = c.getD (4 * t + st v t) 0 := by
  rw [Bm.getD_lt _ _ _ (by rw [pick_length]; exact h)]
  simp [pick]
theorem pick_bit (c : List Nat) (hc : ∀ x ∈ c, x ≤ 1) (v : Nat) : ∀ x ∈ pick c v, x ≤ 1 := by
  intro x hx
  obtain ⟨t, _, rfl⟩ := List.mem_map.1 hx
  exact Bm.bit_le c hc _
/-- A bit as a number. -/
def sn (b : Nat) : Int := if b = 0 then 1 else -1
/-- What a version adds at a place. -/
def ctr (k : Nat) (r : Nat × List Nat) : Int := if vr (k % 4) (k / 4) = r.1 then sn (r.2.getD (k / 4) 0) else 0
theorem ctr_in (k : Nat) (r : Nat × List Nat) : -1 ≤ ctr k r ∧ ctr k r ≤ 1 := by unfold ctr sn; split <;> (try split) <;> omega
/-- Numbers to which a version is added. -/
def addv (l : List Int) (r : Nat × List Nat) : List Int := (List.range l.length).map fun k => l.getD k 0 + ctr k r
theorem addv_length (l : List Int) (r : Nat × List Nat) : (addv l r).length = l.length := by simp [addv]
theorem addv_get (l : List Int) (r : Nat × List Nat) (k : Nat) (h : k < l.length) : (addv l r).getD k 0 = l.getD k 0 + ctr k r := by
  rw [Bm.getD_lt _ _ _ (by rw [addv_length]; exact h)]
  simp [addv]
/-- Numbers of a row of versions. -/
def softs (T : Nat) (row : List (Nat × List Nat)) : List Int := row.foldl addv (List.replicate (4 * T) 0)
theorem softs_snoc (T : Nat) (row : List (Nat × List Nat)) (r : Nat × List Nat) : softs T (row ++ [r]) = addv (softs T row) r := by
  unfold softs
  rw [List.foldl_append]
  rfl
theorem fold_addv : ∀ (row : List (Nat × List Nat)) (l : List Int), (row.foldl addv l).length = l.length ∧ ∀ k, k < l.length → (row.foldl addv l).getD k 0 = l.getD k 0 + (row.map (ctr k)).sum
  | [], l => ⟨rfl, fun k _ => by simp⟩
  | r :: row, l => by
    obtain ⟨h1, h2⟩ := fold_addv row (addv l r)
    rw [addv_length] at h1 h2
    refine ⟨h1, fun k hk => ?_⟩
    show (row.foldl addv (addv l r)).getD k 0 = _
    rw [h2 k hk, addv_get l r k hk, List.map_cons, List.sum_cons]
    omega
theorem softs_length (T : Nat) (row : List (Nat × List Nat)) : (softs T row).length = 4 * T := by
  unfold softs
  rw [(fold_addv row _).1, List.length_replicate]
theorem softs_get (T : Nat) (row : List (Nat × List Nat)) (k : Nat) (h : k < 4 * T) : (softs T row).getD k 0 = (row.map (ctr k)).sum := by
  unfold softs
  rw [(fold_addv row _).2 k (by rw [List.length_replicate]; exact h), getD_noughts, Int.zero_add]
theorem sum_in (k : Nat) : ∀ row : List (Nat × List Nat), -(row.length : Int) ≤ (row.map (ctr k)).sum ∧ (row.map (ctr k)).sum ≤ (row.length : Int)
  | [] => by simp
  | r :: row => by
    have h1 := sum_in k row
    have h2 := ctr_in k r
    rw [List.map_cons, List.sum_cons, List.length_cons]
    omega
theorem softs_in (T : Nat) (row : List (Nat × List Nat)) : ∀ z ∈ softs T row, -(row.length : Int) ≤ z ∧ z ≤ (row.length : Int) := by
  intro z hz
  obtain ⟨k, hk, rfl⟩ := List.getElem_of_mem hz
  rw [← Bm.getD_lt (softs T row) 0 k hk, softs_get T row k (by rw [softs_length] at hk; exact hk)]
  exact sum_in k row
theorem ext_int {l m : List Int} (hl : l.length = m.length) (h : ∀ i, i < l.length → l.getD i 0 = m.getD i 0) : l = m := by
  apply List.ext_getElem hl
  intro i h1 h2
  have := h i h1
  rw [Bm.getD_lt _ _ _ h1, Bm.getD_lt _ _ _ h2] at this
  exact this
theorem perm_sum {a b : List Int} (h : a.Perm b) : a.sum = b.sum := by
  induction h with
  | nil => rfl
  | cons x _ ih => rw [List.sum_cons, List.sum_cons, ih]
  | swap x y l => simp only [List.sum_cons]; omega
  | trans _ _ h1 h2 => rw [h1, h2]
/-- In whatever order versions come, the numbers are the same. -/
theorem softs_perm (T : Nat) {a b : List (Nat × List Nat)} (h : a.Perm b) : softs T a = softs T b := by
  refine ext_int (by rw [softs_length, softs_length]) fun k hk => ?_
  rw [softs_length] at hk
  rw [softs_get T a k hk, softs_get T b k hk]
  exact perm_sum (h.map (ctr k))

/-! Scores -/
theorem sg_add (c : Nat) (x y : Int) : sg c (x + y) = sg c x + sg c y := by unfold sg; split <;> omega
/-- What a version's bits score with a code's. -/
def gs (c p : List Nat) (v : Nat) : Nat → Int
  | 0 => 0
  | k + 1 => gs c p v k + sg (c.getD (4 * k + st v k) 0) (sn (p.getD k 0))
theorem vr_iff (i t v : Nat) (hi : i < 4) (hv : v < 4) : vr i t = v ↔ i = st v t := by
  constructor
  · intro h; rw [← h, st_vr i t hi]
  · intro h; rw [h, vr_st v t hv]
theorem ctr_at (t i v : Nat) (p : List Nat) (hi : i < 4) (hv : v < 4) : ctr (4 * t + i) (v, p) = if i = st v t then sn (p.getD t 0) else 0 := by
  unfold ctr
  rw [show (4 * t + i) % 4 = i by omega, show (4 * t + i) / 4 = t by omega]
  by_cases h : i = st v t
  · rw [if_pos h, if_pos ((vr_iff i t v hi hv).2 h)]
  · rw [if_neg h, if_neg (fun h2 => h ((vr_iff i t v hi hv).1 h2))]
theorem sc_addv (l : List Int) (c p : List Nat) (v T : Nat) (hv : v < 4) (hl : l.length = 4 * T) : ∀ k, k ≤ T → scTo (addv l (v, p)) c (4 * k) = scTo l c (4 * k) + gs c p v k
  | 0, _ => by simp [scTo, gs]
  | k + 1, h => by
    have ih := sc_addv l c p v T hv hl k (by omega)
    rw [show 4 * (k + 1) = 4 * k + 4 by omega]
    show scTo (addv l (v, p)) c (4 * k) + sg (c.getD (4 * k) 0) _ + sg (c.getD (4 * k + 1) 0) _ + sg (c.getD (4 * k + 2) 0) _ + sg (c.getD (4 * k + 3) 0) _ = scTo l c (4 * k) + sg (c.getD (4 * k) 0) _ + sg (c.getD (4 * k + 1) 0) _ + sg (c.getD (4 * k + 2) 0) _ + sg (c.getD (4 * k + 3) 0) _ + (gs c p v k + sg (c.getD (4 * k + st v k) 0) (sn (p.getD k 0)))
    have a0 := ctr_at k 0 v p (by omega) hv
    rw [Nat.add_zero] at a0
    rw [ih, addv_get l _ (4 * k) (by omega), addv_get l _ (4 * k + 1) (by omega), addv_get l _ (4 * k + 2) (by omega), addv_get l _ (4 * k + 3) (by omega), a0, ctr_at k 1 v p (by omega) hv, ctr_at k 2 v p (by omega) hv, ctr_at k 3 v p (by omega) hv, sg_add, sg_add, sg_add, sg_add]
    have hs := st_lt v k
    have h4 : st v k = 0 ∨ st v k = 1 ∨ st v k = 2 ∨ st v k = 3 := by omega
    rcases h4 with h4 | h4 | h4 | h4 <;> rw [h4] <;> simp [sg_nought] <;> omega
theorem gs_cnt (c p : List Nat) (v T : Nat) (hc : ∀ x ∈ c, x ≤ 1) (hp : ∀ x ∈ p, x ≤ 1) (hl : c.length = 4 * T) : ∀ k, k ≤ T → gs c p v k = (k : Int) - 2 * (Bm.cnt (fun t => p.getD t 0 != (pick c v).getD t 0) k : Nat)
  | 0, _ => rfl
  | k + 1, h => by
    show gs c p v k + _ = _
    have e : sg (c.getD (4 * k + st v k) 0) (sn (p.getD k 0)) = 1 - 2 * ((if p.getD k 0 != c.getD (4 * k + st v k) 0 then 1 else 0 : Nat) : Int) := sg_soft _ _ (Bm.bit_le p hp k) (Bm.bit_le c hc _)
    rw [gs_cnt c p v T hc hp hl k (by omega), cnt_succ, e, pick_get c v k (by omega)]
    generalize (if (p.getD k 0 != c.getD (4 * k + st v k) 0) = true then 1 else 0) = z
    omega
theorem score_addv (l : List Int) (c p : List Nat) (v T : Nat) (hv : v < 4) (hl : l.length = 4 * T) (hc : ∀ x ∈ c, x ≤ 1) (hp : ∀ x ∈ p, x ≤ 1) (hcl : c.length = 4 * T) (hpl : p.length = T) :
    score (addv l (v, p)) c = score l c + ((T : Int) - 2 * (Bm.ap p (pick c v) : Nat)) := by
  unfold score Bm.ap
  rw [addv_length, hl, sc_addv l c p v T hv hl T (Nat.le_refl _), gs_cnt c p v T hc hp hcl T (Nat.le_refl _), hpl]
/-- What versions lie apart from a code's, together. -/
def apr (c : List Nat) (row : List (Nat × List Nat)) : Nat := (row.map fun r => Bm.ap r.2 (pick c r.1)).sum
theorem apr_snoc (c : List Nat) (row : List (Nat × List Nat)) (r : Nat × List Nat) : apr c (row ++ [r]) = apr c row + Bm.ap r.2 (pick c r.1) := by
  unfold apr
  rw [List.map_append, List.sum_append]
  simp
/-- Versions as they may be. -/
def Vers (T : Nat) (row : List (Nat × List Nat)) : Prop := ∀ r ∈ row, r.1 < 4 ∧ r.2.length = T ∧ ∀ x ∈ r.2, x ≤ 1
theorem Vers.snoc {T : Nat} {row : List (Nat × List Nat)} (h : Vers T row) (r : Nat × List Nat) (h1 : r.1 < 4) (h2 : r.2.length = T) (h3 : ∀ x ∈ r.2, x ≤ 1) : Vers T (row ++ [r]) := by
  intro q hq
  rcases List.mem_append.1 hq with hq | hq
  · exact h q hq
  · rw [List.mem_singleton.1 hq]; exact ⟨h1, h2, h3⟩
theorem score_fold (c : List Nat) (T : Nat) (hc : ∀ x ∈ c, x ≤ 1) (hcl : c.length = 4 * T) : ∀ (row : List (Nat × List Nat)) (l : List Int), l.length = 4 * T → Vers T row → score (row.foldl addv l) c = score l c + ((row.length : Int) * T - 2 * (apr c row : Nat))
  | [], l, _, _ => by simp [apr]
  | r :: row, l, hl, hv => by
    obtain ⟨h1, h2, h3⟩ := hv r List.mem_cons_self
    show score (row.foldl addv (addv l r)) c = _
    rw [score_fold c T hc hcl row (addv l r) (by rw [addv_length]; exact hl) (fun q hq => hv q (List.mem_cons_of_mem _ hq)), score_addv l c r.2 r.1 T h1 hl hc h3 hcl h2]
    have e : apr c (r :: row) = Bm.ap r.2 (pick c r.1) + apr c row := by unfold apr; rw [List.map_cons, List.sum_cons]
    rw [e, List.length_cons]
    have e2 : ((row.length + 1 : Nat) : Int) * (T : Int) = (row.length : Int) * T + T := by rw [Int.natCast_add, Int.add_mul]; simp
    rw [e2]
    omega
theorem score_row (c : List Nat) (T : Nat) (hc : ∀ x ∈ c, x ≤ 1) (hcl : c.length = 4 * T) (row : List (Nat × List Nat)) (hv : Vers T row) : score (softs T row) c = (row.length : Int) * T - 2 * (apr c row : Nat) := by
  have h0 : score (List.replicate (4 * T) 0) c = 0 := by
    have key : ∀ k, scTo (List.replicate (4 * T) 0) c k = 0 := by
      intro k
      induction k with
      | zero => rfl
      | succ k ih =>
        show scTo _ c k + sg _ _ = 0
        rw [ih, getD_noughts, sg_nought]
        rfl
    exact key _
  unfold softs
  rw [score_fold c T hc hcl row _ (List.length_replicate ..) hv, h0, Int.zero_add]

/-! Versions that mend -/
/-- What the versions of two codes lie apart, each as often as it came. -/
def apw (x y : List Nat) (row : List (Nat × List Nat)) : Nat := (row.map fun r => Bm.ap (pick x r.1) (pick y r.1)).sum
theorem apr_tri (x y : List Nat) (T : Nat) (hx : x.length = 4 * T) (hy : y.length = 4 * T) : ∀ row : List (Nat × List Nat), Vers T row → apw x y row ≤ apr x row + apr y row
  | [], _ => by simp [apw, apr]
  | r :: row, hv => by
    obtain ⟨h1, h2, h3⟩ := hv r List.mem_cons_self
    have ih := apr_tri x y T hx hy row (fun q hq => hv q (List.mem_cons_of_mem _ hq))
    have hl : (pick x r.1).length = r.2.length := by rw [pick_length, hx, h2]; omega
    have t := Bm.ap_tri (pick x r.1) r.2 (pick y r.1) hl
    rw [ap_comm (pick x r.1) r.2 hl] at t
    unfold apw apr at *
    rw [List.map_cons, List.sum_cons, List.map_cons, List.sum_cons, List.map_cons, List.sum_cons]
    omega
/-- Where each other list's versions lie farther apart than twice what was turned, the list is the best one. -/
theorem row_best (b : List Nat) (hb : ∀ x ∈ b, x ≤ 1) (row : List (Nat × List Nat)) (hv : Vers (b.length + 6) row)
    (h : ∀ c, c.length = b.length → (∀ x ∈ c, x ≤ 1) → c ≠ b → 2 * apr (code b) row < apw (code b) (code c) row) : Best (tot (softs (b.length + 6) row)) b.length b := by
  have hs : ∀ c, c.length = b.length → (∀ x ∈ c, x ≤ 1) → tot (softs (b.length + 6) row) c = (row.length : Int) * ((b.length + 6 : Nat) : Int) - 2 * (apr (code c) row : Nat) := by
    intro c h1 h2
    rw [← score_tot _ c h2 (by rw [softs_length, h1]), score_row (code c) (b.length + 6) (code_bit c h2) (by rw [code_length, h1]) row hv]
  refine Best.strict rfl hb fun c h1 h2 hne => ?_
  rw [hs c h1 h2, hs b rfl hb]
  have h3 := h c h1 h2 hne
  have h4 := apr_tri (code b) (code c) (b.length + 6) (code_length b) (by rw [code_length, h1]) row hv
  omega
/-- How often a version came. -/
def cv (row : List (Nat × List Nat)) (v : Nat) : Nat := (row.filter fun r => r.1 == v).length
theorem cv_snoc (row : List (Nat × List Nat)) (r : Nat × List Nat) (v : Nat) : cv (row ++ [r]) v = cv row v + if r.1 = v then 1 else 0 := by
  unfold cv
  rw [List.filter_append, List.length_append]
  by_cases h : r.1 = v <;> simp [h]
theorem wcT_add (w u : Nat → Nat) (c : List Nat) : ∀ k, wcT (fun v => w v + u v) c k = wcT w c k + wcT u c k
  | 0 => rfl
  | k + 1 => by
    show wcT _ c k + _ * (_ + _) = wcT w c k + _ + (wcT u c k + _)
    rw [wcT_add w u c k, Nat.mul_add]
    omega
theorem wcT_none (c : List Nat) : ∀ k, wcT (fun _ => 0) c k = 0
  | 0 => rfl
  | k + 1 => by
    show wcT _ c k + _ * 0 = 0
    rw [wcT_none c k, Nat.mul_zero]
theorem xor_one (x y : Nat) (hx : x ≤ 1) (hy : y ≤ 1) : (if (x != y) = true then 1 else 0) = x ^^^ y := by
  have h1 : x = 0 ∨ x = 1 := by omega
  have h2 : y = 0 ∨ y = 1 := by omega
  rcases h1 with rfl | rfl <;> rcases h2 with rfl | rfl <;> rfl
theorem wcT_one (x y : List Nat) (hx : ∀ z ∈ x, z ≤ 1) (hy : ∀ z ∈ y, z ≤ 1) (T : Nat) (hxl : x.length = 4 * T) (hyl : y.length = 4 * T) (v : Nat) (hv : v < 4) : ∀ k, k ≤ T → wcT (fun u => if v = u then 1 else 0) (Crc.zx x y) (4 * k) = Bm.cnt (fun t => (pick x v).getD t 0 != (pick y v).getD t 0) k
  | 0, _ => rfl
  | k + 1, h => by
    have hl : x.length = y.length := by omega
    have ih := wcT_one x y hx hy T hxl hyl v hv k (by omega)
    rw [cnt_succ, pick_get x v k (by omega), pick_get y v k (by omega), xor_one _ _ (Bm.bit_le x hx _) (Bm.bit_le y hy _), ← ih, show 4 * (k + 1) = 4 * k + 4 by omega]
    show wcT _ (Crc.zx x y) (4 * k) + (Crc.zx x y).getD (4 * k) 0 * (if v = vr (4 * k % 4) (4 * k / 4) then 1 else 0) + (Crc.zx x y).getD (4 * k + 1) 0 * (if v = vr ((4 * k + 1) % 4) ((4 * k + 1) / 4) then 1 else 0) + (Crc.zx x y).getD (4 * k + 2) 0 * (if v = vr ((4 * k + 2) % 4) ((4 * k + 2) / 4) then 1 else 0) + (Crc.zx x y).getD (4 * k + 3) 0 * (if v = vr ((4 * k + 3) % 4) ((4 * k + 3) / 4) then 1 else 0) = _
    rw [show 4 * k % 4 = 0 by omega, show 4 * k / 4 = k by omega, show (4 * k + 1) % 4 = 1 by omega, show (4 * k + 1) / 4 = k by omega, show (4 * k + 2) % 4 = 2 by omega, show (4 * k + 2) / 4 = k by omega, show (4 * k + 3) % 4 = 3 by omega, show (4 * k + 3) / 4 = k by omega]
    have e : ∀ i, i < 4 → (if v = vr i k then 1 else 0) = if i = st v k then 1 else 0 := by
      intro i hi
      by_cases h1 : i = st v k
      · rw [if_pos h1, if_pos ((vr_iff i k v hi hv).2 h1).symm]
      · rw [if_neg h1, if_neg (fun h2 => h1 ((vr_iff i k v hi hv).1 h2.symm))]
    rw [e 0 (by omega), e 1 (by omega), e 2 (by omega), e 3 (by omega), ← getD_zx x y hl]
    have hs := st_lt v k
    have h4 : st v k = 0 ∨ st v k = 1 ∨ st v k = 2 ∨ st v k = 3 := by omega
    rcases h4 with h4 | h4 | h4 | h4 <;> rw [h4] <;> simp
theorem apw_wcT (x y : List Nat) (hx : ∀ z ∈ x, z ≤ 1) (hy : ∀ z ∈ y, z ≤ 1) (T : Nat) (hxl : x.length = 4 * T) (hyl : y.length = 4 * T) : ∀ row : List (Nat × List Nat), Vers T row → apw x y row = wcT (cv row) (Crc.zx x y) (4 * T)
  | [], _ => by
    have e : cv ([] : List (Nat × List Nat)) = fun _ => 0 := rfl
    rw [e, wcT_none]
    rfl
  | r :: row, hv => by
    obtain ⟨h1, h2, h3⟩ := hv r List.mem_cons_self
    have e : cv (r :: row) = fun v => (if r.1 = v then 1 else 0) + cv row v := by
      funext v
      unfold cv
      rw [List.filter_cons]
      by_cases h : r.1 = v <;> simp [h] <;> omega
    have e2 : apw x y (r :: row) = Bm.ap (pick x r.1) (pick y r.1) + apw x y row := by unfold apw; rw [List.map_cons, List.sum_cons]
    have e3 : Bm.ap (pick x r.1) (pick y r.1) = Bm.cnt (fun t => (pick x r.1).getD t 0 != (pick y r.1).getD t 0) T := by
      unfold Bm.ap
      rw [pick_length, hxl, show 4 * T / 4 = T by omega]
    rw [e, wcT_add, wcT_one x y hx hy T hxl hyl r.1 h1 T (Nat.le_refl _), e2, e3, apw_wcT x y hx hy T hxl hyl row (fun q hq => hv q (List.mem_cons_of_mem _ hq))]
/-- With no more turned than half of the least the list is told. -/
theorem row_mends (b : List Nat) (hb : ∀ x ∈ b, x ≤ 1) (row : List (Nat × List Nat)) (hv : Vers (b.length + 6) row) (n : Nat) (hn : Lst (cv row) n) (h : 2 * apr (code b) row < n) : Best (tot (softs (b.length + 6) row)) b.length b := by
  refine row_best b hb row hv fun c h1 h2 hne => ?_
  have h3 := hn.holds b c hb h2 h1.symm (Ne.symm hne)
  rw [← apw_wcT (code b) (code c) (code_bit b hb) (code_bit c h2) (b.length + 6) (code_length b) (by rw [code_length, h1]) row hv] at h3
  omega
theorem cnt_zero {p : Nat → Bool} : ∀ k, Bm.cnt p k = 0 → ∀ i, i < k → p i = false
  | 0, _, i, hi => by omega
  | k + 1, h, i, hi => by
    rw [cnt_succ] at h
    by_cases hik : i = k
    · subst hik
      cases hp : p i with
      | false => rfl
      | true => rw [hp] at h; simp at h
    · exact cnt_zero k (by omega) i (by omega)
/-- Each version alone tells the list. -/
theorem pick_ne (b c : List Nat) (hl : c.length = b.length) (hne : c ≠ b) (v : Nat) : 0 < Bm.ap (pick (code b) v) (pick (code c) v) := by
  apply Classical.byContradiction
  intro h0
  have h : Bm.ap (pick (code b) v) (pick (code c) v) = 0 := by omega
  unfold Bm.ap at h
  rw [pick_length, code_length, show 4 * (b.length + 6) / 4 = b.length + 6 by omega] at h
  refine hne (alone c b b.length hl rfl (fun t => st v t) fun t ht => ?_)
  have e := cnt_zero _ h t (by omega)
  rw [pick_get _ _ _ (by rw [code_length]; omega), pick_get _ _ _ (by rw [code_length]; omega), code_getD b t _ (st_lt v t) (by omega), code_getD c t _ (st_lt v t) (by omega)] at e
  have e2 : bitAt b t (st v t) = bitAt c t (st v t) := by simpa using e
  exact e2.symm
/-- Whole versions, one or more: the list is told. -/
theorem row_whole (b : List Nat) (hb : ∀ x ∈ b, x ≤ 1) (row : List (Nat × List Nat)) (hne : row ≠ []) (hw : ∀ r ∈ row, r.1 < 4 ∧ r.2 = pick (code b) r.1) : Best (tot (softs (b.length + 6) row)) b.length b := by
  have hv : Vers (b.length + 6) row := by
    intro r hr
    obtain ⟨h1, h2⟩ := hw r hr
    rw [h2]
    exact ⟨h1, by rw [pick_length, code_length]; omega, pick_bit _ (code_bit b hb) _⟩
  have hself : ∀ l : List Nat, Bm.ap l l = 0 := by
    intro l
    have key : ∀ k, Bm.cnt (fun i => l.getD i 0 != l.getD i 0) k = 0 := by
      intro k
      induction k with
      | zero => rfl
      | succ k ih => rw [cnt_succ, ih]; simp
    exact key _
  have h0 : apr (code b) row = 0 := by
    unfold apr
    have : ∀ rs : List (Nat × List Nat), (∀ r ∈ rs, r.1 < 4 ∧ r.2 = pick (code b) r.1) → (rs.map fun r => Bm.ap r.2 (pick (code b) r.1)).sum = 0 := by
      intro rs
      induction rs with
      | nil => intro _; rfl
      | cons r rs ih =>
        intro h
        rw [List.map_cons, List.sum_cons, ih (fun q hq => h q (List.mem_cons_of_mem _ hq)), (h r List.mem_cons_self).2, hself]
    exact this row hw
  refine row_best b hb row hv fun c h1 h2 hne2 => ?_
  rw [h0]
  cases row with
  | nil => exact absurd rfl hne
  | cons r rs =>
    have := pick_ne b c h1 hne2 r.1
    unfold apw
    rw [List.map_cons, List.sum_cons]
    omega
end Go.Proofs.Ytknfpdlomgllhaa.Cv
