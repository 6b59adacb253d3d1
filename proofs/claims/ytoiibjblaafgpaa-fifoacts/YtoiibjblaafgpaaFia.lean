/-
  Rows that begin within their block; append onto them; a queue (layer 28): New, Kept, Under, Waiting, Deliver, Ack, Poll.
-/
import Derived.Test.YtoiibjblaafgpaaPia
import Derived.Test.YtoiibjblaafgpaaMh
namespace Go.Proofs.Ytoiibjblaafgpaa
open Go.RowKit
set_option maxRecDepth 100000
set_option linter.unusedVariables false
set_option linter.unusedSimpArgs false
set_option maxRecDepth 100000

/-- A row of elements of one cell, from some place of its block on. -/
structure OffR (w : World) (e : TypeId) (A : Option Addr) (n c : Nat) (xs : List Value) : Prop where
  len : xs.length = n
  at_ : (A = none ∧ n = 0 ∧ c = 0) ∨ ∃ b off cur, A = some ⟨b, off, none⟩ ∧ w.heap[b]? = some (.cells cur e (0, 0)) ∧ n ≤ c ∧ c ≤ maxLen ∧ off + c ≤ cur.size ∧ ∀ i, i < n → cur[off + i]? = xs[i]?
theorem OffR.nil (w : World) (e : TypeId) : OffR w e none 0 0 [] := ⟨rfl, .inl ⟨rfl, rfl, rfl⟩⟩
theorem OffR.heap {w w' : World} {e : TypeId} {A : Option Addr} {n c : Nat} {xs : List Value} (h : OffR w e A n c xs) (hb : ∀ k, blk A = some k → w'.heap[k]? = w.heap[k]?) : OffR w' e A n c xs := by
  refine ⟨h.len, ?_⟩
  rcases h.at_ with h1 | ⟨b, off, cur, hA, hg, rest⟩
  · exact .inl h1
  · exact .inr ⟨b, off, cur, hA, by rw [hb b (by rw [hA]; rfl)]; exact hg, rest⟩
theorem OffR.lt {w : World} {e : TypeId} {A : Option Addr} {n c : Nat} {xs : List Value} (h : OffR w e A n c xs) (k : Nat) (hk : blk A = some k) : k < w.heap.size := by
  rcases h.at_ with ⟨h1, _⟩ | ⟨b, off, cur, hA, hg, rest⟩
  · rw [h1] at hk; cases hk
  · rw [hA] at hk
    injection hk with hk
    rw [← hk]
    exact (Array.getElem?_eq_some_iff.1 hg).1
theorem OffR.ne_blk {w : World} {g : Nat} {e e' : TypeId} {A : Option Addr} {n c : Nat} {xs : List Value} {cs : Array Value} (h : OffR w e A n c xs) (h' : Blk w g e' cs) (hne : e ≠ e') : blk A ≠ some g := by
  intro hk
  rcases h.at_ with ⟨h1, _⟩ | ⟨b, off, cur, hA, hg, rest⟩
  · rw [h1] at hk; cases hk
  · rw [hA] at hk
    injection hk with hk
    have hk' : b = g := hk
    subst hk'
    unfold Blk at h'
    rw [hg] at h'
    injection h' with q2
    injection q2 with _ q2
    exact hne q2
theorem OffR.ne_own {w : World} {b0 : Nat} {e e' : TypeId} {A A' : Option Addr} {n c n' c' : Nat} {xs xs' : List Value} (h : OffR w e A n c xs) (h' : Own w b0 e' A' n' c' xs') (hne : e ≠ e') (k : Nat) (hk : blk A' = some k) : blk A ≠ some k := by
  obtain ⟨cur, hg⟩ := h'.ty k hk
  exact h.ne_blk (show Blk w k e' cur from hg) hne
/-- The first cell. -/
theorem OffR.first {w : World} {e : TypeId} {A : Option Addr} {n c : Nat} {x : Value} {xs : List Value} (h : OffR w e A n c (x :: xs)) : ∃ b off cur, A = some ⟨b, off, none⟩ ∧ Blk w b e cur ∧ 0 < n ∧ 0 < c ∧ off < cur.size ∧ w.cell? ⟨b, off, none⟩ = some x := by
  have hl := h.len
  rw [List.length_cons] at hl
  rcases h.at_ with ⟨_, h1, _⟩ | ⟨b, off, cur, hA, hg, h1, h2, h3, h4⟩
  · omega
  · refine ⟨b, off, cur, hA, hg, by omega, by omega, by omega, ?_⟩
    have := h4 0 (by omega)
    rw [Nat.add_zero] at this
    have hb : Blk w b e cur := hg
    rw [hb.cell off, this]; rfl
/-- The first one is dropped: its cell is written, and the slice begins behind it. -/
theorem OffR.drop1 {w w' : World} {e : TypeId} {b off n c : Nat} {x v : Value} {xs : List Value} {cur : Array Value} (h : OffR w e (some ⟨b, off, none⟩) n c (x :: xs)) (hc : Blk w b e cur) (hu : Upd w w' b e (cur.setIfInBounds off v)) :
    OffR w' e (if c = 1 then some ⟨b, off, none⟩ else some ⟨b, off + 1, none⟩) (n - 1) (c - 1) xs := by
  have hl := h.len
  rw [List.length_cons] at hl
  refine ⟨by omega, .inr ?_⟩
  rcases h.at_ with ⟨h0, _⟩ | ⟨b', off', cur', hA, hg, h1, h2, h3, h4⟩
  · cases h0
  · injection hA with hA
    injection hA with e1 e2
    subst e1 e2
    have hcc : cur' = cur := by
      unfold Blk at hc
      rw [hg] at hc
      injection hc with hc
      injection hc with hc
    subst hcc
    have hcell : ∀ i, i < n - 1 → (cur'.setIfInBounds off v)[off + 1 + i]? = xs[i]? := fun i hi => by
      rw [Array.getElem?_setIfInBounds, if_neg (by omega)]
      have := h4 (i + 1) (by omega)
      rw [show off + (i + 1) = off + 1 + i by omega] at this
      rw [this]; rfl
    by_cases hc1 : c = 1
    · rw [if_pos hc1]
      exact ⟨b, off, _, rfl, hu.row, by omega, by omega, by rw [Array.size_setIfInBounds]; omega, fun i hi => absurd hi (by omega)⟩
    · rw [if_neg hc1]
      exact ⟨b, off + 1, _, rfl, hu.row, by omega, by omega, by rw [Array.size_setIfInBounds]; omega, hcell⟩
section
variable {P : Program} (w : World)
/-- append of one, where there is room. -/
theorem run_append_off_room (t ty e : TypeId) (i : TypeInfo) (ht : P.underlying t = some (.slice e)) (hi : P.info? e = some i) (hs : i.size = 1)
    (g off sLen sCap : Nat) (cur : Array Value) (hg : w.heap[g]? = some (.cells cur e (0, 0))) (a : Addr) (c : Nat) (v : Value) (hv : w.cell? a = some v) (h1 : v.oneCell' = true)
    (hroom : sLen + 1 ≤ sCap) (hfit : off + sLen + 1 ≤ cur.size) :
    (Builtin.append_ #[t, t] ty #[.slice (some ⟨g, off, none⟩) sLen sCap, .slice (some a) 1 c]).run P w =
      .ok (.slice (some ⟨g, off, none⟩) (sLen + 1) sCap) (w.setRow g (cur.toList.take (off + sLen) ++ [v] ++ cur.toList.drop (off + sLen + 1)).toArray) := by
  have hf := run_firstCells_some (P := P) w 1 1 a 1 c [v] rfl (by intro j u hu; match j, hu with | 0, hu => (simp at hu; subst hu; have : a.add 0 = a := by { unfold Addr.add; split <;> simp_all }; rw [this]; exact hv))
  have hst := run_storeCells_at P g (off + sLen) e [v] 0 cur w hg (by simpa using hfit) (by simp [h1])
  simp only [Nat.add_zero] at hst
  simp [Builtin.append_, run_underlying ht, sizeOf, typeInfo, hi, hs, Builtin.lenOf, hroom, hf, Addr.add_lit, hst]
/-- append of one, onto such a row. -/
theorem run_append_off (t ty e : TypeId) (i : TypeInfo) (z : Value) (bytes : Nat) (ht : P.underlying t = some (.slice e)) (hi : P.info? e = some i) (hz : i.zero = some z) (hs : i.size = 1) (hby : i.bytes = bytes) (hzs : z.cells.size = 1)
    (A : Option Addr) (n c : Nat) (xs : List Value) (h : OffR w e A n c xs) (a : Addr) (c2 : Nat) (v : Value) (hv : w.cell? a = some v) (h1 : v.oneCell' = true)
    (h63 : n + 1 ≤ maxLen) (hbytes : (n + 1) * bytes ≤ 140737488355328) :
    ∃ A' c' w', (Builtin.append_ #[t, t] ty #[.slice A n c, .slice (some a) 1 c2]).run P w = .ok (.slice A' (n + 1) c') w' ∧ OffR w' e A' (n + 1) c' (xs ++ [v]) ∧ w.grownBy w' (blk A) ∧ (blk A' = blk A ∨ blk A' = some w.heap.size) := by
  have hl := h.len
  have hadd : ∀ b off j, ((⟨b, off, none⟩ : Addr).add j) = ⟨b, off + j, none⟩ := fun b off j => Addr.add_lit ..
  have ha0 : a.add 0 = a := by unfold Addr.add; split <;> simp_all
  have hnews : ∀ j u, [v][j]? = some u → w.cell? (a.add j) = some u := by
    intro j u hu
    match j, hu with
    | 0, hu => simp at hu; subst hu; rw [ha0]; exact hv
  rcases h.at_ with ⟨rfl, rfl, rfl⟩ | ⟨b, off, cur, rfl, hg, hnc, hcm, hsz, hcell⟩
  · obtain ⟨v', w', hrun, h2, h3, _, h5⟩ := run_append_own_at (P := P) w 0 t ty e i z 1 bytes ht hi hz hs hby hzs (by omega) (.slice none 0 0) 0 xs (by
      have : xs = [] := List.eq_nil_of_length_eq_zero hl
      subst this; exact World.ownsRow_nil _ _ _ _) a 1 c2 [v] rfl hnews (by simp [h1]) (by omega) (by omega) (Nat.zero_le _)
    obtain ⟨A', c', rfl⟩ := slice_of_own h2
    have ho : Own w' 0 e A' (0 + 1) c' (xs ++ [v]) := ⟨h2⟩
    refine ⟨A', c', w', hrun, ⟨by rw [List.length_append, hl]; rfl, .inr ?_⟩, h3, ?_⟩
    · rcases ho.row.2 with ⟨hv', h0⟩ | ⟨g, cap, cur, hv', hbg, hgg, q1, q2, q3, q4⟩
      · omega
      · injection hv' with e1 e2 e3
        subst e1 e3
        refine ⟨g, 0, cur, rfl, hgg, q1, q2, by omega, fun i hi => ?_⟩
        rw [Nat.zero_add, ← q4, List.getElem?_take, if_pos (by omega)]
        simp
    · rw [blk_own, blk_own] at h5; exact h5
  · by_cases hroom : n + 1 ≤ c
    · have hr := run_append_off_room (P := P) w t ty e i ht hi hs b off n c cur hg a c2 v hv h1 hroom (by omega)
      refine ⟨_, _, _, hr, ⟨by rw [List.length_append, hl]; rfl, .inr ⟨b, off, _, rfl, setRow_heap w b cur _ e _ hg, hroom, hcm, ?_, fun i hi => ?_⟩⟩, ⟨rfl, rfl, rfl, by simp, fun k _ hk => setRow_other w b k _ (fun e => hk (by simp [blk, e]))⟩, .inl rfl⟩
      · simp only [List.size_toArray, List.length_append, List.length_take, List.length_drop, Array.length_toList, List.length_singleton]
        omega
      · rw [List.getElem?_toArray]
        by_cases hin : i < n
        · rw [List.append_assoc, List.getElem?_append_left (by rw [List.length_take, Array.length_toList]; omega), List.getElem?_take, if_pos (by omega), List.getElem?_append_left (by omega), ← hcell i hin]
          simp
        · have hin2 : i = n := by omega
          have hlen : (cur.toList.take (off + n)).length = off + n := by rw [List.length_take, Array.length_toList]; omega
          have e1 : (cur.toList.take (off + n) ++ [v] ++ cur.toList.drop (off + n + 1))[off + n]? = some v := by
            rw [List.append_assoc, List.getElem?_append_right (by omega), hlen, Nat.sub_self]; rfl
          have e2 : (xs ++ [v])[n]? = some v := by rw [List.getElem?_append_right (by omega), hl, Nat.sub_self]; rfl
          rw [hin2, e1, e2]
    · have holds : ∀ j u, xs[j]? = some u → w.cell? ((⟨b, off, none⟩ : Addr).add j) = some u := by
        intro j u hu
        have hj : j < xs.length := (List.getElem?_eq_some_iff.1 hu).1
        rw [hadd]
        have hb : Blk w b e cur := hg
        rw [hb.cell, hcell j (by omega)]; exact hu
      have hr := run_append_grow (P := P) w t ty e i z ht hi hz ⟨b, off, none⟩ n c xs (by rw [hl, hs, Nat.mul_one]) holds a 1 c2 [v] (by rw [hs]; rfl) hnews (by omega) (by simp only [maxLen] at h63; omega) (growslice_fits (by omega) (by rw [hby]; exact hbytes))
      refine ⟨_, _, _, hr, ⟨by rw [List.length_append, hl]; rfl, .inr ⟨w.heap.size, 0, _, rfl, heap_alloc_new w.drew _, grownCap_ge w (n + 1) c e, grownCap_le_maxLen w (n + 1) c e h63, ?_, fun i hi => ?_⟩⟩, ⟨rfl, rfl, rfl, by simp, fun k hk _ => Below.heap_alloc w.drew _ k hk⟩, .inr rfl⟩
      · simp only [Array.size_append, List.size_toArray, size_zeroCells, hzs]
        have := grownCap_ge w (n + 1) c e
        rw [hl, List.length_singleton]; omega
      · rw [Nat.zero_add, Array.getElem?_append_left (by simp [hl]; omega)]
        simp
end
end Go.Proofs.Ytoiibjblaafgpaa
