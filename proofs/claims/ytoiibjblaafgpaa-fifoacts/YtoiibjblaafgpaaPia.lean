/-
  Layer 34 (long texts in messages): rows of rows of bytes; the messages of a text.
-/
import Derived.Test.YtoiibjblaafgpaaMem
import Derived.Test.YtoiibjblaafgpaaBk
import Derived.Test.YtoiibjblaafgpaaMc
import Derived.Test.YtoiibjblaafgpaaMo
import Derived.Test.YtoiibjblaafgpaaKr
import Derived.Deep.DeepCutAuto
namespace Go.Proofs.Ytoiibjblaafgpaa
open Go.RowKit
set_option maxRecDepth 100000
set_option linter.unusedVariables false
set_option linter.unusedSimpArgs false
set_option maxRecDepth 100000

theorem Own.heap {w w' : World} {base : Nat} {e : TypeId} {A : Option Addr} {n c : Nat} {xs : List Value} (h : Own w base e A n c xs) (hb : ∀ k, blk A = some k → w'.heap[k]? = w.heap[k]?) : Own w' base e A n c xs := by
  refine ⟨h.row.1, ?_⟩
  rcases h.row.2 with h1 | ⟨g, cap, cur, hv, hbg, hg, rest⟩
  · exact .inl h1
  · refine .inr ⟨g, cap, cur, hv, hbg, ?_, rest⟩
    injection hv with hv1
    rw [hb g (by rw [hv1]; rfl)]
    exact hg
theorem Own.ty {w : World} {base : Nat} {e : TypeId} {A : Option Addr} {n c : Nat} {xs : List Value} (h : Own w base e A n c xs) (k : Nat) (hk : blk A = some k) : ∃ cur, w.heap[k]? = some (.cells cur e (0, 0)) := by
  rcases h.row.2 with ⟨hv, _⟩ | ⟨g, cap, cur, hv, hbg, hg, rest⟩
  · injection hv with h1
    rw [h1] at hk; cases hk
  · injection hv with h1
    rw [h1] at hk
    injection hk with hk
    exact ⟨cur, by rw [← hk]; exact hg⟩
theorem Own.ne_ty {w : World} {b b' : Nat} {e e' : TypeId} {A A' : Option Addr} {n c n' c' : Nat} {xs xs' : List Value} (h : Own w b e A n c xs) (h' : Own w b' e' A' n' c' xs') (hne : e ≠ e') (k : Nat) (hk : blk A = some k) : blk A' ≠ some k := by
  intro hk'
  obtain ⟨c1, q1⟩ := h.ty k hk
  obtain ⟨c2, q2⟩ := h'.ty k hk'
  rw [q1] at q2
  injection q2 with q2
  injection q2 with _ q2
  exact hne q2
theorem Own.ne_blk {w : World} {b g : Nat} {e e' : TypeId} {A : Option Addr} {n c : Nat} {xs : List Value} {cs : Array Value} (h : Own w b e A n c xs) (h' : Blk w g e' cs) (hne : e ≠ e') : blk A ≠ some g := by
  intro hk
  obtain ⟨c1, q1⟩ := h.ty g hk
  unfold Blk at h'
  rw [q1] at h'
  injection h' with q2
  injection q2 with _ q2
  exact hne q2
section
variable {P : Program} {ops : Array Oper} {rest : List Oper} {o : Oper} {a : Act} {Q : Exit → Act → World → Prop}
/-- 'l = append(l, x)' behind '[]T{x}', elements of one cell. -/
theorem app1 (w : World) (hgd : o.guard = none) (s x : Operand) (t e : TypeId) (ho : o.op = .call { callee := .builtin .append, args := #[s, x], argTypes := #[t, t] })
    (i : TypeInfo) (z : Value) (bytes : Nat) (ht : P.underlying t = some (.slice e)) (hi : P.info? e = some i) (hz : i.zero = some z) (hsize : i.size = 1) (hby : i.bytes = bytes) (hzs : z.cells.size = 1)
    (base : Nat) (A : Option Addr) (n c : Nat) (xs : List Value) (v : Value) (hv : v.oneCell' = true) (hs : a.eval s = .slice A n c) (hown : Own w base e A n c xs)
    (hx : a.eval x = .slice (some ⟨w.heap.size, 0, none⟩) 1 1) (hbytes : (n + 1) * bytes ≤ 140737488355328) (h63 : n + 1 ≤ maxLen) (hbase : base ≤ w.heap.size)
    (h : ∀ A' c' w', Own w' base e A' (n + 1) c' (xs ++ [v]) → w.grownBy w' (Value.slice A n c).ownBlock → (blk A' = blk A ∨ ∃ k, blk A' = some k ∧ w.heap.size ≤ k) → wpList P ops Q rest (a.put o.dst (.slice A' (n + 1) c')) w') :
    wpList P ops Q (o :: rest) a (w.alloc (.cells #[v] e)) := by
  refine wpList_plain hgd fun K hK => ?_
  have own2 := hown.below (B := w.heap.size) ((Below.refl _ _).alloc (Nat.le_refl _) (.cells #[v] e)) (Nat.le_refl _)
  obtain ⟨v', w', hrun, h2, h3, _, h5⟩ := run_append_own_at (P := P) (w.alloc (.cells #[v] e)) base t o.type e i z 1 bytes ht hi hz hsize hby hzs (by omega) (.slice A n c) n xs own2.row ⟨w.heap.size, 0, none⟩ 1 1 [v] rfl
    (by intro j u hj; match j, hj with | 0, hj => (simp at hj; subst hj; simp [Addr.add])) (by simp [hv]) h63 hbytes (by simp; omega)
  obtain ⟨A', c', rfl⟩ := slice_of_own h2
  unfold Oper.wp execOp
  simp only [ho, resolve, invoke, builtin, Sem.run_bind, Sem.run_pure, Result.andThen_ok, List.map_toArray, List.map_cons, List.map_nil, hs, hx, hrun]
  refine hK _ _ (h A' c' w' ⟨h2⟩ ⟨h3.os, h3.tape, h3.output, Nat.le_trans (by simp) h3.size, fun k hk hne => (h3.block k (by simp; omega) hne).trans (Below.heap_alloc _ _ _ hk)⟩ ?_)
  rw [blk_own, blk_own] at h5
  rcases h5 with h5 | h5
  · exact .inl h5
  · exact .inr ⟨_, h5, by simp⟩
end
/-- A slice header that reads as these bytes, its block among R. -/
structure Msg (w : World) (R : Nat → Prop) (v : Value) (bs : List Nat) : Prop where
  at_ : ∃ A c, v = .slice A bs.length c ∧ Own w 0 5 A bs.length c (U8 bs) ∧ ∀ k, blk A = some k → R k
theorem Msg.heap {w w' : World} {R : Nat → Prop} {v : Value} {bs : List Nat} (h : Msg w R v bs) (hb : ∀ k, R k → w'.heap[k]? = w.heap[k]?) : Msg w' R v bs := by
  obtain ⟨A, c, e, o, hR⟩ := h.at_
  exact ⟨A, c, e, o.heap (fun k hk => hb k (hR k hk)), hR⟩
theorem Msg.mono {w : World} {R R' : Nat → Prop} {v : Value} {bs : List Nat} (h : Msg w R v bs) (hr : ∀ k, R k → R' k) : Msg w R' v bs := by
  obtain ⟨A, c, e, o, hR⟩ := h.at_
  exact ⟨A, c, e, o, fun k hk => hr k (hR k hk)⟩
/-- A row of such ones, all of its blocks among R. -/
structure Mrow (w : World) (T : TypeId) (R : Nat → Prop) (A : Option Addr) (n c : Nat) (ms : List (List Nat)) : Prop where
  at_ : ∃ hs : List Value, Own w 0 T A n c hs ∧ ms.length = n ∧ ∀ i, i < n → Msg w R (hs.getD i undef) (ms.getD i [])
  blks : ∀ k, blk A = some k → R k
theorem Mrow.heap {w w' : World} {T : TypeId} {R : Nat → Prop} {A : Option Addr} {n c : Nat} {ms : List (List Nat)} (h : Mrow w T R A n c ms) (hb : ∀ k, R k → w'.heap[k]? = w.heap[k]?) : Mrow w' T R A n c ms := by
  obtain ⟨hs, o, hl, hm⟩ := h.at_
  exact ⟨⟨hs, o.heap (fun k hk => hb k (h.blks k hk)), hl, fun i hi => (hm i hi).heap hb⟩, h.blks⟩
theorem Mrow.mono {w : World} {T : TypeId} {R R' : Nat → Prop} {A : Option Addr} {n c : Nat} {ms : List (List Nat)} (h : Mrow w T R A n c ms) (hr : ∀ k, R k → R' k) : Mrow w T R' A n c ms := by
  obtain ⟨hs, o, hl, hm⟩ := h.at_
  exact ⟨⟨hs, o, hl, fun i hi => (hm i hi).mono hr⟩, fun k hk => hr k (h.blks k hk)⟩
theorem Mrow.after {w w' : World} {T : TypeId} {R : Nat → Prop} {A : Option Addr} {n c : Nat} {ms : List (List Nat)} (h : Mrow w T R A n c ms) (hb : Below w.heap.size w w') (hR : ∀ k, R k → k < w.heap.size) : Mrow w' T R A n c ms := h.heap (fun k hk => hb.block k (hR k hk))
theorem Mrow.nil (w : World) (T : TypeId) (R : Nat → Prop) : Mrow w T R none 0 0 [] := ⟨⟨[], Own.nil _ _ _, rfl, fun i hi => absurd hi (by omega)⟩, fun k hk => by cases hk⟩
theorem Mrow.len {w : World} {T : TypeId} {R : Nat → Prop} {A : Option Addr} {n c : Nat} {ms : List (List Nat)} (h : Mrow w T R A n c ms) : ms.length = n := by
  obtain ⟨hs, o, hl, hm⟩ := h.at_
  exact hl
/-- One header of it. -/
theorem Mrow.get {w : World} {T : TypeId} {R : Nat → Prop} {A : Option Addr} {n c : Nat} {ms : List (List Nat)} (h : Mrow w T R A n c ms) (i : Nat) (hi : i < n) :
    ∃ b off B d, A = some ⟨b, off, none⟩ ∧ R b ∧ w.cell? ⟨b, off + i, none⟩ = some (.slice B (ms.getD i []).length d) ∧ Own w 0 5 B (ms.getD i []).length d (U8 (ms.getD i [])) ∧ ∀ k, blk B = some k → R k := by
  obtain ⟨hs, o, hl, hm⟩ := h.at_
  obtain ⟨b, off, hA, hb, hc⟩ := o.rd.at_ (by omega)
  obtain ⟨B, d, e, ob, hR⟩ := (hm i hi).at_
  have hlen := o.len
  have hget : hs[i]? = some (.slice B (ms.getD i []).length d) := by
    rw [← e, List.getD, List.getElem?_eq_getElem (by omega)]; rfl
  exact ⟨b, off, B, d, hA, h.blks b (by rw [hA]; rfl), hc i _ hget, ob, hR⟩
/-- One more. -/
theorem Mrow.snoc {w' : World} {T : TypeId} {R : Nat → Prop} {A' : Option Addr} {n c' : Nat} {ms : List (List Nat)} {hs : List Value} {v : Value} {bs : List Nat} (hl : ms.length = n) (o' : Own w' 0 T A' (n + 1) c' (hs ++ [v]))
    (hm : ∀ i, i < n → Msg w' R (hs.getD i undef) (ms.getD i [])) (hv : Msg w' R v bs) (hb : ∀ k, blk A' = some k → R k) : Mrow w' T R A' (n + 1) c' (ms ++ [bs]) := by
  have hhs : hs.length = n := by have := o'.len; rw [List.length_append, List.length_singleton] at this; omega
  refine ⟨⟨hs ++ [v], o', by rw [List.length_append, hl]; rfl, fun i hi => ?_⟩, hb⟩
  by_cases h : i < n
  · rw [Bm.getD_lt _ _ _ (by rw [List.length_append]; omega), Bm.getD_lt _ _ _ (by rw [List.length_append]; omega), List.getElem_append_left (by omega), List.getElem_append_left (by omega), ← Bm.getD_lt hs undef i (by omega), ← Bm.getD_lt ms [] i (by omega)]
    exact hm i h
  · obtain rfl : i = n := by omega
    rw [Bm.getD_lt _ _ _ (by rw [List.length_append]; simp; omega), Bm.getD_lt _ _ _ (by rw [List.length_append]; simp; omega), List.getElem_append_right (by omega), List.getElem_append_right (by omega)]
    simpa [hhs, hl] using hv

/-- The number of the last message. -/
def lst (n : Nat) : Nat := (n - 1) / 63
theorem lst_of {n i : Nat} (h : i = 0 ∨ 63 * i < n) (h2 : n ≤ 63 * i + 63) : lst n = i := by unfold lst; omega
theorem lst_lt {n i : Nat} : i < lst n ↔ 63 * i + 63 < n := by unfold lst; omega
theorem lst_le {n : Nat} : n ≤ 63 * lst n + 63 := by unfold lst; omega
theorem lst_ge {n : Nat} : lst n = 0 ∨ 63 * lst n < n := by unfold lst; omega
/-- A message's first byte. -/
def hd (i l : Nat) : Nat := i % 64 + l + (if i = 0 then 128 else 0)
theorem hd_lt (i l : Nat) (hl : l = 0 ∨ l = 64) : hd i l < 256 := by unfold hd; split <;> omega
/-- 64 for the last one. -/
def lbit (n i : Nat) : Nat := if i = lst n then 64 else 0
theorem lbit_or (n i : Nat) : lbit n i = 0 ∨ lbit n i = 64 := by unfold lbit; split <;> simp
/-- The part of a text in its i-th message. -/
def part (bs : List Nat) (i : Nat) : List Nat := (bs.drop (63 * i)).take 63
theorem part_length (bs : List Nat) (i : Nat) : (part bs i).length = min 63 (bs.length - 63 * i) := by unfold part; rw [List.length_take, List.length_drop]
/-- The i-th message. -/
def mg (bs : List Nat) (i : Nat) : List Nat := hd i (lbit bs.length i) :: part bs i
/-- The first k messages. -/
def msk (bs : List Nat) (k : Nat) : List (List Nat) := (List.range k).map (mg bs)
theorem msk_length (bs : List Nat) (k : Nat) : (msk bs k).length = k := by simp [msk]
theorem msk_succ (bs : List Nat) (k : Nat) : msk bs (k + 1) = msk bs k ++ [mg bs k] := by unfold msk; rw [List.range_succ, List.map_append]; rfl
theorem msk_get (bs : List Nat) (k i : Nat) (h : i < k) : (msk bs k).getD i [] = mg bs i := by unfold msk; rw [Bm.getD_lt _ _ _ (by simpa using h)]; simp
/-- All messages. -/
def msgs (bs : List Nat) : List (List Nat) := msk bs (lst bs.length + 1)
theorem part_last (bs : List Nat) : part bs (lst bs.length) = bs.drop (63 * lst bs.length) := by
  unfold part
  rw [List.take_of_length_le]
  rw [List.length_drop]
  have := lst_le (n := bs.length)
  omega
theorem mg_last (bs : List Nat) : mg bs (lst bs.length) = hd (lst bs.length) 64 :: bs.drop (63 * lst bs.length) := by
  unfold mg lbit
  rw [if_pos rfl, part_last]
theorem mg_mid (bs : List Nat) (i : Nat) (h : i < lst bs.length) : mg bs i = hd i 0 :: (bs.drop (63 * i)).take 63 := by
  unfold mg lbit part
  rw [if_neg (by omega)]
theorem part_len (bs : List Nat) (i : Nat) (h : i < lst bs.length) : (part bs i).length = 63 := by
  rw [part_length]
  have := lst_lt.1 h
  omega
theorem take_part (bs : List Nat) (i : Nat) : bs.take (63 * i) ++ part bs i = bs.take (63 * (i + 1)) := by
  unfold part
  rw [Nat.mul_succ]
  exact List.take_add.symm
theorem take_all (bs : List Nat) : bs.take (63 * (lst bs.length + 1)) = bs := List.take_of_length_le (by have := lst_le (n := bs.length); omega)
theorem mg_lt {bs : List Nat} (h : ∀ b ∈ bs, b < 256) (i : Nat) : ∀ b ∈ mg bs i, b < 256 := by
  intro b hb
  unfold mg at hb
  rcases List.mem_cons.1 hb with rfl | hb
  · exact hd_lt _ _ (lbit_or _ _)
  · exact h b (List.mem_of_mem_drop (List.mem_of_mem_take hb))
theorem mg_len (bs : List Nat) (i : Nat) : (mg bs i).length = (part bs i).length + 1 := by simp [mg]
end Go.Proofs.Ytoiibjblaafgpaa
