/-
  Words for layer 2's statement BitioPuts: numbers with their widths in memory; append in a region that draws; what comes back of bits.
-/
import Derived.Test.YtcddbcknjcedfaaRb
namespace Go.Proofs.Ytcddbcknjcedfaa
open Go.RowKit
set_option linter.unusedVariables false
set_option linter.unusedSimpArgs false

/-- Numbers with their widths, as cells. -/
def N2 (ps : List (Int × Int)) : List Value := ps.flatMap fun p => [.int .i64 p.1, .int .i64 p.2]
theorem N2_length (ps : List (Int × Int)) : (N2 ps).length = ps.length * 2 := by
  induction ps with
  | nil => rfl
  | cons p ps ih => simp only [N2, List.flatMap_cons, List.length_append, List.length_cons] at *; rw [ih]; simp; omega
theorem N2_append (a b : List (Int × Int)) : N2 (a ++ b) = N2 a ++ N2 b := by simp [N2]
theorem N2_get (ps : List (Int × Int)) : ∀ i, i < ps.length → (N2 ps)[i * 2]? = some (.int .i64 (ps.getD i (0, 0)).1) ∧ (N2 ps)[i * 2 + 1]? = some (.int .i64 (ps.getD i (0, 0)).2) := by
  induction ps with
  | nil => intro i h; simp at h
  | cons p ps ih =>
    intro i h
    have e : N2 (p :: ps) = .int .i64 p.1 :: .int .i64 p.2 :: N2 ps := rfl
    rw [e]
    cases i with
    | zero => simp
    | succ i =>
      have := ih i (by simpa using h)
      rw [show (i + 1) * 2 = i * 2 + 1 + 1 by omega]
      simpa using this

/-- The slice '.slice A n c' of numbers and widths reads as ps, below block B. -/
structure RdN (w : World) (B : Nat) (A : Option Addr) (n : Nat) (ps : List (Int × Int)) : Prop where
  len : ps.length = n
  at_ : 0 < n → ∃ b off, A = some ⟨b, off, none⟩ ∧ b < B ∧ ∀ i, i < n → w.cell? ⟨b, off + i * 2, none⟩ = some (.int .i64 (ps.getD i (0, 0)).1) ∧ w.cell? ⟨b, off + i * 2 + 1, none⟩ = some (.int .i64 (ps.getD i (0, 0)).2)
theorem RdN.below {w w' : World} {B : Nat} {A : Option Addr} {n : Nat} {ps : List (Int × Int)} (h : RdN w B A n ps) (hb : Below B w w') : RdN w' B A n ps :=
  ⟨h.len, fun hn => by
    obtain ⟨b, off, e, hlt, hc⟩ := h.at_ hn
    exact ⟨b, off, e, hlt, fun i hi => ⟨(hb.cell (p := ⟨b, off + i * 2, none⟩) hlt).trans (hc i hi).1, (hb.cell (p := ⟨b, off + i * 2 + 1, none⟩) hlt).trans (hc i hi).2⟩⟩⟩

/-- The call's own row of numbers and widths. -/
structure OwnN (w : World) (base : Nat) (A : Option Addr) (n c : Nat) (ps : List (Int × Int)) : Prop where
  row : w.ownsRow base 47 2 (.slice A n c) n (N2 ps)
theorem OwnN.nil (w : World) (base : Nat) : OwnN w base none 0 0 [] := ⟨World.ownsRow_nil w base 47 2⟩
theorem OwnN.len {w : World} {base : Nat} {A : Option Addr} {n c : Nat} {ps : List (Int × Int)} (h : OwnN w base A n c ps) : ps.length = n := by
  have := h.row.1; rw [N2_length] at this; omega
theorem OwnN.keep {w w' : World} {base : Nat} {A : Option Addr} {n c : Nat} {ps : List (Int × Int)} (h : OwnN w base A n c ps) (hb : ∀ k, (Value.slice A n c).ownBlock = some k → w'.heap[k]? = w.heap[k]?) : OwnN w' base A n c ps := by
  refine ⟨h.row.1, ?_⟩
  rcases h.row.2 with h1 | ⟨g, cap, cur, hv, hbg, hg, rest⟩
  · exact .inl h1
  · refine .inr ⟨g, cap, cur, hv, hbg, ?_, rest⟩
    rw [hb g (by rw [hv]; rfl)]
    exact hg
theorem OwnN.rd {w : World} {base : Nat} {A : Option Addr} {n c : Nat} {ps : List (Int × Int)} (h : OwnN w base A n c ps) : RdN w w.heap.size A n ps := by
  refine ⟨h.len, fun hn => ?_⟩
  have hl := h.len
  rcases h.row.2 with ⟨hv, h0⟩ | ⟨g, cap, cur, hv, hb, hg, rest⟩
  · omega
  · injection hv with h1 h2 h3
    subst h1
    refine ⟨g, 0, rfl, (Array.getElem?_eq_some_iff.1 hg).1, fun i hi => ?_⟩
    have hc := N2_get ps i (by omega)
    have c1 := h.row.cells (g := g) rfl _ _ hc.1
    have c2 := h.row.cells (g := g) rfl _ _ hc.2
    rw [Addr.add_lit] at c1 c2
    rw [Nat.add_assoc]
    exact ⟨c1, c2⟩
theorem OwnN.ne_own {w : World} {base base2 : Nat} {A A2 : Option Addr} {n c n2 c2 : Nat} {ps : List (Int × Int)} {xs : List Value} {e : TypeId} (h : OwnN w base A n c ps) (h2 : Own w base2 e A2 n2 c2 xs) (he : e ≠ 47) :
    ∀ k, (Value.slice A n c).ownBlock = some k → (Value.slice A2 n2 c2).ownBlock ≠ some k := by
  intro k hk hk2
  rcases h.row.2 with ⟨hv, _⟩ | ⟨g, cap, cur, hv, _, hg, _⟩
  · injection hv with h1 _ _; subst h1; simp [Value.ownBlock] at hk
  · rcases h2.row.2 with ⟨hv2, _⟩ | ⟨g2, cap2, cur2, hv2, _, hg2, _⟩
    · injection hv2 with h1 _ _; subst h1; simp [Value.ownBlock] at hk2
    · injection hv with h1 _ _
      injection hv2 with h3 _ _
      subst h1 h3
      simp [Value.ownBlock] at hk hk2
      subst hk; subst hk2
      rw [hg2] at hg
      injection hg with hg
      injection hg with _ ht
      exact he ht
theorem OwnN.ne_box {w : World} {base : Nat} {t : TypeId} {A A' : Option Addr} {n c n' c' g : Nat} {ps : List (Int × Int)} (h : OwnN w base A n c ps) (hb : Box w t g A' n' c') (hne : (47 : TypeId) ≠ t) : (Value.slice A n c).ownBlock ≠ some g := by
  rcases h.row.2 with ⟨hv, _⟩ | ⟨g', cap, cur, hv, _, hh, _⟩
  · injection hv with h1 _ _
    subst h1; simp [Value.ownBlock]
  · injection hv with h1 _ _
    subst h1
    intro he
    have : g' = g := by simpa [Value.ownBlock] using he
    subst this
    unfold Box at hb
    rw [hb] at hh
    injection hh with hh
    injection hh with _ ht
    exact hne ht.symm

theorem info47 : (Try.prog.info? 47).map (fun i => (i.zero, i.size, i.bytes)) = some (some (.agg #[.int .i64 0, .int .i64 0]), 2, 16) := by kernel_rfl

section
variable {ops : Array Oper} {o : Oper} {a : Act} {K : Act → World → Prop} {Q : Exit → Act → World → Prop} {E : Prop}
/-- 'append(in, x)', in a []Num of the call's own, in a region that draws. -/
theorem step_appN (w : World) (hgd : o.guard = none) (s x : Operand) (ho : o.op = .call { callee := .builtin .append, args := #[s, x], argTypes := #[38, 38] })
    (base : Nat) (A : Option Addr) (n c : Nat) (ps : List (Int × Int)) (p : Int × Int) (hs : a.eval s = .slice A n c) (hown : OwnN w base A n c ps)
    (g : Nat) (hx : a.eval x = .slice (some ⟨g, 0, none⟩) 1 1) (hc1 : w.cell? ⟨g, 0, none⟩ = some (.int .i64 p.1)) (hc2 : w.cell? ⟨g, 1, none⟩ = some (.int .i64 p.2)) (hn : n ≤ 1000000) (hbase : base ≤ w.heap.size)
    (h : ∀ A' c' w', OwnN w' base A' (n + 1) c' (ps ++ [p]) → w.grownBy w' (Value.slice A n c).ownBlock → ((Value.slice A' (n + 1) c').ownBlock = (Value.slice A n c).ownBlock ∨ (Value.slice A' (n + 1) c').ownBlock = some w.heap.size) → K (a.put o.dst (.slice A' (n + 1) c')) w') :
    if Region.wanted o (yielded ops a.tmps) = true then Oper.wp Try.prog o a w K Q else E := by
  obtain ⟨i0, hi0, hz0, hz1, hz2⟩ := info_parts info47
  have hw : Region.wanted o (yielded ops a.tmps) = true := by simp [Region.wanted, hgd]
  rw [if_pos hw]
  obtain ⟨v', w', hrun, h2, h3, _, h5⟩ := run_append_own_at (P := Try.prog) w base 38 o.type 47 i0 _ 2 16 Try.underlying38 hi0 hz0 hz1 hz2 rfl (by omega) (.slice A n c) n (N2 ps) hown.row ⟨g, 0, none⟩ 1 1 [.int .i64 p.1, .int .i64 p.2] rfl
    (by intro j u hj; rw [Addr.add_lit]; match j, hj with | 0, hj => (simp at hj; subst hj; exact hc1) | 1, hj => (simp at hj; subst hj; exact hc2)) (by simp [Value.oneCell']) (by unfold maxLen; omega) (by omega) hbase
  have hsl : ∃ A' c', v' = .slice A' (n + 1) c' := by
    rcases h2.2 with ⟨hv, h0⟩ | ⟨g', cap, cur, hv, rest⟩
    · omega
    · exact ⟨_, _, hv⟩
  obtain ⟨A', c', rfl⟩ := hsl
  unfold Oper.wp execOp
  simp only [ho, resolve, invoke, builtin, Sem.run_bind, Sem.run_pure, Result.andThen_ok, List.map_toArray, List.map_cons, List.map_nil, hs, hx, hrun]
  refine h A' c' w' ⟨?_⟩ h3 h5
  rw [N2_append]; exact h2

/-- 'append(all, b...)', both []byte, in a region that draws. -/
theorem step_appB (w : World) (hgd : o.guard = none) (s x : Operand) (ho : o.op = .call { callee := .builtin .append, args := #[s, x], argTypes := #[22, 22] })
    (base : Nat) (A : Option Addr) (n c : Nat) (bs : List Nat) (hs : a.eval s = .slice A n c) (hown : Own w base 5 A n c (U8 bs))
    (b off m c2 : Nat) (ys : List Nat) (hx : a.eval x = .slice (some ⟨b, off, none⟩) m c2) (hr : Rd w w.heap.size (some ⟨b, off, none⟩) m (U8 ys)) (hn : n + m ≤ 1000000) (hm : 0 < m) (hbase : base ≤ w.heap.size)
    (h : ∀ A' c' w', Own w' base 5 A' (n + m) c' (U8 (bs ++ ys)) → w.grownBy w' (Value.slice A n c).ownBlock → ((Value.slice A' (n + m) c').ownBlock = (Value.slice A n c).ownBlock ∨ (Value.slice A' (n + m) c').ownBlock = some w.heap.size) → K (a.put o.dst (.slice A' (n + m) c')) w') :
    if Region.wanted o (yielded ops a.tmps) = true then Oper.wp Try.prog o a w K Q else E := by
  obtain ⟨i0, hi0, hz0, hz1, hz2⟩ := info_parts info5
  have hw : Region.wanted o (yielded ops a.tmps) = true := by simp [Region.wanted, hgd]
  rw [if_pos hw]
  have hl := hr.len
  obtain ⟨v', w', hrun, h2, h3, _, h5⟩ := run_append_own_at (P := Try.prog) w base 22 o.type 5 i0 _ 1 1 Try.underlying22 hi0 hz0 hz1 hz2 rfl (by omega) (.slice A n c) n (U8 bs) hown.row ⟨b, off, none⟩ m c2 (U8 ys) (by omega)
    (by
      intro j u hj
      obtain ⟨b', off', e, _, hc⟩ := hr.at_ hm
      injection e with e
      injection e with e1 e2
      subst e1 e2
      rw [Addr.add_lit]; exact hc j u hj) (U8_one ys) (by unfold maxLen; omega) (by omega) hbase
  obtain ⟨A', c', rfl⟩ := slice_of_own h2
  unfold Oper.wp execOp
  simp only [ho, resolve, invoke, builtin, Sem.run_bind, Sem.run_pure, Result.andThen_ok, List.map_toArray, List.map_cons, List.map_nil, hs, hx, hrun]
  refine h A' c' w' ⟨?_⟩ h3 h5
  rw [U8_append]; exact h2
end

/-! ### What comes back of bits -/
theorem hb_bit (l : List Nat) (hl : ∀ x ∈ l, x ≤ 1) (i k : Nat) (h : k < 8) : Bm.hb l i / 2 ^ (7 - k) % 2 = l.getD (i + k) 0 := by
  unfold Bm.hb
  have h0 := Bm.bit_le l hl i
  have h1 := Bm.bit_le l hl (i + 1)
  have h2 := Bm.bit_le l hl (i + 2)
  have h3 := Bm.bit_le l hl (i + 3)
  have h4 := Bm.bit_le l hl (i + 4)
  have h5 := Bm.bit_le l hl (i + 5)
  have h6 := Bm.bit_le l hl (i + 6)
  have h7 := Bm.bit_le l hl (i + 7)
  match k, h with
  | 0, _ | 1, _ | 2, _ | 3, _ | 4, _ | 5, _ | 6, _ | 7, _ =>
    simp only [Nat.add_zero, Nat.reduceSub, Nat.reducePow, Nat.sub_zero]
    omega

/-- Bits that went through bytes have noughts behind them. -/
theorem ofBytes_toBytes (l : List Nat) (hl : ∀ x ∈ l, x ≤ 1) : ∃ pad, pad < 8 ∧ Bm.ofBytes (Bm.toBytes l) = l ++ List.replicate pad 0 := by
  refine ⟨8 * ((l.length + 7) / 8) - l.length, by omega, ?_⟩
  apply Bm.ext_getD
  · rw [Bm.ofBytes_length, Bm.toBytes_length, List.length_append, List.length_replicate]; omega
  · intro i hi
    rw [Bm.ofBytes_length, Bm.toBytes_length] at hi
    obtain ⟨j, k, hk, rfl⟩ : ∃ j k, k < 8 ∧ i = 8 * j + k := ⟨i / 8, i % 8, by omega, by omega⟩
    rw [Bm.ofBytes_getD _ _ _ hk]
    have hj : j < (Bm.toBytes l).length := by rw [Bm.toBytes_length]; omega
    have e : (Bm.toBytes l).getD j 0 = Bm.hb l (8 * j) := by rw [Bm.getD_lt _ _ _ hj]; simp [Bm.toBytes]
    rw [e, hb_bit l hl _ _ hk]
    by_cases h : 8 * j + k < l.length
    · rw [Bm.getD_left _ _ _ _ h]
    · rw [Bm.getD_right _ _ _ _ (by omega), Bm.getD_ge _ _ _ (by omega)]
      by_cases h2 : 8 * j + k - l.length < (List.replicate (8 * ((l.length + 7) / 8) - l.length) 0).length
      · rw [Bm.getD_lt _ _ _ h2, List.getElem_replicate]
      · rw [Bm.getD_ge _ _ _ (by omega)]

theorem num_pre (N wd : Nat) (h : N < 2 ^ wd) : ∀ j, j ≤ wd → num (pre N wd j) = N / 2 ^ (wd - j)
  | 0, _ => by rw [Nat.sub_zero, Nat.div_eq_of_lt h]; rfl
  | j + 1, hj => by
    rw [pre, num_snoc, num_pre N wd h j (by omega)]
    have e : N / 2 ^ (wd - j) = N / 2 ^ (wd - 1 - j) / 2 := by rw [show wd - j = wd - 1 - j + 1 by omega, Nat.pow_succ, Nat.div_div_eq_div_mul]
    rw [e, show wd - (j + 1) = wd - 1 - j by omega]
    omega
theorem num_all (N wd : Nat) (h : N < 2 ^ wd) : num (pre N wd wd) = N := by
  rw [num_pre N wd h wd (Nat.le_refl _)]; simp

/-- A number that is put. -/
def Fits (p : Int × Int) : Prop := ∃ N wd : Nat, p = ((N : Int), (wd : Int)) ∧ 1 ≤ wd ∧ wd ≤ 32 ∧ N < 2 ^ wd
/-- The bits of numbers. -/
def bitsP (ps : List (Int × Int)) : List Nat := ps.flatMap fun p => pre p.1.toNat p.2.toNat p.2.toNat
theorem bitsP_bit (ps : List (Int × Int)) : ∀ x ∈ bitsP ps, x ≤ 1 := by
  intro x hx
  obtain ⟨p, _, hp⟩ := List.mem_flatMap.1 hx
  exact pre_bit _ _ _ x hp
theorem bitsP_snoc (ps : List (Int × Int)) (N wd : Nat) : bitsP (ps ++ [((N : Int), (wd : Int))]) = bitsP ps ++ pre N wd wd := by simp [bitsP]
theorem wt_replicate (k : Nat) : Bm.wt (List.replicate k 0) = 0 := by
  apply wt_zero
  intro i hi
  rw [Bm.getD_lt _ _ _ hi, List.getElem_replicate]
end Go.Proofs.Ytcddbcknjcedfaa
