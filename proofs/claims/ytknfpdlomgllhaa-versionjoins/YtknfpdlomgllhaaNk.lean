/-
  The walk of VersionJoins.
-/
import Derived.Test.YtknfpdlomgllhaaNc
import Derived.Test.YtknfpdlomgllhaaRr
import Derived.Test.YtknfpdlomgllhaaRt
import Derived.Test.YtknfpdlomgllhaaRc
import Derived.Test.YtknfpdlomgllhaaMo
import Derived.Test.YtknfpdlomgllhaaMh
import Derived.Test.YtknfpdlomgllhaaPa
namespace Go.Proofs.Ytknfpdlomgllhaa
open Go.RowKit
set_option maxRecDepth 100000
set_option linter.unusedVariables false
set_option linter.unusedSimpArgs false

/-! A region that draws, by its states: which of some operations have come up. -/
section
variable {P : Program} {ops : Array Oper} {Q : Exit → Act → World → Prop} {md : Region.Mode} {S : World → Prop}
theorem wpAnyH_states {σ : Type} (LST : σ → Array Bool) (μ : σ → Nat) (nxt : σ → Nat → σ) (J : σ → Act → World → Prop) (F : Nat)
    (hne : ∀ s a w, J s a w → 0 < μ s → Region.ready md ops (LST s) ≠ [])
    (hμ : ∀ s i a w, J s a w → 0 < μ s → i ∈ Region.ready md ops (LST s) → LST (nxt s i) = (LST s).setIfInBounds i true ∧ μ (nxt s i) + 1 = μ s)
    (step : ∀ s i a w, J s a w → 0 < μ s → i ∈ Region.ready md ops (LST s) → wpOp P ops Q i (fun a' w' => S w' ∧ J (nxt s i) a' w') a w)
    (fin : ∀ s a w, J s a w → μ s = 0 → wpAnyH P md ops Q S F (LST s) a w) :
    ∀ n s a w, μ s = n → J s a w → wpAnyH P md ops Q S (n + F) (LST s) a w := by
  intro n
  induction n with
  | zero => intro s a w h hJ; rw [Nat.zero_add]; exact fin s a w hJ h
  | succ n ih =>
    intro s a w h hJ
    have hp : 0 < μ s := by omega
    rw [show n + 1 + F = (n + F) + 1 by omega]
    refine ⟨fun h0 => absurd h0 (hne s a w hJ hp), fun i hi => ?_⟩
    obtain ⟨h1, h2⟩ := hμ s i a w hJ hp hi
    refine wpOp_mono (fun a' w' hh => ⟨hh.1, ?_⟩) (step s i a w hJ hp hi)
    rw [← h1]
    exact ih _ _ _ (by omega) hh.2
theorem wpAnyH_at {fuel : Nat} {l l' : Array Bool} {a a' : Act} {w : World} (hl : l = l') (ha : a = a') (h : wpAnyH P md ops Q S fuel l' a' w) : wpAnyH P md ops Q S fuel l a w := by subst hl ha; exact h
end
section
variable {P : Program} {ops : Array Oper} {o : Oper} {a : Act} {K : Act → World → Prop} {Q : Exit → Act → World → Prop} {E0 : Prop}
/-- 'make' in a region that draws. -/
theorem step_makeN {w : World} (hw : Region.wanted o (yielded ops a.tmps) = true) (l c : Operand) (t : TypeId) (hop : o.op = Op.makeSlice t l c)
    (base : Nat) (e : TypeId) (i : TypeInfo) (z : Value) (size : Nat) (h1 : P.underlying t = some (.slice e)) (h2 : P.info? e = some i) (h3 : i.zero = some z) (h4 : i.size = size)
    (kl kc : IntKind) (n : Nat) (hl : a.eval l = .int kl (n : Int)) (hc : a.eval c = .int kc (n : Int)) (b2 : i.bytes * n ≤ 281474976710656) (b3 : n ≤ maxLen) (b4 : base ≤ w.heap.size)
    (h : ∀ w', w'.ownsRow base e size (.slice (some ⟨w.heap.size, 0, none⟩) n n) n (madeCells z.cells (n * size)).toList → w.grownBy w' none → K (a.put o.dst (.slice (some ⟨w.heap.size, 0, none⟩) n n)) w') :
    if Region.wanted o (yielded ops a.tmps) = true then Oper.wp P o a w K Q else E0 := by
  rw [if_pos hw]
  obtain ⟨w', hrun, r1, r2⟩ := run_make_full (P := P) w base t e i z size h1 h2 h3 h4 kl kc n b2 b3 b4
  unfold Oper.wp
  simp [execOp, hop, hl, hc, hrun, Result.andThen]
  exact h w' r1 r2
end
/-- Which of the operations that make memory have come up. -/
structure St where
  d0 : Bool
  d6 : Bool
  d7 : Bool
  d13 : Bool
  d19 : Bool
  d25 : Bool
  d26 : Bool
  d27 : Bool
def St.lst (s : St) : Array Bool := #[s.d0, true, true, true, true, true, s.d6, s.d7, true, true, true, true, true, s.d13, true, true, true, true, true, s.d19, true, true, true, true, true, s.d25, s.d26, s.d27, false]
def b01 (b : Bool) : Nat := if b then 0 else 1
def St.mu (s : St) : Nat := b01 s.d0 + b01 s.d6 + b01 s.d7 + b01 s.d13 + b01 s.d19 + b01 s.d25 + b01 s.d26 + b01 s.d27
def St.nxt (s : St) (i : Nat) : St := if i = 0 then { s with d0 := true } else if i = 6 then { s with d6 := true } else if i = 7 then { s with d7 := true } else if i = 13 then { s with d13 := true } else if i = 19 then { s with d19 := true } else if i = 25 then { s with d25 := true } else if i = 26 then { s with d26 := true } else { s with d27 := true }
def St.ok (s : St) : Bool := (!s.d6 || s.d0) && (!s.d13 || (s.d6 && s.d7)) && (!s.d26 || (s.d6 && s.d13 && s.d19 && s.d25))
def bl2 : List Bool := [false, true]
def St.allS : List St := bl2.flatMap fun a => bl2.flatMap fun b => bl2.flatMap fun c => bl2.flatMap fun d => bl2.flatMap fun e => bl2.flatMap fun f => bl2.flatMap fun h => bl2.map fun g => ⟨a, b, c, d, e, f, h, g⟩
theorem bl2_mem (b : Bool) : b ∈ bl2 := by cases b <;> decide
theorem St.mem (s : St) : s ∈ St.allS := by
  obtain ⟨a, b, c, d, e, f, h, g⟩ := s
  unfold St.allS
  exact List.mem_flatMap.2 ⟨a, bl2_mem a, List.mem_flatMap.2 ⟨b, bl2_mem b, List.mem_flatMap.2 ⟨c, bl2_mem c, List.mem_flatMap.2 ⟨d, bl2_mem d, List.mem_flatMap.2 ⟨e, bl2_mem e, List.mem_flatMap.2 ⟨f, bl2_mem f, List.mem_flatMap.2 ⟨h, bl2_mem h, List.mem_map.2 ⟨g, bl2_mem g, rfl⟩⟩⟩⟩⟩⟩⟩⟩
def St.may (s : St) (i : Nat) : Bool := (Nat.beq i 0 && !s.d0) || (Nat.beq i 6 && s.d0 && !s.d6) || (Nat.beq i 7 && !s.d7) || (Nat.beq i 13 && s.d6 && s.d7 && !s.d13) || (Nat.beq i 19 && !s.d19) || (Nat.beq i 25 && !s.d25) || (Nat.beq i 26 && s.d6 && s.d13 && s.d19 && s.d25 && !s.d26) || (Nat.beq i 27 && !s.d27)
def chk (md : Region.Mode) (ops : Array Oper) : Bool := St.allS.all fun s => !s.ok || Nat.beq s.mu 0 || (!(Region.ready md ops s.lst).isEmpty && (Region.ready md ops s.lst).all fun i => s.may i)
theorem chk_spec {md : Region.Mode} {ops : Array Oper} (h : chk md ops = true) (s : St) (ho : s.ok = true) (hp : 0 < s.mu) : Region.ready md ops s.lst ≠ [] ∧ ∀ i ∈ Region.ready md ops s.lst, s.may i = true := by
  have h1 := List.all_eq_true.1 h s s.mem
  have h2 : Nat.beq s.mu 0 = false := by
    cases h3 : Nat.beq s.mu 0
    · rfl
    · have := Nat.eq_of_beq_eq_true h3
      omega
  rw [ho, h2] at h1
  simp only [Bool.not_true, Bool.false_or, Bool.and_eq_true, Bool.not_eq_true'] at h1
  refine ⟨fun e => ?_, List.all_eq_true.1 h1.2⟩
  rw [e] at h1
  cases h1.1
theorem St.cases_ {s : St} {i : Nat} (h : s.may i = true) : (i = 0 ∧ s.d0 = false) ∨ (i = 6 ∧ s.d0 = true ∧ s.d6 = false) ∨ (i = 7 ∧ s.d7 = false) ∨ (i = 13 ∧ s.d6 = true ∧ s.d7 = true ∧ s.d13 = false) ∨ (i = 19 ∧ s.d19 = false) ∨ (i = 25 ∧ s.d25 = false) ∨ (i = 26 ∧ s.d6 = true ∧ s.d13 = true ∧ s.d19 = true ∧ s.d25 = true ∧ s.d26 = false) ∨ (i = 27 ∧ s.d27 = false) := by
  unfold St.may at h
  simp only [Bool.or_eq_true, Bool.and_eq_true, Bool.not_eq_true', Nat.beq_eq] at h
  simp only [and_assoc, or_assoc] at h
  exact h
theorem St.nxt_lst {s : St} {i : Nat} (h : s.may i = true) : (s.nxt i).lst = s.lst.setIfInBounds i true ∧ (s.nxt i).mu + 1 = s.mu := by
  obtain ⟨a, b, c, d, e, f, k, g⟩ := s
  rcases St.cases_ h with ⟨rfl, h1⟩ | ⟨rfl, _, h1⟩ | ⟨rfl, h1⟩ | ⟨rfl, _, _, h1⟩ | ⟨rfl, h1⟩ | ⟨rfl, h1⟩ | ⟨rfl, _, _, _, _, h1⟩ | ⟨rfl, h1⟩
  all_goals (simp only at h1; subst h1; refine ⟨rfl, ?_⟩; simp only [St.nxt, St.mu, b01]; simp; try omega)
theorem own0_none {W : World} {b0 g : Nat} {e : TypeId} (h : Own W b0 e (some ⟨g, 0, none⟩) 0 0 []) (i : Nat) : W.cell? ⟨g, i, none⟩ = none := by
  rcases h.row.2 with ⟨hv, _⟩ | ⟨g', cap, cur, hv, hb, hg, h1, h2, h3, _⟩
  · cases hv
  · injection hv with e1 e2 e3
    injection e1 with e1
    injection e1 with e1
    subst e1
    have hc : cur.size = 0 := by omega
    rw [cell_of_row W _ i cur e (0, 0) hg]
    exact Array.getElem?_eq_none (by omega)
theorem Rd.grownE {W W' : World} {A : Option Addr} {n g : Nat} {xs : List Value} (h : Rd W W.heap.size A n xs) (hg : W.grownBy W' (some g)) (he : ∀ i, W.cell? ⟨g, i, none⟩ = none) : Rd W' W'.heap.size A n xs := by
  refine ⟨h.len, fun hn => ?_⟩
  obtain ⟨b, off, e, hlt, hc⟩ := h.at_ hn
  have hb : b ≠ g := fun e2 => by
    subst e2
    have h0 : 0 < xs.length := by rw [h.len]; exact hn
    have := hc 0 xs[0] (by simp [h0])
    rw [he] at this
    cases this
  exact ⟨b, off, e, Nat.lt_of_lt_of_le hlt hg.size, fun i u hu => hg.cell (hc i u hu) (fun e2 => by injection e2 with e2; exact hb e2)⟩
theorem Own.apart {w w' : World} {base : Nat} {e : TypeId} {g n c g' : Nat} {xs : List Value} (h : Own w base e (some ⟨g, 0, none⟩) n c xs) (hg : w.grownBy w' (some g')) (hne : g ≠ g') : Own w' base e (some ⟨g, 0, none⟩) n c xs :=
  ⟨h.row.kept hg (.inr (by rw [blk_own]; intro e; injection e with e; exact hne e))⟩
/-- What has been made so far. -/
structure JF (b0 : Nat) (l0 l1 : List Nat) (k0 k1 m0 m1 : Nat) (s : St) (v0 v6 v7 v13 v19 v25 v26 v27 : Value) (W : World) : Prop where
  ok : s.ok = true
  e0 : s.d0 = true → s.d6 = false → ∃ g, v0 = .slice (some ⟨g, 0, none⟩) 0 0 ∧ Own W b0 5 (some ⟨g, 0, none⟩) 0 0 []
  e7 : s.d7 = true → s.d13 = false → ∃ g, v7 = .slice (some ⟨g, 0, none⟩) 0 0 ∧ Own W b0 5 (some ⟨g, 0, none⟩) 0 0 []
  e07 : s.d0 = true → s.d6 = false → s.d7 = true → s.d13 = false → v0 ≠ v7
  e6 : s.d6 = true → ∃ A c, v6 = .slice A k0 c ∧ Rd W W.heap.size A k0 (U8 l0)
  e13 : s.d13 = true → ∃ A c, v13 = .slice A k1 c ∧ Rd W W.heap.size A k1 (U8 l1)
  e19 : s.d19 = true → ∃ A c, v19 = .slice A m0 c ∧ Rd W W.heap.size A m0 (U8 (List.replicate m0 0))
  e25 : s.d25 = true → ∃ A c, v25 = .slice A m1 c ∧ Rd W W.heap.size A m1 (U8 (List.replicate m1 0))
  e26 : s.d26 = true → v26 = .agg (S4 v6 v13 v19 v25)
  e27 : s.d27 = true → ∃ g, v27 = .pointer (some ⟨g, 0, none⟩) ∧ b0 ≤ g ∧ Blk W g 25 (S4 (.slice none 0 0) (.slice none 0 0) (.slice none 0 0) (.slice none 0 0))
section
variable {b0 : Nat} {l0 l1 : List Nat} {k0 k1 m0 m1 : Nat} {s : St} {v0 v6 v7 v13 v19 v25 v26 v27 : Value} {W W' : World}
theorem JF.below (h : JF b0 l0 l1 k0 k1 m0 m1 s v0 v6 v7 v13 v19 v25 v26 v27 W) (hb : Below W.heap.size W W') : JF b0 l0 l1 k0 k1 m0 m1 s v0 v6 v7 v13 v19 v25 v26 v27 W' :=
  ⟨h.ok, fun a b => by obtain ⟨g, e, o⟩ := h.e0 a b; exact ⟨g, e, o.below hb (Nat.le_refl _)⟩, fun a b => by obtain ⟨g, e, o⟩ := h.e7 a b; exact ⟨g, e, o.below hb (Nat.le_refl _)⟩, h.e07,
    fun a => by obtain ⟨A, c, e, r⟩ := h.e6 a; exact ⟨A, c, e, (r.below hb).up hb.size⟩, fun a => by obtain ⟨A, c, e, r⟩ := h.e13 a; exact ⟨A, c, e, (r.below hb).up hb.size⟩,
    fun a => by obtain ⟨A, c, e, r⟩ := h.e19 a; exact ⟨A, c, e, (r.below hb).up hb.size⟩, fun a => by obtain ⟨A, c, e, r⟩ := h.e25 a; exact ⟨A, c, e, (r.below hb).up hb.size⟩, h.e26,
    fun a => by obtain ⟨g, e, hg, q⟩ := h.e27 a; exact ⟨g, e, hg, q.after hb⟩⟩
theorem JF.n0 (h : JF b0 l0 l1 k0 k1 m0 m1 s v0 v6 v7 v13 v19 v25 v26 v27 W) (hd : s.d0 = false) (hb : Below W.heap.size W W') (o : Own W' W.heap.size 5 (some ⟨W.heap.size, 0, none⟩) 0 0 []) (h0 : b0 ≤ W.heap.size) :
    JF b0 l0 l1 k0 k1 m0 m1 (s.nxt 0) (.slice (some ⟨W.heap.size, 0, none⟩) 0 0) v6 v7 v13 v19 v25 v26 v27 W' := by
  have t := h.below hb
  have hk := h.ok
  have h6 : s.d6 = false := by unfold St.ok at hk; cases h6 : s.d6 <;> simp_all
  refine ⟨?_, fun _ _ => ⟨_, rfl, o.down h0⟩, t.e7, fun _ _ a b e => ?_, t.e6, t.e13, t.e19, t.e25, t.e26, t.e27⟩
  · show St.ok { s with d0 := true } = true
    unfold St.ok at hk ⊢
    simp only [Bool.and_eq_true] at hk ⊢
    exact ⟨⟨by simp, hk.1.2⟩, hk.2⟩
  · obtain ⟨g, e2, o2⟩ := h.e7 a b
    rw [e2] at e
    injection e with e _ _
    injection e with e
    injection e with e
    have := (o2.blkLt g rfl).2
    omega
theorem JF.n7 (h : JF b0 l0 l1 k0 k1 m0 m1 s v0 v6 v7 v13 v19 v25 v26 v27 W) (hd : s.d7 = false) (hb : Below W.heap.size W W') (o : Own W' W.heap.size 5 (some ⟨W.heap.size, 0, none⟩) 0 0 []) (h0 : b0 ≤ W.heap.size) :
    JF b0 l0 l1 k0 k1 m0 m1 (s.nxt 7) v0 v6 (.slice (some ⟨W.heap.size, 0, none⟩) 0 0) v13 v19 v25 v26 v27 W' := by
  have t := h.below hb
  have hk := h.ok
  refine ⟨?_, t.e0, fun _ _ => ⟨_, rfl, o.down h0⟩, fun a b _ _ e => ?_, t.e6, t.e13, t.e19, t.e25, t.e26, t.e27⟩
  · show St.ok { s with d7 := true } = true
    unfold St.ok at hk ⊢
    simp_all
    rcases hk.2 with h1 | h1
    · exact h1
    · exact absurd h1.1.1.2 (by rw [hk.1.2]; decide)
  · obtain ⟨g, e2, o2⟩ := h.e0 a b
    rw [e2] at e
    injection e with e _ _
    injection e with e
    injection e with e
    have := (o2.blkLt g rfl).2
    omega
theorem JF.n6 (h : JF b0 l0 l1 k0 k1 m0 m1 s v0 v6 v7 v13 v19 v25 v26 v27 W) (h0 : s.d0 = true) (hd : s.d6 = false) {g : Nat} (hv : v0 = .slice (some ⟨g, 0, none⟩) 0 0) (ho : Own W b0 5 (some ⟨g, 0, none⟩) 0 0 []) (hg : W.grownBy W' (some g)) {A : Option Addr} {c : Nat} (hr : Rd W' W'.heap.size A k0 (U8 l0)) :
    JF b0 l0 l1 k0 k1 m0 m1 (s.nxt 6) v0 (.slice A k0 c) v7 v13 v19 v25 v26 v27 W' := by
  have he := own0_none ho
  have hk := h.ok
  refine ⟨?_, (fun _ b => by cases b), fun a b => ?_, (fun _ b => by cases b), fun _ => ⟨A, c, rfl, hr⟩, fun a => ?_, fun a => ?_, fun a => ?_, (fun a => by have a : s.d26 = true := a; exfalso; unfold St.ok at hk; simp_all), fun a => ?_⟩
  · show St.ok { s with d6 := true } = true
    unfold St.ok at hk ⊢
    simp_all
  · obtain ⟨g7, e, o⟩ := h.e7 a b
    exact ⟨g7, e, o.apart hg (fun e2 => by subst e2; exact h.e07 h0 hd a b (hv.trans e.symm))⟩
  · obtain ⟨B, d, e, r⟩ := h.e13 a; exact ⟨B, d, e, r.grownE hg he⟩
  · obtain ⟨B, d, e, r⟩ := h.e19 a; exact ⟨B, d, e, r.grownE hg he⟩
  · obtain ⟨B, d, e, r⟩ := h.e25 a; exact ⟨B, d, e, r.grownE hg he⟩
  · obtain ⟨g7, e, hb, q⟩ := h.e27 a
    exact ⟨g7, e, hb, q.grown hg (fun e2 => by injection e2 with e2; subst e2; have := he 0; rw [q.cell 0] at this; cases this)⟩
theorem JF.n13 (h : JF b0 l0 l1 k0 k1 m0 m1 s v0 v6 v7 v13 v19 v25 v26 v27 W) (h6 : s.d6 = true) (h7 : s.d7 = true) (hd : s.d13 = false) {g : Nat} (ho : Own W b0 5 (some ⟨g, 0, none⟩) 0 0 []) (hg : W.grownBy W' (some g)) {A : Option Addr} {c : Nat} (hr : Rd W' W'.heap.size A k1 (U8 l1)) :
    JF b0 l0 l1 k0 k1 m0 m1 (s.nxt 13) v0 v6 v7 (.slice A k1 c) v19 v25 v26 v27 W' := by
  have he := own0_none ho
  have hk := h.ok
  have n6 : ∀ {q : Prop}, (s.nxt 13).d6 = false → q := fun {q} b => by have : s.d6 = false := b; rw [h6] at this; cases this
  refine ⟨?_, (fun _ b => n6 b), (fun _ b => by cases b), (fun _ b _ _ => n6 b), fun a => ?_, fun _ => ⟨A, c, rfl, hr⟩, fun a => ?_, fun a => ?_, (fun a => by have a : s.d26 = true := a; exfalso; unfold St.ok at hk; simp_all), fun a => ?_⟩
  · show St.ok { s with d13 := true } = true
    unfold St.ok at hk ⊢
    simp_all
  · obtain ⟨B, d, e, r⟩ := h.e6 a; exact ⟨B, d, e, r.grownE hg he⟩
  · obtain ⟨B, d, e, r⟩ := h.e19 a; exact ⟨B, d, e, r.grownE hg he⟩
  · obtain ⟨B, d, e, r⟩ := h.e25 a; exact ⟨B, d, e, r.grownE hg he⟩
  · obtain ⟨g7, e, hb, q⟩ := h.e27 a
    exact ⟨g7, e, hb, q.grown hg (fun e2 => by injection e2 with e2; subst e2; have := he 0; rw [q.cell 0] at this; cases this)⟩
theorem JF.n19 (h : JF b0 l0 l1 k0 k1 m0 m1 s v0 v6 v7 v13 v19 v25 v26 v27 W) (hd : s.d19 = false) (hb : Below W.heap.size W W') {A : Option Addr} {c : Nat} (hr : Rd W' W'.heap.size A m0 (U8 (List.replicate m0 0))) :
    JF b0 l0 l1 k0 k1 m0 m1 (s.nxt 19) v0 v6 v7 v13 (.slice A m0 c) v25 v26 v27 W' := by
  have t := h.below hb
  have hk := h.ok
  exact ⟨(by have hk := h.ok; show St.ok { s with d19 := true } = true; unfold St.ok at hk ⊢; simp_all), t.e0, t.e7, t.e07, t.e6, t.e13, fun _ => ⟨A, c, rfl, hr⟩, t.e25, (fun a => by have a : s.d26 = true := a; exfalso; unfold St.ok at hk; simp_all), t.e27⟩
theorem JF.n25 (h : JF b0 l0 l1 k0 k1 m0 m1 s v0 v6 v7 v13 v19 v25 v26 v27 W) (hd : s.d25 = false) (hb : Below W.heap.size W W') {A : Option Addr} {c : Nat} (hr : Rd W' W'.heap.size A m1 (U8 (List.replicate m1 0))) :
    JF b0 l0 l1 k0 k1 m0 m1 (s.nxt 25) v0 v6 v7 v13 v19 (.slice A m1 c) v26 v27 W' := by
  have t := h.below hb
  have hk := h.ok
  exact ⟨(by have hk := h.ok; show St.ok { s with d25 := true } = true; unfold St.ok at hk ⊢; simp_all), t.e0, t.e7, t.e07, t.e6, t.e13, t.e19, fun _ => ⟨A, c, rfl, hr⟩, (fun a => by have a : s.d26 = true := a; exfalso; unfold St.ok at hk; simp_all), t.e27⟩
theorem JF.n27 (h : JF b0 l0 l1 k0 k1 m0 m1 s v0 v6 v7 v13 v19 v25 v26 v27 W) (hb : Below W.heap.size W W') (h0 : b0 ≤ W.heap.size) (hq : Blk W' W.heap.size 25 (S4 (.slice none 0 0) (.slice none 0 0) (.slice none 0 0) (.slice none 0 0))) :
    JF b0 l0 l1 k0 k1 m0 m1 (s.nxt 27) v0 v6 v7 v13 v19 v25 v26 (.pointer (some ⟨W.heap.size, 0, none⟩)) W' := by
  have t := h.below hb
  exact ⟨t.ok, t.e0, t.e7, t.e07, t.e6, t.e13, t.e19, t.e25, t.e26, fun _ => ⟨_, rfl, h0, hq⟩⟩
theorem JF.n26 (h : JF b0 l0 l1 k0 k1 m0 m1 s v0 v6 v7 v13 v19 v25 v26 v27 W) (h6 : s.d6 = true) (h13 : s.d13 = true) (h19 : s.d19 = true) (h25 : s.d25 = true) :
    JF b0 l0 l1 k0 k1 m0 m1 (s.nxt 26) v0 v6 v7 v13 v19 v25 (.agg (S4 v6 v13 v19 v25)) v27 W :=
  ⟨(by have hk := h.ok; show St.ok { s with d26 := true } = true; unfold St.ok at hk ⊢; simp_all), h.e0, h.e7, h.e07, h.e6, h.e13, h.e19, h.e25, fun _ => rfl, h.e27⟩
end
def pk {α : Type} (a b c d : α) (v : Nat) : α := if v = 0 then a else if v = 1 then b else if v = 2 then c else d
theorem Rd.none0 {W : World} {B : Nat} {A : Option Addr} {n : Nat} {xs : List Value} (h : Rd W B A n xs) (hA : A = none) : n = 0 := by
  cases n with
  | zero => rfl
  | succ n =>
    obtain ⟨b, off, e, _⟩ := h.at_ (Nat.succ_pos n)
    rw [hA] at e
    cases e
theorem RdU {W x : World} {A : Option Addr} {n g : Nat} {l : List Nat} {t : TypeId} {V : Array Value} (h : Rd W W.heap.size A n (U8 l)) (q : Blk W g t (S4 (.slice none 0 0) (.slice none 0 0) (.slice none 0 0) (.slice none 0 0))) (U : Upd W x g t V) : Rd x x.heap.size A n (U8 l) := by
  refine ⟨h.len, fun hn => ?_⟩
  obtain ⟨b, off, e, hlt, hc⟩ := h.at_ hn
  have hl := h.len8
  have hb : b ≠ g := fun e2 => by
    subst e2
    have := hc 0 _ (U8_get l 0 (by omega))
    rw [q.cell] at this
    match off, this with
    | 0, h => cases h
    | 1, h => cases h
    | 2, h => cases h
    | 3, h => cases h
    | k + 4, h => rw [Array.getElem?_eq_none (by show 4 ≤ k + 4 + 0; omega)] at h; cases h
  exact ⟨b, off, e, by rw [U.size]; exact hlt, fun i u hu => (World.cell?_of_block (U.oth b hb)).trans (hc i u hu)⟩
theorem JoinR.flat {w w' : World} {n0 n1 n2 n3 : Nat} {L0 L1 L2 L3 : List Nat} {e : Ending} (h : JoinR w n0 n1 n2 n3 L0 L1 L2 L3 e w') :
    ∃ (Ac : Option Addr) (Nc Cc : Nat) (ei : Int), e = .returned (.tuple #[.slice Ac Nc Cc, .int .i64 ei]) ∧ Hid (((Bm.isB L0 && Bm.isB L1 && Bm.isB L2 && Bm.isB L3) = false ∧ (Ac = none ∧ Nc = 0 ∧ Cc = 0) ∧ ei = 5) ∨ ((Bm.isB L0 && Bm.isB L1 && Bm.isB L2 && Bm.isB L3) = true ∧ ¬ (n1 = n0 ∧ n2 = n0 ∧ n3 = n0) ∧ (Ac = none ∧ Nc = 0 ∧ Cc = 0) ∧ ei = 1) ∨
      ((Bm.isB L0 && Bm.isB L1 && Bm.isB L2 && Bm.isB L3) = true ∧ (n1 = n0 ∧ n2 = n0 ∧ n3 = n0) ∧ ∃ g, Ac = some ⟨g, 0, none⟩ ∧ Nc = 4 * n0 ∧ Cc = 4 * n0 ∧ ei = 0 ∧ w.heap.size ≤ g ∧ Blk w' g 5 (B8 (jf (P4 L0 L1 L2 L3) n0 4 0)))) ∧ Below w.heap.size w w' := by
  rcases h with ⟨h1, e1, b⟩ | ⟨h1, h2, e1, b⟩ | ⟨h1, h2, g, N, hN, e1, hg, hq, b⟩
  · exact ⟨none, 0, 0, 5, e1, .inl ⟨h1, ⟨rfl, rfl, rfl⟩, rfl⟩, b⟩
  · exact ⟨none, 0, 0, 1, e1, .inr (.inl ⟨h1, h2, ⟨rfl, rfl, rfl⟩, rfl⟩), b⟩
  · exact ⟨some ⟨g, 0, none⟩, N, N, 0, e1, .inr (.inr ⟨h1, h2, g, rfl, hN, hN, rfl, hg, hq⟩), b⟩
theorem cut60 (n : Nat) : ∃ k : Nat, k ≤ 60 ∧ k ≤ n ∧ (if (60 : Int) < (n : Int) then (60 : Int) else (n : Int)) = (k : Int) ∧ min (n : Int) 60 = (k : Int) := by
  obtain ⟨k, h1, h2, h3⟩ := min_if n 60
  exact ⟨k, h1, h2, (h3 60 rfl).1, (h3 60 rfl).2⟩
theorem info2a (x y : Int) : (Try.prog.info? 23).map (·.size) = some (#[Value.int .i64 x, .int .i64 y] : Array Value).size := (show (Try.prog.info? 23).map (·.size) = some 2 by kernel_rfl)

set_option maxHeartbeats 3000000 in
set_option maxRecDepth 100000 in
/-- VersionJoins. -/
theorem walkVersionJoins (A1 A2 : Option Addr) (n1 c1 n2 c2 : Nat) (xs ys : List Nat) (x0 x1 : Int) (w : World) (r1 : Rd w w.heap.size A1 n1 (U8 xs)) (b1 : ∀ b ∈ xs, b < 256) (hn1 : n1 ≤ c1) (hc1 : c1 ≤ 9223372036854775807) (hA1 : A1 = none → n1 = 0 ∧ c1 = 0) (r2 : Rd w w.heap.size A2 n2 (U8 ys)) (b2 : ∀ b ∈ ys, b < 256) (hn2 : n2 ≤ c2) (hc2 : c2 ≤ 9223372036854775807) (hA2 : A2 = none → n2 = 0 ∧ c2 = 0) :
    Calls Try.prog 3 #[.slice A1 n1 c1, .slice A2 n2 c2, .agg #[.int .i64 x0, .int .i64 x1]] w fun e w' => e = .returned (.bool true) ∧ Below w.heap.size w w' := by
  obtain ⟨k0, hk0, hkn0, hm0, hm0'⟩ := cut60 n1
  obtain ⟨k1, hk1, hkn1, hm1, hm1'⟩ := cut60 n2
  have hkc0 : k0 ≤ c1 := by omega
  have hkc1 : k1 ≤ c2 := by omega
  have f0 := show IntKind.u64.wrap x0 = (((x0 % 18446744073709551616).toNat : Nat) : Int) by rw [show IntKind.u64.wrap x0 = x0 % 18446744073709551616 from IntKind.wrap_u64 x0]; omega
  have f1 := show IntKind.u64.wrap x1 = (((x1 % 18446744073709551616).toNat : Nat) : Int) by rw [show IntKind.u64.wrap x1 = x1 % 18446744073709551616 from IntKind.wrap_u64 x1]; omega
  obtain ⟨u0, hu0⟩ : ∃ u, u = (x0 % 18446744073709551616).toNat := ⟨_, rfl⟩
  obtain ⟨u1, hu1⟩ : ∃ u, u = (x1 % 18446744073709551616).toNat := ⟨_, rfl⟩
  rw [← hu0] at f0
  rw [← hu1] at f1
  obtain ⟨m0, hmm0⟩ : ∃ m, m = u0 % 20 := ⟨_, rfl⟩
  obtain ⟨m1, hmm1⟩ : ∃ m, m = u1 % 20 := ⟨_, rfl⟩
  have g0 : IntKind.i64.wrap ((u0 : Int).tmod 20) = (m0 : Int) := by rw [Int.tmod_eq_emod_of_nonneg (by omega), IntWalk.i64_in _ (by omega)]; omega
  have g1 : IntKind.i64.wrap ((u1 : Int).tmod 20) = (m1 : Int) := by rw [Int.tmod_eq_emod_of_nonneg (by omega), IntWalk.i64_in _ (by omega)]; omega
  have hm020 : m0 < 20 := by omega
  have hm120 : m1 < 20 := by omega
  obtain ⟨i0, hi0, hz0, hz1, hz2⟩ := info_parts info5
  clear hu0 hu1 hmm0 hmm1
  go_enter Try.func3, Try.ntmps3
  go_upto_region 1 with (refine at_box rfl 23 _ rfl #[.int .i64 x0, .int .i64 x1] rfl ?_; intro w1 L1)
  have q5 := L1.row
  have bw1 := L1.bel
  have hs1 : w.heap.size < w1.heap.size := by rw [L1.size]; omega
  obtain ⟨g5, hg5⟩ : ∃ g, g = w.heap.size := ⟨_, rfl⟩
  rw [← hg5] at q5 hs1 ⊢
  have HG5 := Lib.hid hg5
  have c50 : w1.cell? ⟨g5, 0, none⟩ = some (.int .i64 x0) := (q5.cell 0).trans rfl
  have c51 : w1.cell? ⟨g5, 1, none⟩ = some (.int .i64 x1) := (q5.cell 1).trans rfl
  have HK : Hid (∀ W, Below w1.heap.size w1 W → (Below w1.heap.size w1 W ∧ W.cell? ⟨g5, 0, none⟩ = some (.int .i64 x0) ∧ W.cell? ⟨g5, 1, none⟩ = some (.int .i64 x1))) := fun W h => ⟨h, (h.cell (p := ⟨g5, 0, none⟩) hs1).trans c50, (h.cell (p := ⟨g5, 1, none⟩) hs1).trans c51⟩
  clear L1 hg5
  refine wp_region_noPanic ?_
  refine wp_region_held_drew (S := fun W => Below w1.heap.size w1 W ∧ W.cell? ⟨g5, 0, none⟩ = some (.int .i64 x0) ∧ W.cell? ⟨g5, 1, none⟩ = some (.int .i64 x1)) (by kernel_rfl) (HK.out _ (Below.refl _ _).drew) (fun hHeld => ?_)
  refine wpAnyH_take (i := 1) (oi := ⟨some 15, _, _, _, _, _⟩) (v := ?_) rfl (by kernel_rfl) (by kernel_rfl) (by kernel_rfl) (fun _ _ _ h => h) (Or.inl ⟨by rfl, ?_⟩) hHeld ?_
  rotate_left
  · intro W hSW; obtain ⟨hSW0, hSW1, hSW2⟩ := hSW; go_simp; first | done | with_reducible rfl
  (try simp only [Act.put, List.setIfInBounds_toArray, List.set_cons_zero, List.set_cons_succ])
  refine wpAnyH_take (i := 2) (oi := ⟨some 16, _, _, _, _, _⟩) (v := ?_) rfl (by kernel_rfl) (by kernel_rfl) (by kernel_rfl) (fun _ _ _ h => h) (Or.inl ⟨by rfl, ?_⟩) hHeld ?_
  rotate_left
  · intro W hSW; obtain ⟨hSW0, hSW1, hSW2⟩ := hSW; go_simp; first | done | with_reducible rfl
  (try simp only [Act.put, List.setIfInBounds_toArray, List.set_cons_zero, List.set_cons_succ])
  refine wpAnyH_take (i := 3) (oi := ⟨some 17, _, _, _, _, _⟩) (v := ?_) rfl (by kernel_rfl) (by kernel_rfl) (by kernel_rfl) (fun _ _ _ h => h) (Or.inl ⟨by rfl, ?_⟩) hHeld ?_
  rotate_left
  · intro W hSW; obtain ⟨hSW0, hSW1, hSW2⟩ := hSW; go_simp; first | done | with_reducible rfl
  (try simp only [Act.put, List.setIfInBounds_toArray, List.set_cons_zero, List.set_cons_succ])
  refine wpAnyH_take (i := 4) (oi := ⟨some 18, _, _, _, _, _⟩) (v := ?_) rfl (by kernel_rfl) (by kernel_rfl) (by kernel_rfl) (fun _ _ _ h => h) (Or.inl ⟨by rfl, ?_⟩) hHeld ?_
  rotate_left
  · intro W hSW; obtain ⟨hSW0, hSW1, hSW2⟩ := hSW; go_simp; first | done | with_reducible rfl
  (try simp only [Act.put, List.setIfInBounds_toArray, List.set_cons_zero, List.set_cons_succ])
  refine wpAnyH_take (i := 5) (oi := ⟨some 19, _, _, _, _, _⟩) (v := ?_) rfl (by kernel_rfl) (by kernel_rfl) (by kernel_rfl) (fun _ _ _ h => h) (Or.inl ⟨by rfl, ?_⟩) hHeld ?_
  rotate_left
  · intro W hSW; obtain ⟨hSW0, hSW1, hSW2⟩ := hSW; go_simp; first | done | with_reducible rfl
  (try simp only [Act.put, List.setIfInBounds_toArray, List.set_cons_zero, List.set_cons_succ])
  refine wpAnyH_take (i := 8) (oi := ⟨some 22, _, _, _, _, _⟩) (v := ?_) rfl (by kernel_rfl) (by kernel_rfl) (by kernel_rfl) (fun _ _ _ h => h) (Or.inl ⟨by rfl, ?_⟩) hHeld ?_
  rotate_left
  · intro W hSW; obtain ⟨hSW0, hSW1, hSW2⟩ := hSW; go_simp; first | done | with_reducible rfl
  (try simp only [Act.put, List.setIfInBounds_toArray, List.set_cons_zero, List.set_cons_succ])
  refine wpAnyH_take (i := 9) (oi := ⟨some 23, _, _, _, _, _⟩) (v := ?_) rfl (by kernel_rfl) (by kernel_rfl) (by kernel_rfl) (fun _ _ _ h => h) (Or.inl ⟨by rfl, ?_⟩) hHeld ?_
  rotate_left
  · intro W hSW; obtain ⟨hSW0, hSW1, hSW2⟩ := hSW; go_simp; first | done | with_reducible rfl
  (try simp only [Act.put, List.setIfInBounds_toArray, List.set_cons_zero, List.set_cons_succ])
  refine wpAnyH_take (i := 10) (oi := ⟨some 24, _, _, _, _, _⟩) (v := ?_) rfl (by kernel_rfl) (by kernel_rfl) (by kernel_rfl) (fun _ _ _ h => h) (Or.inl ⟨by rfl, ?_⟩) hHeld ?_
  rotate_left
  · intro W hSW; obtain ⟨hSW0, hSW1, hSW2⟩ := hSW; go_simp; first | done | with_reducible rfl
  (try simp only [Act.put, List.setIfInBounds_toArray, List.set_cons_zero, List.set_cons_succ])
  refine wpAnyH_take (i := 11) (oi := ⟨some 25, _, _, _, _, _⟩) (v := ?_) rfl (by kernel_rfl) (by kernel_rfl) (by kernel_rfl) (fun _ _ _ h => h) (Or.inl ⟨by rfl, ?_⟩) hHeld ?_
  rotate_left
  · intro W hSW; obtain ⟨hSW0, hSW1, hSW2⟩ := hSW; go_simp; first | done | with_reducible rfl
  (try simp only [Act.put, List.setIfInBounds_toArray, List.set_cons_zero, List.set_cons_succ])
  refine wpAnyH_take (i := 12) (oi := ⟨some 26, _, _, _, _, _⟩) (v := ?_) rfl (by kernel_rfl) (by kernel_rfl) (by kernel_rfl) (fun _ _ _ h => h) (Or.inl ⟨by rfl, ?_⟩) hHeld ?_
  rotate_left
  · intro W hSW; obtain ⟨hSW0, hSW1, hSW2⟩ := hSW; go_simp; first | done | with_reducible rfl
  (try simp only [Act.put, List.setIfInBounds_toArray, List.set_cons_zero, List.set_cons_succ])
  refine wpAnyH_take (i := 14) (oi := ⟨some 28, _, _, _, _, _⟩) (v := ?_) rfl (by kernel_rfl) (by kernel_rfl) (by kernel_rfl) (fun _ _ _ h => h) (Or.inl ⟨by rfl, ?_⟩) hHeld ?_
  rotate_left
  · intro W hSW; obtain ⟨hSW0, hSW1, hSW2⟩ := hSW; go_simp; first | done | with_reducible rfl
  (try simp only [Act.put, List.setIfInBounds_toArray, List.set_cons_zero, List.set_cons_succ])
  refine wpAnyH_take (i := 15) (oi := ⟨some 29, _, _, _, _, _⟩) (v := ?_) rfl (by kernel_rfl) (by kernel_rfl) (by kernel_rfl) (fun _ _ _ h => h) (Or.inl ⟨by rfl, ?_⟩) hHeld ?_
  rotate_left
  · intro W hSW; obtain ⟨hSW0, hSW1, hSW2⟩ := hSW; go_simp; first | done | with_reducible rfl
  (try simp only [Act.put, List.setIfInBounds_toArray, List.set_cons_zero, List.set_cons_succ])
  refine wpAnyH_take (i := 16) (oi := ⟨some 30, _, _, _, _, _⟩) (v := ?_) rfl (by kernel_rfl) (by kernel_rfl) (by kernel_rfl) (fun _ _ _ h => h) (Or.inl ⟨by rfl, ?_⟩) hHeld ?_
  rotate_left
  · intro W hSW; obtain ⟨hSW0, hSW1, hSW2⟩ := hSW; go_simp; first | done | with_reducible rfl
  (try simp only [Act.put, List.setIfInBounds_toArray, List.set_cons_zero, List.set_cons_succ])
  refine wpAnyH_take (i := 17) (oi := ⟨some 31, _, _, _, _, _⟩) (v := ?_) rfl (by kernel_rfl) (by kernel_rfl) (by kernel_rfl) (fun _ _ _ h => h) (Or.inl ⟨by rfl, ?_⟩) hHeld ?_
  rotate_left
  · intro W hSW; obtain ⟨hSW0, hSW1, hSW2⟩ := hSW; go_simp; first | done | with_reducible rfl
  (try simp only [Act.put, List.setIfInBounds_toArray, List.set_cons_zero, List.set_cons_succ])
  refine wpAnyH_take (i := 18) (oi := ⟨some 32, _, _, _, _, _⟩) (v := ?_) rfl (by kernel_rfl) (by kernel_rfl) (by kernel_rfl) (fun _ _ _ h => h) (Or.inl ⟨by rfl, ?_⟩) hHeld ?_
  rotate_left
  · intro W hSW; obtain ⟨hSW0, hSW1, hSW2⟩ := hSW; go_simp; first | done | with_reducible rfl
  (try simp only [Act.put, List.setIfInBounds_toArray, List.set_cons_zero, List.set_cons_succ])
  refine wpAnyH_take (i := 20) (oi := ⟨some 34, _, _, _, _, _⟩) (v := ?_) rfl (by kernel_rfl) (by kernel_rfl) (by kernel_rfl) (fun _ _ _ h => h) (Or.inl ⟨by rfl, ?_⟩) hHeld ?_
  rotate_left
  · intro W hSW; obtain ⟨hSW0, hSW1, hSW2⟩ := hSW; go_simp; first | done | with_reducible rfl
  (try simp only [Act.put, List.setIfInBounds_toArray, List.set_cons_zero, List.set_cons_succ])
  refine wpAnyH_take (i := 21) (oi := ⟨some 35, _, _, _, _, _⟩) (v := ?_) rfl (by kernel_rfl) (by kernel_rfl) (by kernel_rfl) (fun _ _ _ h => h) (Or.inl ⟨by rfl, ?_⟩) hHeld ?_
  rotate_left
  · intro W hSW; obtain ⟨hSW0, hSW1, hSW2⟩ := hSW; go_simp; first | done | with_reducible rfl
  (try simp only [Act.put, List.setIfInBounds_toArray, List.set_cons_zero, List.set_cons_succ])
  refine wpAnyH_take (i := 22) (oi := ⟨some 36, _, _, _, _, _⟩) (v := ?_) rfl (by kernel_rfl) (by kernel_rfl) (by kernel_rfl) (fun _ _ _ h => h) (Or.inl ⟨by rfl, ?_⟩) hHeld ?_
  rotate_left
  · intro W hSW; obtain ⟨hSW0, hSW1, hSW2⟩ := hSW; go_simp; first | done | with_reducible rfl
  (try simp only [Act.put, List.setIfInBounds_toArray, List.set_cons_zero, List.set_cons_succ])
  refine wpAnyH_take (i := 23) (oi := ⟨some 37, _, _, _, _, _⟩) (v := ?_) rfl (by kernel_rfl) (by kernel_rfl) (by kernel_rfl) (fun _ _ _ h => h) (Or.inl ⟨by rfl, ?_⟩) hHeld ?_
  rotate_left
  · intro W hSW; obtain ⟨hSW0, hSW1, hSW2⟩ := hSW; go_simp; first | done | with_reducible rfl
  (try simp only [Act.put, List.setIfInBounds_toArray, List.set_cons_zero, List.set_cons_succ])
  refine wpAnyH_take (i := 24) (oi := ⟨some 38, _, _, _, _, _⟩) (v := ?_) rfl (by kernel_rfl) (by kernel_rfl) (by kernel_rfl) (fun _ _ _ h => h) (Or.inl ⟨by rfl, ?_⟩) hHeld ?_
  rotate_left
  · intro W hSW; obtain ⟨hSW0, hSW1, hSW2⟩ := hSW; go_simp; first | done | with_reducible rfl
  (try simp only [Act.put, List.setIfInBounds_toArray, List.set_cons_zero, List.set_cons_succ])
  have rc1 : Hid (∀ W, Below w1.heap.size w1 W → Rd W W.heap.size A1 k0 (U8 (xs.take k0))) := fun W h => (((r1.below bw1).below (h.mono bw1.size)).up (Nat.le_trans bw1.size h.size)).cut8 k0 hkn0
  have rc2 : Hid (∀ W, Below w1.heap.size w1 W → Rd W W.heap.size A2 k1 (U8 (ys.take k1))) := fun W h => (((r2.below bw1).below (h.mono bw1.size)).up (Nat.le_trans bw1.size h.size)).cut8 k1 hkn1
  have HN1 : Hid (A1 = none → k0 = 0 ∧ c1 = 0) := fun h => by have := hA1 h; omega
  have HN2 : Hid (A2 = none → k1 = 0 ∧ c2 = 0) := fun h => by have := hA2 h; omega
  refine wpAnyH_at (l' := St.lst ⟨false, false, false, false, false, false, false, false⟩) (by kernel_rfl) rfl ?_
  refine wpAnyH_states St.lst St.mu St.nxt (fun s a W => Below w1.heap.size w1 W ∧ ∃ v0 v6 v7 v13 v19 v25 v26 v27 : Value, a = ⟨#[.slice A1 n1 c1, .slice A2 n2 c2, .agg #[.int .i64 x0, .int .i64 x1], undef, undef, .pointer (some ⟨g5, 0, none⟩), .bool false, v27, undef, undef, undef, undef, undef, undef, v0, .slice A1 n1 c1, .slice A1 n1 c1, .int .i64 n1, .int .i64 k0, .slice A1 k0 c1, v6, v7, .slice A2 n2 c2, .slice A2 n2 c2, .int .i64 n2, .int .i64 k1, .slice A2 k1 c2, v13, .pointer (some ⟨g5, 0, none⟩), .int .i64 x0, .int .u64 u0, .int .u64 ((u0 : Int).tmod 20), .int .i64 m0, v19, .pointer (some ⟨g5, 1, none⟩), .int .i64 x1, .int .u64 u1, .int .u64 ((u1 : Int).tmod 20), .int .i64 m1, v25, v26, undef, undef, undef, undef, undef, undef, undef, undef, undef, undef, undef, undef, undef, undef, undef, undef, undef, undef, undef, undef, undef, undef, undef, undef, undef, undef, undef, undef, undef, undef, undef, undef, undef, undef, undef, undef, undef, undef, undef, undef, undef, undef, undef, undef, undef, undef, undef, undef, undef, undef, undef, undef, undef, undef, undef, undef, undef, undef, undef, undef, undef, undef, undef, undef, undef, undef, undef, undef, undef, undef, undef, undef, undef, undef, undef, undef, undef, undef], []⟩ ∧ JF w1.heap.size (xs.take k0) (ys.take k1) k0 k1 m0 m1 s v0 v6 v7 v13 v19 v25 v26 v27 W) 1 ?_ ?_ ?_ ?_ 8 ⟨false, false, false, false, false, false, false, false⟩ _ _ rfl ⟨hHeld.1, undef, undef, undef, undef, undef, undef, undef, undef, rfl, ⟨rfl, (fun a => by cases a), (fun a => by cases a), (fun a => by cases a), (fun a => by cases a), (fun a => by cases a), (fun a => by cases a), (fun a => by cases a), (fun a => by cases a), (fun a => by cases a)⟩⟩
  · rintro s a W ⟨_, _, _, _, _, _, _, _, _, _, hJ⟩ hp
    exact (chk_spec (by kernel_rfl) s hJ.ok hp).1
  · rintro s i a W ⟨_, _, _, _, _, _, _, _, _, _, hJ⟩ hp hi
    exact St.nxt_lst ((chk_spec (by kernel_rfl) s hJ.ok hp).2 i hi)
  · rintro s i a W ⟨hB, v0, v6, v7, v13, v19, v25, v26, v27, rfl, hJ⟩ hp hi
    have hm := (chk_spec (by kernel_rfl) s hJ.ok hp).2 i hi
    have hBs := hB.size
    clear hi
    rcases St.cases_ hm with ⟨rfl, d⟩ | ⟨rfl, d0, d⟩ | ⟨rfl, d⟩ | ⟨rfl, d6, d7, d⟩ | ⟨rfl, d⟩ | ⟨rfl, d⟩ | ⟨rfl, d6, d13, d19, d25, d⟩ | ⟨rfl, d⟩
    · refine wpOp_step (o := ⟨some 14, _, _, _, _, _⟩) rfl (fun K hK => ?_)
      refine step_none (by rfl) 22 5 (by rfl) i0 Try.underlying22 hi0 ?_
      intro x o b sz
      have hB2 := hB.trans (b.mono hBs)
      exact hK _ _ ⟨HK.out _ hB2, hB2, _, v6, v7, v13, v19, v25, v26, v27, rfl, hJ.n0 d b o hBs⟩
    · obtain ⟨g, rfl, o⟩ := hJ.e0 d0 d
      refine wpOp_step (o := ⟨some 20, _, _, _, _, _⟩) rfl (fun K hK => ?_)
      refine step_app (by rfl) _ _ 22 (by rfl) w1.heap.size 5 i0 _ 1 Try.underlying22 hi0 hz0 hz1 hz2 rfl _ 0 0 [] (by rfl) o W.heap.size A1 k0 c1 (U8 (xs.take k0)) (by rfl) (rc1.out W hB) HN1.out (U8_one _) (by omega) (by unfold maxLen; omega) hBs ?_
      intro A' c' x o' g' l'
      have hB2 : Below w1.heap.size w1 x := hB.grown g' hBs (fun j hj => (o.block j hj).1)
      have hr := (o'.to (Nat.zero_add k0) (List.nil_append _)).rd
      rw [Nat.zero_add]
      exact hK _ _ ⟨HK.out _ hB2, hB2, _, _, v7, v13, v19, v25, v26, v27, rfl, hJ.n6 d0 d rfl o g' hr⟩
    · refine wpOp_step (o := ⟨some 21, _, _, _, _, _⟩) rfl (fun K hK => ?_)
      refine step_none (by rfl) 22 5 (by rfl) i0 Try.underlying22 hi0 ?_
      intro x o b sz
      have hB2 := hB.trans (b.mono hBs)
      exact hK _ _ ⟨HK.out _ hB2, hB2, v0, v6, _, v13, v19, v25, v26, v27, rfl, hJ.n7 d b o hBs⟩
    · obtain ⟨g, rfl, o⟩ := hJ.e7 d7 d
      refine wpOp_step (o := ⟨some 27, _, _, _, _, _⟩) rfl (fun K hK => ?_)
      refine step_app (by rfl) _ _ 22 (by rfl) w1.heap.size 5 i0 _ 1 Try.underlying22 hi0 hz0 hz1 hz2 rfl _ 0 0 [] (by rfl) o W.heap.size A2 k1 c2 (U8 (ys.take k1)) (by rfl) (rc2.out W hB) HN2.out (U8_one _) (by omega) (by unfold maxLen; omega) hBs ?_
      intro A' c' x o' g' l'
      have hB2 : Below w1.heap.size w1 x := hB.grown g' hBs (fun j hj => (o.block j hj).1)
      have hr := (o'.to (Nat.zero_add k1) (List.nil_append _)).rd
      rw [Nat.zero_add]
      exact hK _ _ ⟨HK.out _ hB2, hB2, v0, v6, _, _, v19, v25, v26, v27, rfl, hJ.n13 d6 d7 d o g' hr⟩
    · refine wpOp_step (o := ⟨some 33, _, _, _, _, _⟩) rfl (fun K hK => ?_)
      refine step_makeN (by rfl) _ _ 22 (by rfl) w1.heap.size 5 i0 (.int .u8 0) 1 Try.underlying22 hi0 hz0 hz1 .i64 .i64 m0 (by rfl) (by rfl) (by rw [hz2]; omega) (by unfold maxLen; omega) hBs ?_
      intro x o g'
      have b : Below W.heap.size W x := (Below.refl _ _).grown g' (Nat.le_refl _) (fun j h => by cases h)
      have hB2 := hB.trans (b.mono hBs)
      rw [made8] at o
      have hr := (show Own x w1.heap.size 5 _ m0 m0 (U8 (List.replicate m0 0)) from ⟨o⟩).rd
      exact hK _ _ ⟨HK.out _ hB2, hB2, v0, v6, v7, v13, _, v25, v26, v27, rfl, hJ.n19 d b hr⟩
    · refine wpOp_step (o := ⟨some 39, _, _, _, _, _⟩) rfl (fun K hK => ?_)
      refine step_makeN (by rfl) _ _ 22 (by rfl) w1.heap.size 5 i0 (.int .u8 0) 1 Try.underlying22 hi0 hz0 hz1 .i64 .i64 m1 (by rfl) (by rfl) (by rw [hz2]; omega) (by unfold maxLen; omega) hBs ?_
      intro x o g'
      have b : Below W.heap.size W x := (Below.refl _ _).grown g' (Nat.le_refl _) (fun j h => by cases h)
      have hB2 := hB.trans (b.mono hBs)
      rw [made8] at o
      have hr := (show Own x w1.heap.size 5 _ m1 m1 (U8 (List.replicate m1 0)) from ⟨o⟩).rd
      exact hK _ _ ⟨HK.out _ hB2, hB2, v0, v6, v7, v13, v19, _, v26, v27, rfl, hJ.n25 d b hr⟩
    · have hS := HK.out W hB
      have hJ2 := hJ.n26 d6 d13 d19 d25
      obtain ⟨A6, c6, rfl, _⟩ := hJ.e6 d6
      obtain ⟨A13, c13, rfl, _⟩ := hJ.e13 d13
      obtain ⟨A19, c19, rfl, _⟩ := hJ.e19 d19
      obtain ⟨A25, c25, rfl, _⟩ := hJ.e25 d25
      clear hJ hm
      refine YieldsIf.wpOp (S := fun W => Below w1.heap.size w1 W ∧ W.cell? ⟨g5, 0, none⟩ = some (.int .i64 x0) ∧ W.cell? ⟨g5, 1, none⟩ = some (.int .i64 x1)) (o := ⟨some 40, _, _, _, _, _⟩) (v := .agg (S4 (.slice A6 k0 c6) (.slice A13 k1 c13) (.slice A19 m0 c19) (.slice A25 m1 c25))) rfl (Or.inl ⟨by rfl, ?_⟩) hS ⟨hS, hB, v0, _, v7, _, _, _, _, v27, rfl, hJ2⟩
      intro W hSW; obtain ⟨hSW0, hSW1, hSW2⟩ := hSW; go_simp; first | done | with_reducible rfl | rfl
    · refine wpOp_step (o := ⟨some 7, _, _, _, _, _⟩) rfl (fun K hK => ?_)
      refine step_alloc (by rfl) 25 (by rfl) _ ZS_eq ?_
      intro x h
      have hB2 := hB.trans (h.bel.mono hBs)
      exact hK _ _ ⟨HK.out _ hB2, hB2, v0, v6, v7, v13, v19, v25, v26, _, rfl, hJ.n27 h.bel hBs h.row⟩
  · rintro ⟨d0, d6, d7, d13, d19, d25, d26, d27⟩ a W ⟨hB, v0, v6, v7, v13, v19, v25, v26, v27, rfl, hJ⟩ hp
    have hall : d0 = true ∧ d6 = true ∧ d7 = true ∧ d13 = true ∧ d19 = true ∧ d25 = true ∧ d26 = true ∧ d27 = true := by
      unfold St.mu b01 at hp
      cases d0 <;> cases d6 <;> cases d7 <;> cases d13 <;> cases d19 <;> cases d25 <;> cases d26 <;> cases d27 <;> simp_all
    obtain ⟨rfl, rfl, rfl, rfl, rfl, rfl, rfl, rfl⟩ := hall
    obtain ⟨A6, c6, rfl, rd0⟩ := hJ.e6 rfl
    obtain ⟨A13, c13, rfl, rd1⟩ := hJ.e13 rfl
    obtain ⟨A19, c19, rfl, rd2⟩ := hJ.e19 rfl
    obtain ⟨A25, c25, rfl, rd3⟩ := hJ.e25 rfl
    obtain rfl := hJ.e26 rfl
    obtain ⟨g7, rfl, hg7, q7⟩ := hJ.e27 rfl
    have hHeld := HK.out W hB
    clear hJ hp
    refine wpAnyH_ready (rs := [28]) (by kernel_rfl) (by simp) ?_
    refine AllReadyH.cons (o := ⟨none, _, _, _, _, _⟩) rfl (fun K hK => ?_) (AllReadyH.nil)
    refine step_store (by rfl) 25 _ _ (by rfl) g7 (S4 (.slice A6 k0 c6) (.slice A13 k1 c13) (.slice A19 m0 c19) (.slice A25 m1 c25)) (by rfl) (by rfl) 25 _ q7 infoS4 rfl (by simp [S4, Value.oneCell']) ?_
    intro x U
    have hBx : Below w1.heap.size w1 x := hB.trans (U.below hg7)
    refine hK.out _ _ (HK.out _ hBx) (fun hHeld => ?_)
    clear hK K
    (try simp only [Act.put, List.setIfInBounds_toArray, List.set_cons_zero, List.set_cons_succ])
    refine wpAnyH_done (by kernel_rfl) ?_ _
    refine NoPanic.normal ?_
    have rx0 := RdU rd0 q7 U
    have rx1 := RdU rd1 q7 U
    have rx2 := RdU rd2 q7 U
    have rx3 := RdU rd3 q7 U
    have qx := U.row
    have bwx : Below w.heap.size w x := bw1.trans (hBx.mono bw1.size)
    have hb0 : ∀ b ∈ xs.take k0, b < 256 := fun b h => b1 b (List.mem_of_mem_take h)
    have hb1 : ∀ b ∈ ys.take k1, b < 256 := fun b h => b2 b (List.mem_of_mem_take h)
    clear hHeld rd0 rd1 rd2 rd3 q7 U hB hBx HK rc1 rc2 HN1 HN2 q5 hs1 r1 r2 b1 b2 c50 c51 f0 f1 g0 g1 hi0 hz0 hz1 hz2
    generalize xs.take k0 = la at *
    generalize ys.take k1 = lb at *
    have hbr : ∀ m : Nat, ∀ b ∈ List.replicate m 0, b < 256 := fun m b h => by rw [(List.mem_replicate.1 h).2]; omega
    have CJ := Lib.hid (vJoin A6 A13 A19 A25 k0 k1 m0 m1 c6 c13 c19 c25 la lb (List.replicate m0 0) (List.replicate m1 0) x rx0 rx1 rx2 rx3 hb0 hb1 (hbr m0) (hbr m1) (by omega) (by omega) (by omega) (by omega))
    have HLL : Hid (∀ v, v < 4 → ∃ (A : Option Addr) (n c : Nat) (l : List Nat), (S4 (.slice A6 k0 c6) (.slice A13 k1 c13) (.slice A19 m0 c19) (.slice A25 m1 c25))[v]? = some (.slice A n c) ∧ Rd x x.heap.size A n (U8 l) ∧ (∀ b ∈ l, b < 256) ∧ n ≤ 60 ∧ l = P4 la lb (List.replicate m0 0) (List.replicate m1 0) v ∧ n = pk k0 k1 m0 m1 v) := fun v hv => by
      have h : v = 0 ∨ v = 1 ∨ v = 2 ∨ v = 3 := by omega
      rcases h with rfl | rfl | rfl | rfl
      · exact ⟨A6, k0, c6, la, rfl, rx0, hb0, by omega, rfl, rfl⟩
      · exact ⟨A13, k1, c13, lb, rfl, rx1, hb1, by omega, rfl, rfl⟩
      · exact ⟨A19, m0, c19, _, rfl, rx2, hbr m0, by omega, rfl, rfl⟩
      · exact ⟨A25, m1, c25, _, rfl, rx3, hbr m1, by omega, rfl, rfl⟩
    have HK0 : Hid ((S4 (.slice A6 k0 c6) (.slice A13 k1 c13) (.slice A19 m0 c19) (.slice A25 m1 c25))[0]? = some (.slice A6 k0 c6)) := rfl
    have iS : Hid ((Try.prog.info? 25).map (·.size) = some (S4 (.slice A6 k0 c6) (.slice A13 k1 c13) (.slice A19 m0 c19) (.slice A25 m1 c25)).size) := infoS4
    have HLen : Hid (∀ v, v < 4 → (P4 la lb (List.replicate m0 0) (List.replicate m1 0) v).length = pk k0 k1 m0 m1 v) := fun v hv => by
      obtain ⟨A, n, c, l, _, hr, _, _, e, e2⟩ := HLL.out v hv
      rw [← e, ← e2]
      exact hr.len8.symm
    clear rx0 rx1 rx2 rx3 hb0 hb1 hbr
    generalize S4 (.slice A6 k0 c6) (.slice A13 k1 c13) (.slice A19 m0 c19) (.slice A25 m1 c25) = V at *
    go_upto_region 3 with (first | (refine at_load rfl 25 _ rfl g7 rfl 25 V _ qx Try.underlying25 rfl iS.out ?_) | (go_at_call 5; refine CJ.out.mono ?_; intro e w3 hJ; obtain ⟨Ac, Nc, Cc, ei, rfl, HD, be3⟩ := JoinR.flat hJ; clear hJ))
    have q3 := qx.after be3
    have bw3 : Below w.heap.size w w3 := Below.then_ bwx be3
    have HQ : Hid (∀ W, Below w3.heap.size w3 W → Below x.heap.size x W) := fun W h => Below.then_ be3 h
    clear qx CJ be3 bwx
    go_upto_region 4 with fail
    go_wp2
    obtain ⟨rb, hrb⟩ : ∃ f : Nat → Bool, f = fun v => (List.range v).all fun j => Bm.isB (P4 la lb (List.replicate m0 0) (List.replicate m1 0) j) := ⟨_, rfl⟩
    obtain ⟨lg, hlg⟩ : ∃ f : Nat → Bool, f = fun v => (List.range v).all fun j => ((pk k0 k1 m0 m1 j : Nat) : Int) == (k0 : Int) := ⟨_, rfl⟩
    have HRB : Hid (rb 0 = true ∧ ∀ v, rb (v + 1) = (rb v && Bm.isB (P4 la lb (List.replicate m0 0) (List.replicate m1 0) v))) := by rw [hrb]; exact ⟨rfl, fun v => by simp only [List.range_succ, List.all_append, List.all_cons, List.all_nil, Bool.and_true]⟩
    have HLG : Hid (lg 0 = true ∧ ∀ v, lg (v + 1) = (lg v && (((pk k0 k1 m0 m1 v : Nat) : Int) == (k0 : Int)))) := by rw [hlg]; exact ⟨rfl, fun v => by simp only [List.range_succ, List.all_append, List.all_cons, List.all_nil, Bool.and_true]⟩
    have HR4 : Hid (rb 4 = (Bm.isB la && Bm.isB lb && Bm.isB (List.replicate m0 0) && Bm.isB (List.replicate m1 0))) := by
      unfold Hid
      rw [HRB.out.2 3, HRB.out.2 2, HRB.out.2 1, HRB.out.2 0, HRB.out.1, Bool.true_and]
      rfl
    have HL4 : Hid ((k1 = k0 ∧ m0 = k0 ∧ m1 = k0) ↔ lg 4 = true) := by
      unfold Hid
      rw [HLG.out.2 3, HLG.out.2 2, HLG.out.2 1, HLG.out.2 0, HLG.out.1, Bool.true_and]
      show _ ↔ ((((k0 : Int) == (k0 : Int)) && ((k1 : Int) == (k0 : Int)) && ((m0 : Int) == (k0 : Int)) && ((m1 : Int) == (k0 : Int))) = true)
      constructor
      · rintro ⟨e1, e2, e3⟩
        rw [e1, e2, e3]
        simp
      · intro h
        simp only [Bool.and_eq_true, beq_iff_eq] at h
        exact ⟨by omega, by omega, by omega⟩
    clear hrb hlg
    go_loopw [10, 11, 12] (fun r l y wr => ∃ v : Nat, v ≤ 4 ∧ y = .int .i64 v ∧ ∃ rv lv : Bool, r = .bool rv ∧ l = .bool lv ∧ Hid (rb v = rv ∧ lg v = lv) ∧ Blk wr g7 25 V ∧ Below w3.heap.size w3 wr) (fun _ _ y _ => 4 - (intOf y).toNat)
    case atStart => exact ⟨0, by omega, rfl, true, true, rfl, rfl, ⟨HRB.out.1, HLG.out.1⟩, q3, Below.refl _ _⟩
    case round =>
      clear q3
      obtain ⟨v, hv, rfl, rv, lv, rfl, rfl, HV, q, bl⟩ := hrel
      by_cases hlt : v < 4
      · obtain ⟨A, n, c, l, hV, hr, hb, hn60, hl, hn⟩ := HLL.out v hlt
        have kv := (q.cell v).trans hV
        have k0c := (q.cell 0).trans HK0.out
        have HS : Hid (∀ W, Below wr.heap.size wr W → (Below wr.heap.size wr W ∧ W.cell? ⟨g7, v, none⟩ = some (.slice A n c) ∧ W.cell? ⟨g7, 0, none⟩ = some (.slice A6 k0 c6))) := fun W h => ⟨h, (h.cell (p := ⟨g7, v, none⟩) q.lt).trans kv, (h.cell (p := ⟨g7, 0, none⟩) q.lt).trans k0c⟩
        have CR : Hid (∀ W, Below wr.heap.size wr W → Calls Try.prog 6 #[.slice A n c] W fun e w' => e = .returned (.bool (Bm.isB l)) ∧ W = w') := fun W h => refRight A n c l W ((hr.below (HQ.out W (Below.then_ bl h))).up (HQ.out W (Below.then_ bl h)).size) hb (by omega)
        have HR1 := Lib.hid (HRB.out.2 v)
        have HL1 := Lib.hid (HLG.out.2 v)
        rw [HV.out.1, ← hl] at HR1
        rw [HV.out.2, ← hn] at HL1
        have ia := fun W => run_idx (P := Try.prog) (sz := 1) Try.underlying25 (by kernel_rfl) g7 0 v hlt .i64 W
        simp only [Nat.zero_add, Nat.one_mul] at ia
        generalize Bm.isB l = bR at *
        obtain ⟨bL, hbL⟩ : ∃ b : Bool, ((n : Int) == (k0 : Int)) = b := ⟨_, rfl⟩
        rw [hbL] at HL1
        have HQ0 := Lib.hid q
        have HB0 := Lib.hid bl
        clear hV hr hb hl hn kv k0c q bl
        cases rv
        · cases lv
          · go_upto_region 7 with fail
            refine wp_region_noPanic ?_
            refine wp_region_held_drew (S := fun W => Below wr.heap.size wr W ∧ W.cell? ⟨g7, v, none⟩ = some (.slice A n c) ∧ W.cell? ⟨g7, 0, none⟩ = some (.slice A6 k0 c6)) (by kernel_rfl) (HS.out _ (Below.refl _ _).drew) (fun hHeld => ?_)
            refine wpAnyH_take (i := 0) (oi := ⟨some 50, _, _, _, _, _⟩) (v := ?_) rfl (by kernel_rfl) (by kernel_rfl) (by kernel_rfl) (fun _ _ _ h => h) (Or.inl ⟨by rfl, ?_⟩) hHeld ?_
            rotate_left
            · intro W hSW; obtain ⟨hSW0, hSW1, hSW2⟩ := hSW; go_simp; first | done | with_reducible rfl
            (try simp only [Act.put, List.setIfInBounds_toArray, List.set_cons_zero, List.set_cons_succ])
            refine wpAnyH_take (i := 1) (oi := ⟨some 51, _, _, _, _, _⟩) (v := ?_) rfl (by kernel_rfl) (by kernel_rfl) (by kernel_rfl) (fun _ _ _ h => h) (Or.inl ⟨by rfl, ?_⟩) hHeld ?_
            rotate_left
            · intro W hSW; obtain ⟨hSW0, hSW1, hSW2⟩ := hSW; go_simp; first | done | with_reducible rfl
            (try simp only [Act.put, List.setIfInBounds_toArray, List.set_cons_zero, List.set_cons_succ])
            refine wpAnyH_take (i := 2) (oi := ⟨some 52, _, _, _, _, _⟩) (v := undef) rfl (by kernel_rfl) (by kernel_rfl) (by kernel_rfl) (fun _ _ _ h => h) (Or.inr ⟨by rfl, rfl⟩) hHeld ?_
            (try simp only [Act.put, List.setIfInBounds_toArray, List.set_cons_zero, List.set_cons_succ])
            refine wpAnyH_take (i := 3) (oi := ⟨some 53, _, _, _, _, _⟩) (v := undef) rfl (by kernel_rfl) (by kernel_rfl) (by kernel_rfl) (fun _ _ _ h => h) (Or.inr ⟨by rfl, rfl⟩) hHeld ?_
            (try simp only [Act.put, List.setIfInBounds_toArray, List.set_cons_zero, List.set_cons_succ])
            refine wpAnyH_take (i := 4) (oi := ⟨some 54, _, _, _, _, _⟩) (v := undef) rfl (by kernel_rfl) (by kernel_rfl) (by kernel_rfl) (fun _ _ _ h => h) (Or.inr ⟨by rfl, rfl⟩) hHeld ?_
            (try simp only [Act.put, List.setIfInBounds_toArray, List.set_cons_zero, List.set_cons_succ])
            refine wpAnyH_take (i := 5) (oi := ⟨some 55, _, _, _, _, _⟩) (v := undef) rfl (by kernel_rfl) (by kernel_rfl) (by kernel_rfl) (fun _ _ _ h => h) (Or.inr ⟨by rfl, rfl⟩) hHeld ?_
            (try simp only [Act.put, List.setIfInBounds_toArray, List.set_cons_zero, List.set_cons_succ])
            refine wpAnyH_take (i := 6) (oi := ⟨some 56, _, _, _, _, _⟩) (v := ?_) rfl (by kernel_rfl) (by kernel_rfl) (by kernel_rfl) (fun _ _ _ h => h) (Or.inl ⟨by rfl, ?_⟩) hHeld ?_
            rotate_left
            · intro W hSW; obtain ⟨hSW0, hSW1, hSW2⟩ := hSW; go_simp; first | done | with_reducible rfl
            (try simp only [Act.put, List.setIfInBounds_toArray, List.set_cons_zero, List.set_cons_succ])
            refine wpAnyH_take (i := 7) (oi := ⟨some 57, _, _, _, _, _⟩) (v := ?_) rfl (by kernel_rfl) (by kernel_rfl) (by kernel_rfl) (fun _ _ _ h => h) (Or.inl ⟨by rfl, ?_⟩) hHeld ?_
            rotate_left
            · intro W hSW; obtain ⟨hSW0, hSW1, hSW2⟩ := hSW; go_simp; first | done | with_reducible rfl
            (try simp only [Act.put, List.setIfInBounds_toArray, List.set_cons_zero, List.set_cons_succ])
            refine wpAnyH_take (i := 8) (oi := ⟨some 58, _, _, _, _, _⟩) (v := ?_) rfl (by kernel_rfl) (by kernel_rfl) (by kernel_rfl) (fun _ _ _ h => h) (Or.inl ⟨by rfl, ?_⟩) hHeld ?_
            rotate_left
            · intro W hSW; obtain ⟨hSW0, hSW1, hSW2⟩ := hSW; go_simp; first | done | with_reducible rfl
            (try simp only [Act.put, List.setIfInBounds_toArray, List.set_cons_zero, List.set_cons_succ])
            refine wpAnyH_take (i := 9) (oi := ⟨some 59, _, _, _, _, _⟩) (v := undef) rfl (by kernel_rfl) (by kernel_rfl) (by kernel_rfl) (fun _ _ _ h => h) (Or.inr ⟨by rfl, rfl⟩) hHeld ?_
            (try simp only [Act.put, List.setIfInBounds_toArray, List.set_cons_zero, List.set_cons_succ])
            refine wpAnyH_take (i := 10) (oi := ⟨some 60, _, _, _, _, _⟩) (v := undef) rfl (by kernel_rfl) (by kernel_rfl) (by kernel_rfl) (fun _ _ _ h => h) (Or.inr ⟨by rfl, rfl⟩) hHeld ?_
            (try simp only [Act.put, List.setIfInBounds_toArray, List.set_cons_zero, List.set_cons_succ])
            refine wpAnyH_take (i := 11) (oi := ⟨some 61, _, _, _, _, _⟩) (v := undef) rfl (by kernel_rfl) (by kernel_rfl) (by kernel_rfl) (fun _ _ _ h => h) (Or.inr ⟨by rfl, rfl⟩) hHeld ?_
            (try simp only [Act.put, List.setIfInBounds_toArray, List.set_cons_zero, List.set_cons_succ])
            refine wpAnyH_take (i := 12) (oi := ⟨some 62, _, _, _, _, _⟩) (v := undef) rfl (by kernel_rfl) (by kernel_rfl) (by kernel_rfl) (fun _ _ _ h => h) (Or.inr ⟨by rfl, rfl⟩) hHeld ?_
            (try simp only [Act.put, List.setIfInBounds_toArray, List.set_cons_zero, List.set_cons_succ])
            refine wpAnyH_take (i := 13) (oi := ⟨some 63, _, _, _, _, _⟩) (v := undef) rfl (by kernel_rfl) (by kernel_rfl) (by kernel_rfl) (fun _ _ _ h => h) (Or.inr ⟨by rfl, rfl⟩) hHeld ?_
            (try simp only [Act.put, List.setIfInBounds_toArray, List.set_cons_zero, List.set_cons_succ])
            refine wpAnyH_take (i := 14) (oi := ⟨some 64, _, _, _, _, _⟩) (v := undef) rfl (by kernel_rfl) (by kernel_rfl) (by kernel_rfl) (fun _ _ _ h => h) (Or.inr ⟨by rfl, rfl⟩) hHeld ?_
            (try simp only [Act.put, List.setIfInBounds_toArray, List.set_cons_zero, List.set_cons_succ])
            refine wpAnyH_take (i := 15) (oi := ⟨some 65, _, _, _, _, _⟩) (v := undef) rfl (by kernel_rfl) (by kernel_rfl) (by kernel_rfl) (fun _ _ _ h => h) (Or.inr ⟨by rfl, rfl⟩) hHeld ?_
            (try simp only [Act.put, List.setIfInBounds_toArray, List.set_cons_zero, List.set_cons_succ])
            refine wpAnyH_take (i := 16) (oi := ⟨some 66, _, _, _, _, _⟩) (v := undef) rfl (by kernel_rfl) (by kernel_rfl) (by kernel_rfl) (fun _ _ _ h => h) (Or.inr ⟨by rfl, rfl⟩) hHeld ?_
            (try simp only [Act.put, List.setIfInBounds_toArray, List.set_cons_zero, List.set_cons_succ])
            refine wpAnyH_take (i := 17) (oi := ⟨some 67, _, _, _, _, _⟩) (v := ?_) rfl (by kernel_rfl) (by kernel_rfl) (by kernel_rfl) (fun _ _ _ h => h) (Or.inl ⟨by rfl, ?_⟩) hHeld ?_
            rotate_left
            · intro W hSW; obtain ⟨hSW0, hSW1, hSW2⟩ := hSW; go_simp; first | done | with_reducible rfl
            (try simp only [Act.put, List.setIfInBounds_toArray, List.set_cons_zero, List.set_cons_succ])
            refine wpAnyH_take (i := 18) (oi := ⟨some 10, _, _, _, _, _⟩) (v := ?_) rfl (by kernel_rfl) (by kernel_rfl) (by kernel_rfl) (fun _ _ _ h => h) (Or.inl ⟨by rfl, ?_⟩) hHeld ?_
            rotate_left
            · intro W hSW; obtain ⟨hSW0, hSW1, hSW2⟩ := hSW; go_simp; first | done | with_reducible rfl
            (try simp only [Act.put, List.setIfInBounds_toArray, List.set_cons_zero, List.set_cons_succ])
            refine wpAnyH_take (i := 19) (oi := ⟨some 11, _, _, _, _, _⟩) (v := ?_) rfl (by kernel_rfl) (by kernel_rfl) (by kernel_rfl) (fun _ _ _ h => h) (Or.inl ⟨by rfl, ?_⟩) hHeld ?_
            rotate_left
            · intro W hSW; obtain ⟨hSW0, hSW1, hSW2⟩ := hSW; go_simp; first | done | with_reducible rfl
            (try simp only [Act.put, List.setIfInBounds_toArray, List.set_cons_zero, List.set_cons_succ])
            refine wpAnyH_done (by kernel_rfl) ?_ _
            refine NoPanic.normal ?_
            have hB7 := hHeld.1
            clear hHeld
            go_wp2
            go_roundw
            case rel => exact ⟨v + 1, by omega, by go_num, false, false, rfl, rfl, ⟨by rw [HR1.out]; rfl, by rw [HL1.out]; rfl⟩, HQ0.out.after hB7, Below.then_ HB0.out hB7⟩
            case measure => simp [intOf] <;> omega
          · go_upto_region 7 with fail
            refine wp_region_noPanic ?_
            refine wp_region_held_drew (S := fun W => Below wr.heap.size wr W ∧ W.cell? ⟨g7, v, none⟩ = some (.slice A n c) ∧ W.cell? ⟨g7, 0, none⟩ = some (.slice A6 k0 c6)) (by kernel_rfl) (HS.out _ (Below.refl _ _).drew) (fun hHeld => ?_)
            refine wpAnyH_take (i := 0) (oi := ⟨some 50, _, _, _, _, _⟩) (v := ?_) rfl (by kernel_rfl) (by kernel_rfl) (by kernel_rfl) (fun _ _ _ h => h) (Or.inl ⟨by rfl, ?_⟩) hHeld ?_
            rotate_left
            · intro W hSW; obtain ⟨hSW0, hSW1, hSW2⟩ := hSW; go_simp; first | done | with_reducible rfl
            (try simp only [Act.put, List.setIfInBounds_toArray, List.set_cons_zero, List.set_cons_succ])
            refine wpAnyH_take (i := 1) (oi := ⟨some 51, _, _, _, _, _⟩) (v := ?_) rfl (by kernel_rfl) (by kernel_rfl) (by kernel_rfl) (fun _ _ _ h => h) (Or.inl ⟨by rfl, ?_⟩) hHeld ?_
            rotate_left
            · intro W hSW; obtain ⟨hSW0, hSW1, hSW2⟩ := hSW; go_simp; first | done | with_reducible rfl
            (try simp only [Act.put, List.setIfInBounds_toArray, List.set_cons_zero, List.set_cons_succ])
            refine wpAnyH_take (i := 2) (oi := ⟨some 52, _, _, _, _, _⟩) (v := undef) rfl (by kernel_rfl) (by kernel_rfl) (by kernel_rfl) (fun _ _ _ h => h) (Or.inr ⟨by rfl, rfl⟩) hHeld ?_
            (try simp only [Act.put, List.setIfInBounds_toArray, List.set_cons_zero, List.set_cons_succ])
            refine wpAnyH_take (i := 3) (oi := ⟨some 53, _, _, _, _, _⟩) (v := undef) rfl (by kernel_rfl) (by kernel_rfl) (by kernel_rfl) (fun _ _ _ h => h) (Or.inr ⟨by rfl, rfl⟩) hHeld ?_
            (try simp only [Act.put, List.setIfInBounds_toArray, List.set_cons_zero, List.set_cons_succ])
            refine wpAnyH_take (i := 4) (oi := ⟨some 54, _, _, _, _, _⟩) (v := undef) rfl (by kernel_rfl) (by kernel_rfl) (by kernel_rfl) (fun _ _ _ h => h) (Or.inr ⟨by rfl, rfl⟩) hHeld ?_
            (try simp only [Act.put, List.setIfInBounds_toArray, List.set_cons_zero, List.set_cons_succ])
            refine wpAnyH_take (i := 5) (oi := ⟨some 55, _, _, _, _, _⟩) (v := undef) rfl (by kernel_rfl) (by kernel_rfl) (by kernel_rfl) (fun _ _ _ h => h) (Or.inr ⟨by rfl, rfl⟩) hHeld ?_
            (try simp only [Act.put, List.setIfInBounds_toArray, List.set_cons_zero, List.set_cons_succ])
            refine wpAnyH_take (i := 6) (oi := ⟨some 56, _, _, _, _, _⟩) (v := ?_) rfl (by kernel_rfl) (by kernel_rfl) (by kernel_rfl) (fun _ _ _ h => h) (Or.inl ⟨by rfl, ?_⟩) hHeld ?_
            rotate_left
            · intro W hSW; obtain ⟨hSW0, hSW1, hSW2⟩ := hSW; go_simp; first | done | with_reducible rfl
            (try simp only [Act.put, List.setIfInBounds_toArray, List.set_cons_zero, List.set_cons_succ])
            refine wpAnyH_take (i := 7) (oi := ⟨some 57, _, _, _, _, _⟩) (v := ?_) rfl (by kernel_rfl) (by kernel_rfl) (by kernel_rfl) (fun _ _ _ h => h) (Or.inl ⟨by rfl, ?_⟩) hHeld ?_
            rotate_left
            · intro W hSW; obtain ⟨hSW0, hSW1, hSW2⟩ := hSW; go_simp; first | done | with_reducible rfl
            (try simp only [Act.put, List.setIfInBounds_toArray, List.set_cons_zero, List.set_cons_succ])
            refine wpAnyH_take (i := 8) (oi := ⟨some 58, _, _, _, _, _⟩) (v := ?_) rfl (by kernel_rfl) (by kernel_rfl) (by kernel_rfl) (fun _ _ _ h => h) (Or.inl ⟨by rfl, ?_⟩) hHeld ?_
            rotate_left
            · intro W hSW; obtain ⟨hSW0, hSW1, hSW2⟩ := hSW; go_simp; first | done | with_reducible rfl
            (try simp only [Act.put, List.setIfInBounds_toArray, List.set_cons_zero, List.set_cons_succ])
            refine wpAnyH_take (i := 9) (oi := ⟨some 59, _, _, _, _, _⟩) (v := ?_) rfl (by kernel_rfl) (by kernel_rfl) (by kernel_rfl) (fun _ _ _ h => h) (Or.inl ⟨by rfl, ?_⟩) hHeld ?_
            rotate_left
            · intro W hSW; obtain ⟨hSW0, hSW1, hSW2⟩ := hSW; go_simp; first | done | with_reducible rfl
            (try simp only [Act.put, List.setIfInBounds_toArray, List.set_cons_zero, List.set_cons_succ])
            refine wpAnyH_take (i := 10) (oi := ⟨some 60, _, _, _, _, _⟩) (v := ?_) rfl (by kernel_rfl) (by kernel_rfl) (by kernel_rfl) (fun _ _ _ h => h) (Or.inl ⟨by rfl, ?_⟩) hHeld ?_
            rotate_left
            · intro W hSW; obtain ⟨hSW0, hSW1, hSW2⟩ := hSW; go_simp; first | done | with_reducible rfl
            (try simp only [Act.put, List.setIfInBounds_toArray, List.set_cons_zero, List.set_cons_succ])
            refine wpAnyH_take (i := 11) (oi := ⟨some 61, _, _, _, _, _⟩) (v := ?_) rfl (by kernel_rfl) (by kernel_rfl) (by kernel_rfl) (fun _ _ _ h => h) (Or.inl ⟨by rfl, ?_⟩) hHeld ?_
            rotate_left
            · intro W hSW; obtain ⟨hSW0, hSW1, hSW2⟩ := hSW; go_simp; first | done | with_reducible rfl
            (try simp only [Act.put, List.setIfInBounds_toArray, List.set_cons_zero, List.set_cons_succ])
            refine wpAnyH_take (i := 12) (oi := ⟨some 62, _, _, _, _, _⟩) (v := ?_) rfl (by kernel_rfl) (by kernel_rfl) (by kernel_rfl) (fun _ _ _ h => h) (Or.inl ⟨by rfl, ?_⟩) hHeld ?_
            rotate_left
            · intro W hSW; obtain ⟨hSW0, hSW1, hSW2⟩ := hSW; go_simp; first | done | with_reducible rfl
            (try simp only [Act.put, List.setIfInBounds_toArray, List.set_cons_zero, List.set_cons_succ])
            refine wpAnyH_take (i := 13) (oi := ⟨some 63, _, _, _, _, _⟩) (v := ?_) rfl (by kernel_rfl) (by kernel_rfl) (by kernel_rfl) (fun _ _ _ h => h) (Or.inl ⟨by rfl, ?_⟩) hHeld ?_
            rotate_left
            · intro W hSW; obtain ⟨hSW0, hSW1, hSW2⟩ := hSW; go_simp; first | done | with_reducible rfl
            (try simp only [Act.put, List.setIfInBounds_toArray, List.set_cons_zero, List.set_cons_succ])
            refine wpAnyH_take (i := 14) (oi := ⟨some 64, _, _, _, _, _⟩) (v := ?_) rfl (by kernel_rfl) (by kernel_rfl) (by kernel_rfl) (fun _ _ _ h => h) (Or.inl ⟨by rfl, ?_⟩) hHeld ?_
            rotate_left
            · intro W hSW; obtain ⟨hSW0, hSW1, hSW2⟩ := hSW; go_simp; first | done | with_reducible rfl
            (try simp only [Act.put, List.setIfInBounds_toArray, List.set_cons_zero, List.set_cons_succ])
            refine wpAnyH_take (i := 15) (oi := ⟨some 65, _, _, _, _, _⟩) (v := ?_) rfl (by kernel_rfl) (by kernel_rfl) (by kernel_rfl) (fun _ _ _ h => h) (Or.inl ⟨by rfl, ?_⟩) hHeld ?_
            rotate_left
            · intro W hSW; obtain ⟨hSW0, hSW1, hSW2⟩ := hSW; go_simp; first | done | with_reducible rfl
            (try simp only [Act.put, List.setIfInBounds_toArray, List.set_cons_zero, List.set_cons_succ])
            refine wpAnyH_take (i := 16) (oi := ⟨some 66, _, _, _, _, _⟩) (v := ?_) rfl (by kernel_rfl) (by kernel_rfl) (by kernel_rfl) (fun _ _ _ h => h) (Or.inl ⟨by rfl, ?_⟩) hHeld ?_
            rotate_left
            · intro W hSW; obtain ⟨hSW0, hSW1, hSW2⟩ := hSW; go_simp; first | done | with_reducible rfl
            (try simp only [Act.put, List.setIfInBounds_toArray, List.set_cons_zero, List.set_cons_succ])
            refine wpAnyH_take (i := 17) (oi := ⟨some 67, _, _, _, _, _⟩) (v := ?_) rfl (by kernel_rfl) (by kernel_rfl) (by kernel_rfl) (fun _ _ _ h => h) (Or.inl ⟨by rfl, ?_⟩) hHeld ?_
            rotate_left
            · intro W hSW; obtain ⟨hSW0, hSW1, hSW2⟩ := hSW; go_simp; first | done | with_reducible rfl
            (try simp only [Act.put, List.setIfInBounds_toArray, List.set_cons_zero, List.set_cons_succ])
            refine wpAnyH_take (i := 18) (oi := ⟨some 10, _, _, _, _, _⟩) (v := ?_) rfl (by kernel_rfl) (by kernel_rfl) (by kernel_rfl) (fun _ _ _ h => h) (Or.inl ⟨by rfl, ?_⟩) hHeld ?_
            rotate_left
            · intro W hSW; obtain ⟨hSW0, hSW1, hSW2⟩ := hSW; go_simp; first | done | with_reducible rfl
            (try simp only [Act.put, List.setIfInBounds_toArray, List.set_cons_zero, List.set_cons_succ])
            refine wpAnyH_take (i := 19) (oi := ⟨some 11, _, _, _, _, _⟩) (v := ?_) rfl (by kernel_rfl) (by kernel_rfl) (by kernel_rfl) (fun _ _ _ h => h) (Or.inl ⟨by rfl, ?_⟩) hHeld ?_
            rotate_left
            · intro W hSW; obtain ⟨hSW0, hSW1, hSW2⟩ := hSW; go_simp; first | done | with_reducible rfl
            (try simp only [Act.put, List.setIfInBounds_toArray, List.set_cons_zero, List.set_cons_succ])
            refine wpAnyH_done (by kernel_rfl) ?_ _
            refine NoPanic.normal ?_
            have hB7 := hHeld.1
            clear hHeld
            go_wp2
            go_roundw
            case rel => exact ⟨v + 1, by omega, by go_num, false, bL, rfl, rfl, ⟨by rw [HR1.out]; rfl, by rw [HL1.out]; rfl⟩, HQ0.out.after hB7, Below.then_ HB0.out hB7⟩
            case measure => simp [intOf] <;> omega
        · cases lv
          · go_upto_region 7 with fail
            refine wp_region_noPanic ?_
            refine wp_region_held_drew (S := fun W => Below wr.heap.size wr W ∧ W.cell? ⟨g7, v, none⟩ = some (.slice A n c) ∧ W.cell? ⟨g7, 0, none⟩ = some (.slice A6 k0 c6)) (by kernel_rfl) (HS.out _ (Below.refl _ _).drew) (fun hHeld => ?_)
            refine wpAnyH_take (i := 0) (oi := ⟨some 50, _, _, _, _, _⟩) (v := ?_) rfl (by kernel_rfl) (by kernel_rfl) (by kernel_rfl) (fun _ _ _ h => h) (Or.inl ⟨by rfl, ?_⟩) hHeld ?_
            rotate_left
            · intro W hSW; obtain ⟨hSW0, hSW1, hSW2⟩ := hSW; go_simp; first | done | with_reducible rfl
            (try simp only [Act.put, List.setIfInBounds_toArray, List.set_cons_zero, List.set_cons_succ])
            refine wpAnyH_take (i := 1) (oi := ⟨some 51, _, _, _, _, _⟩) (v := ?_) rfl (by kernel_rfl) (by kernel_rfl) (by kernel_rfl) (fun _ _ _ h => h) (Or.inl ⟨by rfl, ?_⟩) hHeld ?_
            rotate_left
            · intro W hSW; obtain ⟨hSW0, hSW1, hSW2⟩ := hSW; go_simp; first | done | with_reducible rfl
            (try simp only [Act.put, List.setIfInBounds_toArray, List.set_cons_zero, List.set_cons_succ])
            refine wpAnyH_take (i := 2) (oi := ⟨some 52, _, _, _, _, _⟩) (v := ?_) rfl (by kernel_rfl) (by kernel_rfl) (by kernel_rfl) (fun _ _ _ h => h) (Or.inl ⟨by rfl, ?_⟩) hHeld ?_
            rotate_left
            · intro W hSW; obtain ⟨hSW0, hSW1, hSW2⟩ := hSW; go_simp; first | done | with_reducible rfl
            (try simp only [Act.put, List.setIfInBounds_toArray, List.set_cons_zero, List.set_cons_succ])
            refine wpAnyH_take (i := 3) (oi := ⟨some 53, _, _, _, _, _⟩) (v := ?_) rfl (by kernel_rfl) (by kernel_rfl) (by kernel_rfl) (fun _ _ _ h => h) (Or.inl ⟨by rfl, ?_⟩) hHeld ?_
            rotate_left
            · intro W hSW; obtain ⟨hSW0, hSW1, hSW2⟩ := hSW; go_simp; first | done | with_reducible rfl
            (try simp only [Act.put, List.setIfInBounds_toArray, List.set_cons_zero, List.set_cons_succ])
            refine wpAnyH_take (i := 4) (oi := ⟨some 54, _, _, _, _, _⟩) (v := ?_) rfl (by kernel_rfl) (by kernel_rfl) (by kernel_rfl) (fun _ _ _ h => h) (Or.inl ⟨by rfl, ?_⟩) hHeld ?_
            rotate_left
            · intro W hSW; obtain ⟨hSW0, hSW1, hSW2⟩ := hSW; go_simp; first | done | with_reducible rfl
            (try simp only [Act.put, List.setIfInBounds_toArray, List.set_cons_zero, List.set_cons_succ])
            refine wpAnyH_take (i := 7) (oi := ⟨some 57, _, _, _, _, _⟩) (v := ?_) rfl (by kernel_rfl) (by kernel_rfl) (by kernel_rfl) (fun _ _ _ h => h) (Or.inl ⟨by rfl, ?_⟩) hHeld ?_
            rotate_left
            · intro W hSW; obtain ⟨hSW0, hSW1, hSW2⟩ := hSW; go_simp; first | done | with_reducible rfl
            (try simp only [Act.put, List.setIfInBounds_toArray, List.set_cons_zero, List.set_cons_succ])
            refine wpAnyH_ready (rs := [5]) (by kernel_rfl) (by simp) ?_
            refine AllReadyH.cons (o := ⟨some 55, _, _, _, _, _⟩) rfl (fun K hK => ?_) (AllReadyH.nil)
            go_simp
            refine (CR.out _ hHeld.1).mono ?_
            rintro e wq ⟨rfl, rfl⟩
            have hS7 := hHeld
            clear hHeld
            refine hK.out _ _ ?_ (fun hHeld => ?_)
            · exact hS7
            clear hK K
            (try simp only [Act.put, List.setIfInBounds_toArray, List.set_cons_zero, List.set_cons_succ])
            refine wpAnyH_take (i := 6) (oi := ⟨some 56, _, _, _, _, _⟩) (v := ?_) rfl (by kernel_rfl) (by kernel_rfl) (by kernel_rfl) (fun _ _ _ h => h) (Or.inl ⟨by rfl, ?_⟩) hHeld ?_
            rotate_left
            · intro W hSW; obtain ⟨hSW0, hSW1, hSW2⟩ := hSW; go_simp; first | done | with_reducible rfl
            (try simp only [Act.put, List.setIfInBounds_toArray, List.set_cons_zero, List.set_cons_succ])
            refine wpAnyH_take (i := 8) (oi := ⟨some 58, _, _, _, _, _⟩) (v := ?_) rfl (by kernel_rfl) (by kernel_rfl) (by kernel_rfl) (fun _ _ _ h => h) (Or.inl ⟨by rfl, ?_⟩) hHeld ?_
            rotate_left
            · intro W hSW; obtain ⟨hSW0, hSW1, hSW2⟩ := hSW; go_simp; first | done | with_reducible rfl
            (try simp only [Act.put, List.setIfInBounds_toArray, List.set_cons_zero, List.set_cons_succ])
            refine wpAnyH_take (i := 9) (oi := ⟨some 59, _, _, _, _, _⟩) (v := undef) rfl (by kernel_rfl) (by kernel_rfl) (by kernel_rfl) (fun _ _ _ h => h) (Or.inr ⟨by rfl, rfl⟩) hHeld ?_
            (try simp only [Act.put, List.setIfInBounds_toArray, List.set_cons_zero, List.set_cons_succ])
            refine wpAnyH_take (i := 10) (oi := ⟨some 60, _, _, _, _, _⟩) (v := undef) rfl (by kernel_rfl) (by kernel_rfl) (by kernel_rfl) (fun _ _ _ h => h) (Or.inr ⟨by rfl, rfl⟩) hHeld ?_
            (try simp only [Act.put, List.setIfInBounds_toArray, List.set_cons_zero, List.set_cons_succ])
            refine wpAnyH_take (i := 11) (oi := ⟨some 61, _, _, _, _, _⟩) (v := undef) rfl (by kernel_rfl) (by kernel_rfl) (by kernel_rfl) (fun _ _ _ h => h) (Or.inr ⟨by rfl, rfl⟩) hHeld ?_
            (try simp only [Act.put, List.setIfInBounds_toArray, List.set_cons_zero, List.set_cons_succ])
            refine wpAnyH_take (i := 12) (oi := ⟨some 62, _, _, _, _, _⟩) (v := undef) rfl (by kernel_rfl) (by kernel_rfl) (by kernel_rfl) (fun _ _ _ h => h) (Or.inr ⟨by rfl, rfl⟩) hHeld ?_
            (try simp only [Act.put, List.setIfInBounds_toArray, List.set_cons_zero, List.set_cons_succ])
            refine wpAnyH_take (i := 13) (oi := ⟨some 63, _, _, _, _, _⟩) (v := undef) rfl (by kernel_rfl) (by kernel_rfl) (by kernel_rfl) (fun _ _ _ h => h) (Or.inr ⟨by rfl, rfl⟩) hHeld ?_
            (try simp only [Act.put, List.setIfInBounds_toArray, List.set_cons_zero, List.set_cons_succ])
            refine wpAnyH_take (i := 14) (oi := ⟨some 64, _, _, _, _, _⟩) (v := undef) rfl (by kernel_rfl) (by kernel_rfl) (by kernel_rfl) (fun _ _ _ h => h) (Or.inr ⟨by rfl, rfl⟩) hHeld ?_
            (try simp only [Act.put, List.setIfInBounds_toArray, List.set_cons_zero, List.set_cons_succ])
            refine wpAnyH_take (i := 15) (oi := ⟨some 65, _, _, _, _, _⟩) (v := undef) rfl (by kernel_rfl) (by kernel_rfl) (by kernel_rfl) (fun _ _ _ h => h) (Or.inr ⟨by rfl, rfl⟩) hHeld ?_
            (try simp only [Act.put, List.setIfInBounds_toArray, List.set_cons_zero, List.set_cons_succ])
            refine wpAnyH_take (i := 16) (oi := ⟨some 66, _, _, _, _, _⟩) (v := undef) rfl (by kernel_rfl) (by kernel_rfl) (by kernel_rfl) (fun _ _ _ h => h) (Or.inr ⟨by rfl, rfl⟩) hHeld ?_
            (try simp only [Act.put, List.setIfInBounds_toArray, List.set_cons_zero, List.set_cons_succ])
            refine wpAnyH_take (i := 17) (oi := ⟨some 67, _, _, _, _, _⟩) (v := ?_) rfl (by kernel_rfl) (by kernel_rfl) (by kernel_rfl) (fun _ _ _ h => h) (Or.inl ⟨by rfl, ?_⟩) hHeld ?_
            rotate_left
            · intro W hSW; obtain ⟨hSW0, hSW1, hSW2⟩ := hSW; go_simp; first | done | with_reducible rfl
            (try simp only [Act.put, List.setIfInBounds_toArray, List.set_cons_zero, List.set_cons_succ])
            refine wpAnyH_take (i := 18) (oi := ⟨some 10, _, _, _, _, _⟩) (v := ?_) rfl (by kernel_rfl) (by kernel_rfl) (by kernel_rfl) (fun _ _ _ h => h) (Or.inl ⟨by rfl, ?_⟩) hHeld ?_
            rotate_left
            · intro W hSW; obtain ⟨hSW0, hSW1, hSW2⟩ := hSW; go_simp; first | done | with_reducible rfl
            (try simp only [Act.put, List.setIfInBounds_toArray, List.set_cons_zero, List.set_cons_succ])
            refine wpAnyH_take (i := 19) (oi := ⟨some 11, _, _, _, _, _⟩) (v := ?_) rfl (by kernel_rfl) (by kernel_rfl) (by kernel_rfl) (fun _ _ _ h => h) (Or.inl ⟨by rfl, ?_⟩) hHeld ?_
            rotate_left
            · intro W hSW; obtain ⟨hSW0, hSW1, hSW2⟩ := hSW; go_simp; first | done | with_reducible rfl
            (try simp only [Act.put, List.setIfInBounds_toArray, List.set_cons_zero, List.set_cons_succ])
            refine wpAnyH_done (by kernel_rfl) ?_ _
            refine NoPanic.normal ?_
            have hB7 := hHeld.1
            clear hHeld
            go_wp2
            go_roundw
            case rel => exact ⟨v + 1, by omega, by go_num, bR, false, rfl, rfl, ⟨by rw [HR1.out]; rfl, by rw [HL1.out]; rfl⟩, HQ0.out.after hB7, Below.then_ HB0.out hB7⟩
            case measure => simp [intOf] <;> omega
          · go_upto_region 7 with fail
            refine wp_region_noPanic ?_
            refine wp_region_held_drew (S := fun W => Below wr.heap.size wr W ∧ W.cell? ⟨g7, v, none⟩ = some (.slice A n c) ∧ W.cell? ⟨g7, 0, none⟩ = some (.slice A6 k0 c6)) (by kernel_rfl) (HS.out _ (Below.refl _ _).drew) (fun hHeld => ?_)
            refine wpAnyH_take (i := 0) (oi := ⟨some 50, _, _, _, _, _⟩) (v := ?_) rfl (by kernel_rfl) (by kernel_rfl) (by kernel_rfl) (fun _ _ _ h => h) (Or.inl ⟨by rfl, ?_⟩) hHeld ?_
            rotate_left
            · intro W hSW; obtain ⟨hSW0, hSW1, hSW2⟩ := hSW; go_simp; first | done | with_reducible rfl
            (try simp only [Act.put, List.setIfInBounds_toArray, List.set_cons_zero, List.set_cons_succ])
            refine wpAnyH_take (i := 1) (oi := ⟨some 51, _, _, _, _, _⟩) (v := ?_) rfl (by kernel_rfl) (by kernel_rfl) (by kernel_rfl) (fun _ _ _ h => h) (Or.inl ⟨by rfl, ?_⟩) hHeld ?_
            rotate_left
            · intro W hSW; obtain ⟨hSW0, hSW1, hSW2⟩ := hSW; go_simp; first | done | with_reducible rfl
            (try simp only [Act.put, List.setIfInBounds_toArray, List.set_cons_zero, List.set_cons_succ])
            refine wpAnyH_take (i := 2) (oi := ⟨some 52, _, _, _, _, _⟩) (v := ?_) rfl (by kernel_rfl) (by kernel_rfl) (by kernel_rfl) (fun _ _ _ h => h) (Or.inl ⟨by rfl, ?_⟩) hHeld ?_
            rotate_left
            · intro W hSW; obtain ⟨hSW0, hSW1, hSW2⟩ := hSW; go_simp; first | done | with_reducible rfl
            (try simp only [Act.put, List.setIfInBounds_toArray, List.set_cons_zero, List.set_cons_succ])
            refine wpAnyH_take (i := 3) (oi := ⟨some 53, _, _, _, _, _⟩) (v := ?_) rfl (by kernel_rfl) (by kernel_rfl) (by kernel_rfl) (fun _ _ _ h => h) (Or.inl ⟨by rfl, ?_⟩) hHeld ?_
            rotate_left
            · intro W hSW; obtain ⟨hSW0, hSW1, hSW2⟩ := hSW; go_simp; first | done | with_reducible rfl
            (try simp only [Act.put, List.setIfInBounds_toArray, List.set_cons_zero, List.set_cons_succ])
            refine wpAnyH_take (i := 4) (oi := ⟨some 54, _, _, _, _, _⟩) (v := ?_) rfl (by kernel_rfl) (by kernel_rfl) (by kernel_rfl) (fun _ _ _ h => h) (Or.inl ⟨by rfl, ?_⟩) hHeld ?_
            rotate_left
            · intro W hSW; obtain ⟨hSW0, hSW1, hSW2⟩ := hSW; go_simp; first | done | with_reducible rfl
            (try simp only [Act.put, List.setIfInBounds_toArray, List.set_cons_zero, List.set_cons_succ])
            refine wpAnyH_take (i := 7) (oi := ⟨some 57, _, _, _, _, _⟩) (v := ?_) rfl (by kernel_rfl) (by kernel_rfl) (by kernel_rfl) (fun _ _ _ h => h) (Or.inl ⟨by rfl, ?_⟩) hHeld ?_
            rotate_left
            · intro W hSW; obtain ⟨hSW0, hSW1, hSW2⟩ := hSW; go_simp; first | done | with_reducible rfl
            (try simp only [Act.put, List.setIfInBounds_toArray, List.set_cons_zero, List.set_cons_succ])
            refine wpAnyH_ready (rs := [5]) (by kernel_rfl) (by simp) ?_
            refine AllReadyH.cons (o := ⟨some 55, _, _, _, _, _⟩) rfl (fun K hK => ?_) (AllReadyH.nil)
            go_simp
            refine (CR.out _ hHeld.1).mono ?_
            rintro e wq ⟨rfl, rfl⟩
            have hS7 := hHeld
            clear hHeld
            refine hK.out _ _ ?_ (fun hHeld => ?_)
            · exact hS7
            clear hK K
            (try simp only [Act.put, List.setIfInBounds_toArray, List.set_cons_zero, List.set_cons_succ])
            refine wpAnyH_take (i := 6) (oi := ⟨some 56, _, _, _, _, _⟩) (v := ?_) rfl (by kernel_rfl) (by kernel_rfl) (by kernel_rfl) (fun _ _ _ h => h) (Or.inl ⟨by rfl, ?_⟩) hHeld ?_
            rotate_left
            · intro W hSW; obtain ⟨hSW0, hSW1, hSW2⟩ := hSW; go_simp; first | done | with_reducible rfl
            (try simp only [Act.put, List.setIfInBounds_toArray, List.set_cons_zero, List.set_cons_succ])
            refine wpAnyH_take (i := 8) (oi := ⟨some 58, _, _, _, _, _⟩) (v := ?_) rfl (by kernel_rfl) (by kernel_rfl) (by kernel_rfl) (fun _ _ _ h => h) (Or.inl ⟨by rfl, ?_⟩) hHeld ?_
            rotate_left
            · intro W hSW; obtain ⟨hSW0, hSW1, hSW2⟩ := hSW; go_simp; first | done | with_reducible rfl
            (try simp only [Act.put, List.setIfInBounds_toArray, List.set_cons_zero, List.set_cons_succ])
            refine wpAnyH_take (i := 9) (oi := ⟨some 59, _, _, _, _, _⟩) (v := ?_) rfl (by kernel_rfl) (by kernel_rfl) (by kernel_rfl) (fun _ _ _ h => h) (Or.inl ⟨by rfl, ?_⟩) hHeld ?_
            rotate_left
            · intro W hSW; obtain ⟨hSW0, hSW1, hSW2⟩ := hSW; go_simp; first | done | with_reducible rfl
            (try simp only [Act.put, List.setIfInBounds_toArray, List.set_cons_zero, List.set_cons_succ])
            refine wpAnyH_take (i := 10) (oi := ⟨some 60, _, _, _, _, _⟩) (v := ?_) rfl (by kernel_rfl) (by kernel_rfl) (by kernel_rfl) (fun _ _ _ h => h) (Or.inl ⟨by rfl, ?_⟩) hHeld ?_
            rotate_left
            · intro W hSW; obtain ⟨hSW0, hSW1, hSW2⟩ := hSW; go_simp; first | done | with_reducible rfl
            (try simp only [Act.put, List.setIfInBounds_toArray, List.set_cons_zero, List.set_cons_succ])
            refine wpAnyH_take (i := 11) (oi := ⟨some 61, _, _, _, _, _⟩) (v := ?_) rfl (by kernel_rfl) (by kernel_rfl) (by kernel_rfl) (fun _ _ _ h => h) (Or.inl ⟨by rfl, ?_⟩) hHeld ?_
            rotate_left
            · intro W hSW; obtain ⟨hSW0, hSW1, hSW2⟩ := hSW; go_simp; first | done | with_reducible rfl
            (try simp only [Act.put, List.setIfInBounds_toArray, List.set_cons_zero, List.set_cons_succ])
            refine wpAnyH_take (i := 12) (oi := ⟨some 62, _, _, _, _, _⟩) (v := ?_) rfl (by kernel_rfl) (by kernel_rfl) (by kernel_rfl) (fun _ _ _ h => h) (Or.inl ⟨by rfl, ?_⟩) hHeld ?_
            rotate_left
            · intro W hSW; obtain ⟨hSW0, hSW1, hSW2⟩ := hSW; go_simp; first | done | with_reducible rfl
            (try simp only [Act.put, List.setIfInBounds_toArray, List.set_cons_zero, List.set_cons_succ])
            refine wpAnyH_take (i := 13) (oi := ⟨some 63, _, _, _, _, _⟩) (v := ?_) rfl (by kernel_rfl) (by kernel_rfl) (by kernel_rfl) (fun _ _ _ h => h) (Or.inl ⟨by rfl, ?_⟩) hHeld ?_
            rotate_left
            · intro W hSW; obtain ⟨hSW0, hSW1, hSW2⟩ := hSW; go_simp; first | done | with_reducible rfl
            (try simp only [Act.put, List.setIfInBounds_toArray, List.set_cons_zero, List.set_cons_succ])
            refine wpAnyH_take (i := 14) (oi := ⟨some 64, _, _, _, _, _⟩) (v := ?_) rfl (by kernel_rfl) (by kernel_rfl) (by kernel_rfl) (fun _ _ _ h => h) (Or.inl ⟨by rfl, ?_⟩) hHeld ?_
            rotate_left
            · intro W hSW; obtain ⟨hSW0, hSW1, hSW2⟩ := hSW; go_simp; first | done | with_reducible rfl
            (try simp only [Act.put, List.setIfInBounds_toArray, List.set_cons_zero, List.set_cons_succ])
            refine wpAnyH_take (i := 15) (oi := ⟨some 65, _, _, _, _, _⟩) (v := ?_) rfl (by kernel_rfl) (by kernel_rfl) (by kernel_rfl) (fun _ _ _ h => h) (Or.inl ⟨by rfl, ?_⟩) hHeld ?_
            rotate_left
            · intro W hSW; obtain ⟨hSW0, hSW1, hSW2⟩ := hSW; go_simp; first | done | with_reducible rfl
            (try simp only [Act.put, List.setIfInBounds_toArray, List.set_cons_zero, List.set_cons_succ])
            refine wpAnyH_take (i := 16) (oi := ⟨some 66, _, _, _, _, _⟩) (v := ?_) rfl (by kernel_rfl) (by kernel_rfl) (by kernel_rfl) (fun _ _ _ h => h) (Or.inl ⟨by rfl, ?_⟩) hHeld ?_
            rotate_left
            · intro W hSW; obtain ⟨hSW0, hSW1, hSW2⟩ := hSW; go_simp; first | done | with_reducible rfl
            (try simp only [Act.put, List.setIfInBounds_toArray, List.set_cons_zero, List.set_cons_succ])
            refine wpAnyH_take (i := 17) (oi := ⟨some 67, _, _, _, _, _⟩) (v := ?_) rfl (by kernel_rfl) (by kernel_rfl) (by kernel_rfl) (fun _ _ _ h => h) (Or.inl ⟨by rfl, ?_⟩) hHeld ?_
            rotate_left
            · intro W hSW; obtain ⟨hSW0, hSW1, hSW2⟩ := hSW; go_simp; first | done | with_reducible rfl
            (try simp only [Act.put, List.setIfInBounds_toArray, List.set_cons_zero, List.set_cons_succ])
            refine wpAnyH_take (i := 18) (oi := ⟨some 10, _, _, _, _, _⟩) (v := ?_) rfl (by kernel_rfl) (by kernel_rfl) (by kernel_rfl) (fun _ _ _ h => h) (Or.inl ⟨by rfl, ?_⟩) hHeld ?_
            rotate_left
            · intro W hSW; obtain ⟨hSW0, hSW1, hSW2⟩ := hSW; go_simp; first | done | with_reducible rfl
            (try simp only [Act.put, List.setIfInBounds_toArray, List.set_cons_zero, List.set_cons_succ])
            refine wpAnyH_take (i := 19) (oi := ⟨some 11, _, _, _, _, _⟩) (v := ?_) rfl (by kernel_rfl) (by kernel_rfl) (by kernel_rfl) (fun _ _ _ h => h) (Or.inl ⟨by rfl, ?_⟩) hHeld ?_
            rotate_left
            · intro W hSW; obtain ⟨hSW0, hSW1, hSW2⟩ := hSW; go_simp; first | done | with_reducible rfl
            (try simp only [Act.put, List.setIfInBounds_toArray, List.set_cons_zero, List.set_cons_succ])
            refine wpAnyH_done (by kernel_rfl) ?_ _
            refine NoPanic.normal ?_
            have hB7 := hHeld.1
            clear hHeld
            go_wp2
            go_roundw
            case rel => exact ⟨v + 1, by omega, by go_num, bR, bL, rfl, rfl, ⟨by rw [HR1.out]; rfl, by rw [HL1.out]; rfl⟩, HQ0.out.after hB7, Below.then_ HB0.out hB7⟩
            case measure => simp [intOf] <;> omega
      · have hv4 : Hid (v = 4) := by unfold Hid; omega
        have HRV : Hid (rv = (Bm.isB la && Bm.isB lb && Bm.isB (List.replicate m0 0) && Bm.isB (List.replicate m1 0))) := by unfold Hid; rw [← HV.out.1, hv4.out]; exact HR4.out
        have HLV : Hid ((k1 = k0 ∧ m0 = k0 ∧ m1 = k0) ↔ lv = true) := by unfold Hid; rw [← HV.out.2, hv4.out]; exact HL4.out
        have CSp := Lib.hid splitsC
        have bwr : Below w.heap.size w wr := Below.then_ bw3 bl
        rcases HD.out with ⟨h1, e1, e2⟩ | ⟨h1, h2, e1, e2⟩ | ⟨h1, h2, g, hg, hN, hC, e2, hgl, hq⟩
        · obtain rfl : rv = false := by rw [HRV.out]; exact h1
          obtain ⟨rfl, rfl, rfl⟩ := e1
          subst e2
          cases lv
          · go_wp2_with (go_at_call 7; refine (CSp.out _).mono ?_; rintro e wz ⟨rfl, bz⟩)
            go_ret
            exact ⟨rfl, Below.then_ bwr bz⟩
          · go_wp2_with (go_at_call 7; refine (CSp.out _).mono ?_; rintro e wz ⟨rfl, bz⟩)
            go_ret
            exact ⟨rfl, Below.then_ bwr bz⟩
        · obtain rfl : rv = true := by rw [HRV.out]; exact h1
          obtain rfl : lv = false := by
            cases hlv : lv
            · rfl
            · exact absurd (HLV.out.2 hlv) h2
          obtain ⟨rfl, rfl, rfl⟩ := e1
          subst e2
          go_wp2_with (go_at_call 7; refine (CSp.out _).mono ?_; rintro e wz ⟨rfl, bz⟩)
          go_ret
          exact ⟨rfl, Below.then_ bwr bz⟩
        · obtain rfl : rv = true := by rw [HRV.out]; exact h1
          obtain rfl : lv = true := HLV.out.1 h2
          subst e2
          subst hg
          have HNc := Lib.hid hN
          have hNc : Nc ≤ 240 := by omega
          have hgw := hq.lt
          have HPk : Hid (∀ v, v < 4 → Cv.pick (jf (P4 la lb (List.replicate m0 0) (List.replicate m1 0)) k0 4 0) v = P4 la lb (List.replicate m0 0) (List.replicate m1 0) v) := fun v hv => pick_jf _ k0 v hv (by
            rw [HLen.out v hv]
            have h : v = 0 ∨ v = 1 ∨ v = 2 ∨ v = 3 := by omega
            rcases h with rfl | rfl | rfl | rfl
            · rfl
            · exact h2.1
            · exact h2.2.1
            · exact h2.2.2)
          have HJL : Hid ((jf (P4 la lb (List.replicate m0 0) (List.replicate m1 0)) k0 4 0).length = Nc) := by unfold Hid; rw [jf_length, hN]
          have HPi : Hid (∀ (W : World) (v : Nat), Below w3.heap.size w3 W → v < 4 → Calls Try.prog 8 #[.slice (some ⟨g, 0, none⟩) Nc Cc, .int .i64 (v : Int)] W (Made W (P4 la lb (List.replicate m0 0) (List.replicate m1 0) v))) := fun W v h hv => by
            have t := refPick (some ⟨g, 0, none⟩) Nc Cc k0 v _ W (((hq.rd8 HJL.out).below h).up h.size) hN (by omega) hv
            rw [HPk.out v hv] at t
            exact t
          have e4 : (Nc : Int) = 4 * (k0 : Int) := by omega
          have HE4 := Lib.hid e4
          clear hN hC hq HD h1 h2 HRV HLV hgl HPk HJL e4 HR4 HL4
          go_upto_region 12 with (go_at_call 7; refine (CSp.out _).mono ?_; rintro e wz ⟨rfl, bz⟩)
          have q := q.after bz
          have bl := Below.then_ bl bz
          have bwr := Below.then_ bwr bz
          clear bz
          go_wp2
          obtain ⟨wo, hwo⟩ : ∃ wo : World, wo = wr := ⟨_, rfl⟩
          clear hwo
          go_loopw [13] (fun y wr => ∃ v : Nat, v ≤ 4 ∧ y = .int .i64 v ∧ Blk wr g7 25 V ∧ Below w3.heap.size w3 wr) (fun y _ => 4 - (intOf y).toNat)
          case atStart => exact ⟨0, by omega, rfl, q, bl⟩
          case round =>
            clear q bl bwr
            obtain ⟨v, hv, rfl, q, bl⟩ := hrel
            by_cases hlt : v < 4
            · obtain ⟨A, n, c, l, hV, hr, hb, hn60, hl, hn⟩ := HLL.out v hlt
              have kv := (q.cell v).trans hV
              have hcv : ∀ W, Below wr.heap.size wr W → convO A n c W = .ok (.string (str l)) W := fun W h => ((hr.below (HQ.out wr bl)).up (HQ.out wr bl).size).conv (c := c) hr.none0 W h
              have HS : Hid (∀ W, Below wr.heap.size wr W → (Below wr.heap.size wr W ∧ W.cell? ⟨g7, v, none⟩ = some (.slice A n c) ∧ convO A n c W = .ok (.string (str l)) W)) := fun W h => ⟨h, (h.cell (p := ⟨g7, v, none⟩) q.lt).trans kv, hcv W h⟩
              have CPk : Hid (∀ W, Below wr.heap.size wr W → Calls Try.prog 8 #[.slice (some ⟨g, 0, none⟩) Nc Cc, .int .i64 (v : Int)] W (Made W l)) := fun W h => by rw [hl]; exact HPi.out W v (Below.then_ bl h) hlt
              have ia := fun W => run_idx (P := Try.prog) (sz := 1) Try.underlying25 (by kernel_rfl) g7 0 v hlt .i64 W
              simp only [Nat.zero_add, Nat.one_mul] at ia
              obtain ⟨sv, hsv⟩ : ∃ s, str l = s := ⟨_, rfl⟩
              rw [hsv] at HS
              have HSV := Lib.hid hsv
              have ts : (sv.toList == sv.toList) = true := by simp
              have tn : (sv.toList != sv.toList) = false := by simp
              have hany := convO_eq
              have HQ0 := Lib.hid q
              have HB0 := Lib.hid bl
              clear hV hr hb hl hn kv q bl hcv hsv
              go_upto_region 15 with fail
              refine wp_region_noPanic ?_
              refine wp_region_held_drew (S := fun W => Below wr.heap.size wr W ∧ W.cell? ⟨g7, v, none⟩ = some (.slice A n c) ∧ convO A n c W = .ok (.string sv) W) (by kernel_rfl) (HS.out _ (Below.refl _ _).drew) (fun hHeld => ?_)
              refine wpAnyH_take (i := 0) (oi := ⟨some 103, _, _, _, _, _⟩) (v := ?_) rfl (by kernel_rfl) (by kernel_rfl) (by kernel_rfl) (fun _ _ _ h => h) (Or.inl ⟨by rfl, ?_⟩) hHeld ?_
              rotate_left
              · intro W hSW; obtain ⟨hSW0, hSW1, hSW2⟩ := hSW; go_simp; first | done | with_reducible rfl
              (try simp only [Act.put, List.setIfInBounds_toArray, List.set_cons_zero, List.set_cons_succ])
              refine wpAnyH_take (i := 1) (oi := ⟨some 104, _, _, _, _, _⟩) (v := ?_) rfl (by kernel_rfl) (by kernel_rfl) (by kernel_rfl) (fun _ _ _ h => h) (Or.inl ⟨by rfl, ?_⟩) hHeld ?_
              rotate_left
              · intro W hSW; obtain ⟨hSW0, hSW1, hSW2⟩ := hSW; go_simp; first | done | with_reducible rfl
              (try simp only [Act.put, List.setIfInBounds_toArray, List.set_cons_zero, List.set_cons_succ])
              refine wpAnyH_take (i := 4) (oi := ⟨some 107, _, _, _, _, _⟩) (v := ?_) rfl (by kernel_rfl) (by kernel_rfl) (by kernel_rfl) (fun _ _ _ h => h) (Or.inl ⟨by rfl, ?_⟩) hHeld ?_
              rotate_left
              · intro W hSW; obtain ⟨hSW0, hSW1, hSW2⟩ := hSW; go_simp; first | done | with_reducible rfl
              (try simp only [Act.put, List.setIfInBounds_toArray, List.set_cons_zero, List.set_cons_succ])
              refine wpAnyH_take (i := 5) (oi := ⟨some 108, _, _, _, _, _⟩) (v := ?_) rfl (by kernel_rfl) (by kernel_rfl) (by kernel_rfl) (fun _ _ _ h => h) (Or.inl ⟨by rfl, ?_⟩) hHeld ?_
              rotate_left
              · intro W hSW; obtain ⟨hSW0, hSW1, hSW2⟩ := hSW; go_simp; first | done | with_reducible rfl
              (try simp only [Act.put, List.setIfInBounds_toArray, List.set_cons_zero, List.set_cons_succ])
              refine wpAnyH_take (i := 6) (oi := ⟨some 109, _, _, _, _, _⟩) (v := ?_) rfl (by kernel_rfl) (by kernel_rfl) (by kernel_rfl) (fun _ _ _ h => h) (Or.inl ⟨by rfl, ?_⟩) hHeld ?_
              rotate_left
              · intro W hSW; obtain ⟨hSW0, hSW1, hSW2⟩ := hSW; go_simp; first | done | with_reducible rfl
              (try simp only [Act.put, List.setIfInBounds_toArray, List.set_cons_zero, List.set_cons_succ])
              refine wpAnyH_take (i := 7) (oi := ⟨some 110, _, _, _, _, _⟩) (v := ?_) rfl (by kernel_rfl) (by kernel_rfl) (by kernel_rfl) (fun _ _ _ h => h) (Or.inl ⟨by rfl, ?_⟩) hHeld ?_
              rotate_left
              · intro W hSW; obtain ⟨hSW0, hSW1, hSW2⟩ := hSW; go_simp; first | done | with_reducible rfl
              (try simp only [Act.put, List.setIfInBounds_toArray, List.set_cons_zero, List.set_cons_succ])
              refine wpAnyH_ready (rs := [2]) (by kernel_rfl) (by simp) ?_
              refine AllReadyH.cons (o := ⟨some 105, _, _, _, _, _⟩) rfl (fun K hK => ?_) (AllReadyH.nil)
              go_simp
              refine (CPk.out _ hHeld.1).mono ?_
              rintro e wq ⟨A9, n9, c9, rfl, own9, b9⟩
              have hS9 := HS.out wq (Below.then_ hHeld.1 b9)
              have hq9 := own9.convO wq (Below.refl _ _)
              rw [HSV.out] at hq9
              clear hHeld own9
              refine hK.out _ _ ?_ (fun hHeld => ?_)
              · exact hS9
              clear hK K
              (try simp only [Act.put, List.setIfInBounds_toArray, List.set_cons_zero, List.set_cons_succ])
              refine wpAnyH_ready (rs := [3]) (by kernel_rfl) (by simp) ?_
              refine AllReadyH.cons (o := ⟨some 106, _, _, _, _, _⟩) rfl (fun K hK => ?_) (AllReadyH.nil)
              have hS10 := hHeld
              go_simp
              clear hHeld
              refine hK.out _ _ ?_ (fun hHeld => ?_)
              · exact hS10
              clear hK K
              (try simp only [Act.put, List.setIfInBounds_toArray, List.set_cons_zero, List.set_cons_succ])
              refine wpAnyH_take (i := 8) (oi := ⟨some 111, _, _, _, _, _⟩) (v := ?_) rfl (by kernel_rfl) (by kernel_rfl) (by kernel_rfl) (fun _ _ _ h => h) (Or.inl ⟨by rfl, ?_⟩) hHeld ?_
              rotate_left
              · intro W hSW; obtain ⟨hSW0, hSW1, hSW2⟩ := hSW; go_simp; first | done | with_reducible rfl
              (try simp only [Act.put, List.setIfInBounds_toArray, List.set_cons_zero, List.set_cons_succ])
              refine wpAnyH_done (by kernel_rfl) ?_ _
              refine NoPanic.normal ?_
              have hB7 := hHeld.1
              clear hHeld
              go_wp2
              go_roundw
              case rel => exact ⟨v + 1, by omega, by go_num, HQ0.out.after hB7, Below.then_ HB0.out hB7⟩
              case measure => simp [intOf] <;> omega
            · have k0c := (q.cell 0).trans HK0.out
              have e4 : 4 * (k0 : Int) = (Nc : Int) := HE4.out.symm
              have bwr : Below w.heap.size w wr := Below.then_ bw3 bl
              clear q bl
              go_wp2
              go_ret
              exact ⟨rfl, bwr⟩
end Go.Proofs.Ytknfpdlomgllhaa
