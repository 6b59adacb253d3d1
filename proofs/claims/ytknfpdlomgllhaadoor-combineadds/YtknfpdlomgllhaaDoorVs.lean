/-
  Layer 9's reference: the best from each state on, none where no noughts lead to the end; what an edge scores; two edges side by side.
-/
import Derived.Test.YtknfpdlomgllhaaDoorVg
import Derived.Test.YtknfpdlomgllhaaDoorTs
import Derived.Test.YtknfpdlomgllhaaDoorMg
namespace Go.Proofs.YtknfpdlomgllhaaDoor
open Go.RowKit
set_option maxRecDepth 100000
set_option linter.unusedVariables false

/-- What is behind a state by the first bits. -/
def pt (l : List Int) (n t : Nat) (V : Nat → Int) (s : Nat) : Nat → Int
  | 0 => -1099511627776
  | x + 1 => if x = 1 ∧ n ≤ t then pt l n t V s x else if -549755813888 < V (Cv.nx s x) then max (pt l n t V s x) (Cv.gn l t s x + V (Cv.nx s x)) else pt l n t V s x
/-- The best from a state on, so many steps ahead of the end. -/
def rv (l : List Int) (n : Nat) : Nat → Nat → Int
  | 0, s => if s = 0 then 0 else -1099511627776
  | j + 1, s => pt l n (n + 6 - (j + 1)) (rv l n j) s 2
theorem getD_in {l : List Int} (h : ∀ z ∈ l, -31 ≤ z ∧ z ≤ 31) (k : Nat) : -31 ≤ l.getD k 0 ∧ l.getD k 0 ≤ 31 := by
  by_cases hk : k < l.length
  · rw [Bm.getD_lt _ _ _ hk]; exact h _ (List.getElem_mem hk)
  · rw [Bm.getD_ge _ _ _ (by omega)]; omega
theorem sg_in (c : Nat) (x : Int) (h : -31 ≤ x ∧ x ≤ 31) : -31 ≤ Cv.sg c x ∧ Cv.sg c x ≤ 31 := by unfold Cv.sg; split <;> omega
theorem gn_in {l : List Int} (h : ∀ z ∈ l, -31 ≤ z ∧ z ≤ 31) (t s x : Nat) : -124 ≤ Cv.gn l t s x ∧ Cv.gn l t s x ≤ 124 := by
  have h0 := sg_in (Cv.out s x 0) _ (getD_in h (4 * t))
  have h1 := sg_in (Cv.out s x 1) _ (getD_in h (4 * t + 1))
  have h2 := sg_in (Cv.out s x 2) _ (getD_in h (4 * t + 2))
  have h3 := sg_in (Cv.out s x 3) _ (getD_in h (4 * t + 3))
  unfold Cv.gn
  omega
theorem pt_in {l : List Int} (h : ∀ z ∈ l, -31 ≤ z ∧ z ≤ 31) (n t : Nat) (V : Nat → Int) (K : Int) (hK : 0 ≤ K) (hV : ∀ r, -1099511627776 ≤ V r ∧ V r ≤ K) (s : Nat) : ∀ x, -1099511627776 ≤ pt l n t V s x ∧ pt l n t V s x ≤ K + 124
  | 0 => by unfold pt; omega
  | x + 1 => by
    have ih := pt_in h n t V K hK hV s x
    have hg := gn_in h t s x
    have hv := hV (Cv.nx s x)
    unfold pt
    split
    · exact ih
    · split
      · omega
      · exact ih
theorem rv_in {l : List Int} (h : ∀ z ∈ l, -31 ≤ z ∧ z ≤ 31) (n : Nat) : ∀ j s, -1099511627776 ≤ rv l n j s ∧ rv l n j s ≤ 124 * (j : Int)
  | 0, s => by unfold rv; split <;> omega
  | j + 1, s => by
    have := pt_in h n (n + 6 - (j + 1)) (rv l n j) (124 * (j : Int)) (by omega) (fun r => rv_in h n j r) s 2
    unfold rv
    omega
theorem fw_in {l : List Int} (h : ∀ z ∈ l, -31 ≤ z ∧ z ≤ 31) : ∀ (c : List Nat) (t s : Nat), -(124 * (c.length : Int)) ≤ Cv.fw l t s c ∧ Cv.fw l t s c ≤ 124 * (c.length : Int)
  | [], _, _ => by simp [Cv.fw]
  | x :: c, t, s => by
    have ih := fw_in h c (t + 1) (Cv.nx s x)
    have hg := gn_in h t s x
    show _ ≤ Cv.gn l t s x + Cv.fw l (t + 1) (Cv.nx s x) c ∧ Cv.gn l t s x + Cv.fw l (t + 1) (Cv.nx s x) c ≤ _
    rw [List.length_cons]
    omega
theorem mb_in {l : List Int} (h : ∀ z ∈ l, -31 ≤ z ∧ z ≤ 31) : ∀ m t s : Nat, -(124 * ((m : Int) + 6)) ≤ Cv.mb l m t s ∧ Cv.mb l m t s ≤ 124 * ((m : Int) + 6)
  | 0, t, s => by
    have := fw_in h Cv.z6 t s
    have e : (Cv.z6.length : Int) = 6 := rfl
    show _ ≤ Cv.fw l t s Cv.z6 ∧ Cv.fw l t s Cv.z6 ≤ _
    omega
  | m + 1, t, s => by
    have h0 := mb_in h m (t + 1) (Cv.nx s 0)
    have h1 := mb_in h m (t + 1) (Cv.nx s 1)
    have g0 := gn_in h t s 0
    have g1 := gn_in h t s 1
    show _ ≤ max _ _ ∧ max _ _ ≤ _
    omega
theorem rv_lo {l : List Int} (h : ∀ z ∈ l, -31 ≤ z ∧ z ≤ 31) (n : Nat) : ∀ j, j ≤ 6 → ∀ s, rv l n j s = if s < 2 ^ j then Cv.fw l (n + 6 - j) s (List.replicate j 0) else -1099511627776
  | 0, _, s => by
    unfold rv
    by_cases hs : s = 0
    · rw [if_pos hs, if_pos (by rw [hs]; decide)]
      rfl
    · rw [if_neg hs, if_neg (by show ¬ s < 1; omega)]
  | j + 1, hj, s => by
    have e1 : rv l n (j + 1) s = pt l n (n + 6 - (j + 1)) (rv l n j) s 1 := by
      show (if 1 = 1 ∧ n ≤ n + 6 - (j + 1) then _ else _) = _
      rw [if_pos ⟨rfl, by omega⟩]
    have e2 : pt l n (n + 6 - (j + 1)) (rv l n j) s 1 = if -549755813888 < rv l n j (Cv.nx s 0) then max (-1099511627776) (Cv.gn l (n + 6 - (j + 1)) s 0 + rv l n j (Cv.nx s 0)) else -1099511627776 := by
      show (if 0 = 1 ∧ _ then _ else _) = _
      rw [if_neg (by omega)]
      rfl
    have e3 : Cv.nx s 0 = s / 2 := by unfold Cv.nx; omega
    have ih := rv_lo h n j (by omega) (s / 2)
    rw [e1, e2, e3]
    have hp : 2 ^ (j + 1) = 2 ^ j * 2 := Nat.pow_succ 2 j
    by_cases hs : s < 2 ^ (j + 1)
    · rw [if_pos hs]
      rw [if_pos (by omega)] at ih
      have hb := fw_in h (List.replicate j 0) (n + 6 - j) (s / 2)
      rw [List.length_replicate] at hb
      have hg := gn_in h (n + 6 - (j + 1)) s 0
      rw [ih, if_pos (by omega), List.replicate_succ]
      show _ = Cv.gn l (n + 6 - (j + 1)) s 0 + Cv.fw l (n + 6 - (j + 1) + 1) (Cv.nx s 0) (List.replicate j 0)
      rw [e3, show n + 6 - (j + 1) + 1 = n + 6 - j by omega]
      omega
    · rw [if_neg hs]
      rw [if_neg (by omega)] at ih
      rw [ih, if_neg (by omega)]
theorem rv_hi {l : List Int} (h : ∀ z ∈ l, -31 ≤ z ∧ z ≤ 31) (n : Nat) (hn : n ≤ 4096) : ∀ m, m ≤ n → ∀ s, s < 64 → rv l n (6 + m) s = Cv.mb l m (n - m) s
  | 0, _, s, hs => by
    rw [rv_lo h n 6 (Nat.le_refl _) s, if_pos (show s < 2 ^ 6 by omega)]
    rfl
  | m + 1, hm, s, hs => by
    have h0 := rv_hi h n hn m (by omega) (Cv.nx s 0) (Cv.nx_lt s 0 hs (by omega))
    have h1 := rv_hi h n hn m (by omega) (Cv.nx s 1) (Cv.nx_lt s 1 hs (by omega))
    have b0 := mb_in h m (n - m) (Cv.nx s 0)
    have b1 := mb_in h m (n - m) (Cv.nx s 1)
    have g0 := gn_in h (n - (m + 1)) s 0
    have g1 := gn_in h (n - (m + 1)) s 1
    have e1 : pt l n (n - (m + 1)) (rv l n (6 + m)) s 1 = Cv.gn l (n - (m + 1)) s 0 + Cv.mb l m (n - m) (Cv.nx s 0) := by
      show (if 0 = 1 ∧ _ then _ else _) = _
      rw [if_neg (by omega), h0, if_pos (by omega)]
      have hle : (-1099511627776 : Int) ≤ Cv.gn l (n - (m + 1)) s 0 + Cv.mb l m (n - m) (Cv.nx s 0) := by omega
      exact Int.max_eq_right hle
    show pt l n (n + 6 - (6 + m + 1)) (rv l n (6 + m)) s 2 = max (Cv.gn l (n - (m + 1)) s 0 + Cv.mb l m (n - (m + 1) + 1) (Cv.nx s 0)) (Cv.gn l (n - (m + 1)) s 1 + Cv.mb l m (n - (m + 1) + 1) (Cv.nx s 1))
    rw [show n + 6 - (6 + m + 1) = n - (m + 1) by omega, show n - (m + 1) + 1 = n - m by omega]
    show (if 1 = 1 ∧ n ≤ n - (m + 1) then _ else _) = _
    rw [if_neg (by omega), h1, if_pos (by omega), e1]
/-- The best at a step. -/
theorem rv_at {l : List Int} (h : ∀ z ∈ l, -31 ≤ z ∧ z ≤ 31) (n : Nat) (hn : n ≤ 4096) (t s : Nat) (ht : t ≤ n) (hs : s < 64) : rv l n (n + 6 - t) s = Cv.mb l (n - t) t s := by
  rw [show n + 6 - t = 6 + (n - t) by omega, rv_hi h n hn (n - t) (by omega) s hs, show n - (n - t) = t by omega]

set_option maxHeartbeats 400000 in
/-- What an edge's bits score. -/
theorem gainC (A : Option Addr) (c s x : Nat) (ns : List Int) (w : World) (hr : Rd w w.heap.size A 4 (I64 ns)) (hin : ∀ z ∈ ns, -31 ≤ z ∧ z ≤ 31) :
    Calls Tryd.prog 65 #[.slice A 4 c, .agg (E7 s x)] w fun e w' => e = .returned (.int .i64 (sc4 ns s x)) ∧ Below w.heap.size w w' := by
  have HR : Hid (∀ W g, Blk W g 106 (E7 s x) → Rd W W.heap.size A 4 (I64 ns) → Calls Tryd.prog 101 #[.slice A 4 c, .slice (some ⟨g, 3, none⟩) 4 4] W fun e w' => e = .returned (.int .i64 (sc4 ns s x)) ∧ W = w') :=
    fun W g h hR => refScore A (some ⟨g, 3, none⟩) 4 c 4 ns _ W hR (E7_rd W g _ s x h) hin (by omega)
  generalize E7 s x = E at *
  generalize sc4 ns s x = v at *
  go_enter Tryd.func65, Tryd.ntmps65
  go_wp2_with (first | (refine at_box rfl 106 _ rfl E rfl ?_; intro w1 h1; have D := Lib.hid (HR.out w1 _ h1.row ((hr.below h1.bel).up h1.bel.size))) | (go_at_call 101; refine D.out.mono ?_; rintro e w' ⟨rfl, rfl⟩))
  go_ret
  exact ⟨rfl, h1.bel⟩

theorem built70 (E1 E2 : Array Value) (h1 : E1.size = 7) (h2 : E2.size = 7) : Tryd.prog.built 107 [(0, .agg E1), (1, .agg E2)] = some (E1 ++ E2) := by
  have key : ∀ a0 a1 a2 a3 a4 a5 a6 b0 b1 b2 b3 b4 b5 b6 : Value, Tryd.prog.built 107 [(0, .agg #[a0, a1, a2, a3, a4, a5, a6]), (1, .agg #[b0, b1, b2, b3, b4, b5, b6])] = some #[a0, a1, a2, a3, a4, a5, a6, b0, b1, b2, b3, b4, b5, b6] := fun _ _ _ _ _ _ _ _ _ _ _ _ _ _ => by kernel_rfl
  obtain ⟨l⟩ := E1
  obtain ⟨m⟩ := E2
  match l, h1, m, h2 with
  | [_, _, _, _, _, _, _], _, [_, _, _, _, _, _, _], _ => exact key _ _ _ _ _ _ _ _ _ _ _ _ _ _
/-- '[2]Edge{a, b}'. -/
theorem at_build14 {ops : Array Oper} {rest : List Oper} {o : Oper} {a : Act} {w : World} {Q : Exit → Act → World → Prop} (hgd : o.guard = none) (x y : Operand) (ho : o.op = .build 107 #[(0, x), (1, y)]) (E1 E2 : Array Value) (h1 : E1.size = 7) (h2 : E2.size = 7) (hx : a.eval x = .agg E1) (hy : a.eval y = .agg E2)
    (h : wpList Tryd.prog ops Q rest (a.put o.dst (.agg (E1 ++ E2))) w) : wpList Tryd.prog ops Q (o :: rest) a w := by
  have e : Tryd.prog.built 107 ((#[(0, x), (1, y)] : Array (Nat × Operand)).map fun (i, x) => (i, a.eval x)).toList = some (E1 ++ E2) := by
    simp only [List.map_toArray, List.map_cons, List.map_nil, hx, hy]
    exact built70 E1 E2 h1 h2
  refine wpList_build hgd _ _ ho (by rw [e]; rfl) ?_
  rw [e]
  exact h
end Go.Proofs.YtknfpdlomgllhaaDoor
