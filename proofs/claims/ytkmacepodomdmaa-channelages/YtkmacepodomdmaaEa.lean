/-
  Layer 26 (datagrams under way): flights as cells; slices.IndexFunc of them, with the channel's own function.
-/
import Derived.Test.YtkmacepodomdmaaDl
import Derived.Test.YtkmacepodomdmaaMh
import Derived.Test.YtkmacepodomdmaaKr
namespace Go.Proofs.Ytkmacepodomdmaa
open Go.RowKit
set_option maxRecDepth 100000
set_option linter.unusedVariables false
set_option linter.unusedSimpArgs false

/-- A flight. -/
structure Fy where
  b : ByteArray
  was : ByteArray
  since : Nat
def FE (x : Fy) : Array Value := #[.string x.b, .string x.was, .int .i64 (x.since : Int)]
def D3 : List Fy → List Value
  | [] => []
  | x :: L => .string x.b :: .string x.was :: .int .i64 (x.since : Int) :: D3 L
theorem D3_len (L : List Fy) : (D3 L).length = L.length * 3 := by
  induction L with
  | nil => rfl
  | cons p L ih => simp [D3, ih]; omega
theorem D3_append (L M : List Fy) : D3 (L ++ M) = D3 L ++ D3 M := by
  induction L with
  | nil => rfl
  | cons p L ih => simp [D3, ih]
theorem D3_one (L : List Fy) : ∀ u ∈ D3 L, u.oneCell' = true := by
  induction L with
  | nil => intro u hu; cases hu
  | cons p L ih =>
    intro u hu
    simp only [D3, List.mem_cons] at hu
    rcases hu with rfl | rfl | rfl | hu
    · rfl
    · rfl
    · rfl
    · exact ih u hu
theorem D3_take (L : List Fy) (i : Nat) : (D3 L).take (i * 3) = D3 (L.take i) := by
  induction L generalizing i with
  | nil => simp [D3]
  | cons p L ih =>
    cases i with
    | zero => rfl
    | succ i => rw [show (i + 1) * 3 = i * 3 + 1 + 1 + 1 by omega]; simp [D3, ih]
theorem D3_drop (L : List Fy) (i : Nat) : (D3 L).drop (i * 3) = D3 (L.drop i) := by
  induction L generalizing i with
  | nil => simp [D3]
  | cons p L ih =>
    cases i with
    | zero => rfl
    | succ i => rw [show (i + 1) * 3 = i * 3 + 1 + 1 + 1 by omega]; simp [D3, ih]
theorem D3_get (L : List Fy) (i : Nat) (h : i < L.length) (j : Nat) (u : Value) (hu : (FE L[i])[j]? = some u) : (D3 L)[3 * i + j]? = some u := by
  induction L generalizing i with
  | nil => simp at h
  | cons p L ih =>
    cases i with
    | zero =>
      match j with
      | 0 => exact hu
      | 1 => exact hu
      | 2 => exact hu
      | j + 3 => simp [FE] at hu
    | succ i =>
      have := ih i (by simpa using h) (by simpa using hu)
      rw [show 3 * (i + 1) + j = (3 * i + j) + 1 + 1 + 1 by omega]
      simpa [D3] using this
theorem FE_one (x : Fy) : (FE x).all (·.oneCell') = true := by simp [FE, Value.oneCell']
theorem infoFE (x : Fy) : (Try.prog.info? 115).map (·.size) = some (FE x).size := chDelInfo
/-- The first place at which p holds, or none. -/
def IdxIs (L : List Fy) (p : Fy → Bool) (r : Int) : Prop := (∃ i, ∃ h : i < L.length, r = (i : Int) ∧ p L[i] = true ∧ ∀ j (hj : j < L.length), j < i → p L[j] = false) ∨ (r = -1 ∧ ∀ j (hj : j < L.length), p L[j] = false)
/-- The function value of Step. -/
def PredOk (w : World) (L : List Fy) (cl : Value) (p : Fy → Bool) : Prop := ∀ W x, Below w.heap.size w W → x ∈ L → Calls Try.prog 62 #[.agg (FE x), cl] W fun e w' => e = .returned (.bool (p x)) ∧ Below W.heap.size W w'
set_option maxHeartbeats 1000000 in
set_option maxRecDepth 100000 in
theorem chIdx (w : World) (base : Nat) (A : Option Addr) (n c : Nat) (L : List Fy) (cl : Value) (p : Fy → Bool) (h : OwnR w base 115 3 A n c (D3 L)) (hn : n ≤ 1000000) (HP : PredOk w L cl p) :
    Calls Try.prog 77 #[.slice A n c, .func (.func 62) #[] #[cl]] w fun e w' => ∃ r : Int, e = .returned (.int .i64 r) ∧ IdxIs L p r ∧ Below w.heap.size w w' := by
  have hlen := h.row.1
  rw [D3_len] at hlen
  have HN : Hid (n = L.length) := by unfold Hid; omega
  have HP' := Lib.hid HP
  have HO := Lib.hid h
  clear HP h hlen
  go_enter Try.func77, Try.ntmps77
  go_wp2_with fail
  go_loopw [8] (fun s8 wr => ∃ k : Nat, s8 = .int .i64 (k : Int) ∧ k ≤ n ∧ Hid (∀ j (hj : j < L.length), j < k → p L[j] = false) ∧ Below w.heap.size w wr) (fun s8 _ => n - (intOf s8).toNat)
  case atStart => exact ⟨0, rfl, by omega, fun j hj h => absurd h (by omega), Below.refl _ _⟩
  case round =>
    obtain ⟨k, rfl, hk, HB, hbel⟩ := hrel
    by_cases hlt : k < n
    · have hkl : k < L.length := by rw [← HN.out]; exact hlt
      obtain ⟨g, hA, hbg, hgw, hcell⟩ := HO.out.cells (by omega)
      subst hA
      have hr : Hid (wr.rangeAt g (3 * k) (FE L[k]).toList) := fun j u hu => (hbel.cell (p := ⟨g, 3 * k + j, none⟩) hgw).trans (hcell _ _ (D3_get L k hkl j u (by rw [← Array.getElem?_toList]; exact hu)))
      have CP := Lib.hid (HP'.out wr L[k] hbel (List.getElem_mem hkl))
      have HX : Hid (∀ b, p L[k] = b → b = false → ∀ j (hj : j < L.length), j < k + 1 → p L[j] = false) := fun b h1 h2 j hj h3 => by
        rcases Nat.lt_succ_iff_lt_or_eq.1 h3 with h4 | h4
        · exact HB.out j hj h4
        · subst h4; rw [h1, h2]
      have HY : Hid (p L[k] = true → IdxIs L p (k : Int)) := fun h1 => .inl ⟨k, hkl, rfl, h1, HB.out⟩
      have ix := fun W => run_idxR (P := Try.prog) (sz := 3) Try.underlying111 chDelInfo g 0 n c k hlt .i64 W
      simp only [Nat.zero_add] at ix
      have iE := infoFE L[k]
      have d1 : decide ((k : Int) < (n : Int)) = true := by simp; omega
      have hE : (FE L[k]).size = 3 := rfl
      generalize hpx : p L[k] = px at *
      generalize FE L[k] = E at *
      cases px
      · go_wp2_with (first
          | (refine at_load_mid rfl 115 _ rfl g (3 * k) rfl E _ hr.out Try.underlying115 rfl iE ?_)
          | (go_at_call 62; refine CP.out.mono ?_; rintro e w2 ⟨rfl, b2⟩))
        go_roundw
        case rel => exact ⟨k + 1, by go_num, by omega, HX.out _ rfl rfl, Below.trans hbel (b2.mono hbel.size)⟩
        case measure => simp [intOf]; omega
      · go_wp2_with (first
          | (refine at_load_mid rfl 115 _ rfl g (3 * k) rfl E _ hr.out Try.underlying115 rfl iE ?_)
          | (go_at_call 62; refine CP.out.mono ?_; rintro e w2 ⟨rfl, b2⟩))
        go_ret
        exact ⟨(k : Int), rfl, HY.out (by first | rfl | trivial), Below.trans hbel (b2.mono hbel.size)⟩
    · obtain rfl : k = n := by omega
      have d1 : decide ((k : Int) < (k : Int)) = false := by simp
      go_wp2_with fail
      go_ret
      exact ⟨-1, rfl, .inr ⟨rfl, fun j hj => HB.out j hj (by have := HN.out; omega)⟩, hbel⟩
end Go.Proofs.Ytkmacepodomdmaa
