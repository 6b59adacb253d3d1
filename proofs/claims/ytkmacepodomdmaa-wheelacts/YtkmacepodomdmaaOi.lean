/-
  The library's sort at numbers of 16 bits: Sort, of a row of the call's own.
-/
import Derived.Test.YtkmacepodomdmaaOh
import Derived.Test.YtkmacepodomdmaaNu
import Derived.Test.YtkmacepodomdmaaMo
namespace Go.Proofs.Ytkmacepodomdmaa
open Go.RowKit
set_option maxRecDepth 100000
open Go.Sort (swp PermIn SortedIn SWO Holds putRow mapBlock putCells)
set_option linter.unusedVariables false
set_option linter.unusedSimpArgs false

set_option maxHeartbeats 1000000 in
/-- slices.Sort, of fewer than 50. -/
theorem sortC (g off n cap : Nat) (d : Array Nat) (w : World) (h : SR w g off n w d) (hn : n < 50) :
    Calls Try.prog 56 #[.slice (some ⟨g, off, none⟩) n cap] w fun e w' =>
      e = .returned (.tuple #[]) ∧ ∃ d', SR w g off n w' d' ∧ PermIn 0 n d d' ∧ So 0 n d' := by
  have hk := bit_le ⟨n, hn⟩
  simp only [] at hk
  have HL : Hid (Calls Try.prog 75 #[.int .u64 (n : Int)] w fun e w' => e = .returned (.int .i64 ((Lib.bitLen n : Nat) : Int)) ∧ w = w') := by
    have := lenC (n : Int) w (by omega) (by omega)
    rw [Int.toNat_natCast] at this
    exact this
  have HP : Hid (Calls Try.prog 74 #[.slice (some ⟨g, off, none⟩) n cap, .int .i64 0, .int .i64 (n : Int), .int .i64 ((Lib.bitLen n : Nat) : Int)] w fun e w' =>
      e = .returned (.tuple #[]) ∧ ∃ d', SR w g off n w' d' ∧ PermIn 0 n d d' ∧ So 0 n d') :=
    pdqC (n + 1) g off n cap 0 n (Lib.bitLen n) d w (by omega) h (by omega) (Nat.le_refl _) hn (by omega) (Lw.zero _ _)
  generalize Lib.bitLen n = k at HL HP hk
  clear h
  go_enter Try.func56, Try.ntmps56
  go_wp2_with (first
    | (go_at_call 75; refine HL.out.mono ?_; rintro e w1 ⟨rfl, rfl⟩)
    | (go_at_call 74; refine HP.out.mono ?_; rintro e w2 ⟨rfl, d', hs, hp, ho⟩))
  go_end0
  exact ⟨rfl, d', hs, hp, ho⟩

theorem insNil (w : World) : Calls Try.prog 81 #[.slice none 0 0, .int .i64 0, .int .i64 0] w fun e w' => e = .returned (.tuple #[]) ∧ w = w' := by
  go_enter Try.func81, Try.ntmps81
  go_wp2
  refine wp_loop_rounds 1 ?_
  rw [rounds_succ]
  go_wp2
  go_end0
  exact ⟨rfl, rfl⟩
theorem pdqNil (k : Nat) (w : World) : Calls Try.prog 74 #[.slice none 0 0, .int .i64 0, .int .i64 0, .int .i64 (k : Int)] w fun e w' => e = .returned (.tuple #[]) ∧ w = w' := by
  go_enter Try.func74, Try.ntmps74
  go_wp2
  refine wp_loop_rounds 1 ?_
  rw [rounds_succ]
  go_wp2_with (go_at_call 81; refine (insNil _).mono ?_; rintro e w1 ⟨rfl, rfl⟩)
  (try simp only [Exit.inBlock, Exit.then]); refine bodyPost_ret (results_none rfl _ _ _) rfl ?_
  exact ⟨rfl, rfl⟩
theorem sortNil (w : World) : Calls Try.prog 56 #[.slice none 0 0] w fun e w' => e = .returned (.tuple #[]) ∧ w = w' := by
  have HL : Hid (Calls Try.prog 75 #[.int .u64 0] w fun e w' => e = .returned (.int .i64 ((Lib.bitLen 0 : Nat) : Int)) ∧ w = w') := lenC 0 w (by omega) (by omega)
  have HP := Lib.hid (pdqNil (Lib.bitLen 0) w)
  generalize Lib.bitLen 0 = k at HL HP
  go_enter Try.func56, Try.ntmps56
  go_wp2_with (first
    | (go_at_call 75; refine HL.out.mono ?_; rintro e w1 ⟨rfl, rfl⟩)
    | (go_at_call 74; refine HP.out.mono ?_; rintro e w2 ⟨rfl, rfl⟩))
  go_end0
  exact ⟨rfl, rfl⟩

theorem N16_eU (l : List Nat) : N16 l = l.map eU := rfl
/-- A row of the call's own, as the row that is sorted. -/
theorem SR.of_own {w : World} {base g n c : Nat} {e : TypeId} {l : List Nat} (h : Own w base e (some ⟨g, 0, none⟩) n c (N16 l)) : SR w g 0 n w l.toArray := by
  have hl : n = l.length := by have := h.len; rw [N16_length] at this; exact this.symm
  have hg := (h.block g (by rfl)).2
  have hH : Holds eU w g 0 l.toArray := fun t ht => by
    have ht' : t < l.length := by simpa using ht
    obtain ⟨g', hA, _, _, hc, hf, _⟩ := h.slot t (by omega)
    injection hA with hA
    injection hA with hA
    subst hA
    rw [Nat.zero_add]
    refine ⟨?_, hf⟩
    rw [hc, N16_get l t ht']
    simp [eU, ht', List.getD]
  have := SR.start hH hg
  rw [List.size_toArray, ← hl] at this
  exact this
theorem SR.to_own {w w' : World} {base g n c : Nat} {e : TypeId} {l : List Nat} {d : Array Nat} (h : Own w base e (some ⟨g, 0, none⟩) n c (N16 l)) (hs : SR w g 0 n w' d) : Own w' base e (some ⟨g, 0, none⟩) n c (N16 d.toList) := by
  refine ⟨by rw [N16_length]; simp [hs.sz], ?_⟩
  rcases h.row.2 with ⟨hv, h0⟩ | ⟨g', cap, cur, hv, hb, hg, h1, h2, h3, h4⟩
  · injection hv with hv; cases hv
  · injection hv with hA _ hc
    injection hA with hA
    injection hA with hA
    subst hA hc
    refine .inr ⟨g, c, putCells eU 0 d cur, rfl, hb, ?_, h1, h2, ?_, ?_⟩
    · rw [hs.bel.block g hs.lt]
      unfold putRow
      rw [mapBlock_at, if_pos rfl, hg]
      rfl
    · unfold putCells
      rw [Array.size_mapIdx]; exact h3
    · have hsz := hs.sz
      have hcs : n ≤ cur.size := by rw [h3]; omega
      apply List.ext_getElem?
      intro k
      rw [List.getElem?_take, N16_eU, List.getElem?_map, Array.getElem?_toList, Array.getElem?_toList]
      unfold putCells
      rw [Array.getElem?_mapIdx]
      by_cases hk : k < n
      · rw [if_pos (by omega), Array.getElem?_eq_getElem (by omega), Array.getElem?_eq_getElem (by omega)]
        simp only [Option.map_some]
        rw [if_pos ⟨by omega, by omega⟩, Nat.sub_zero, getElem!_pos d k (by omega)]
      · rw [if_neg (by omega), Array.getElem?_eq_none (by omega)]
        rfl
theorem rise_of {n : Nat} {d : Array Nat} (hsz : d.size = n) (h : So 0 n d) : d.toList.Pairwise (· ≤ ·) := by
  rw [List.pairwise_iff_getElem]
  intro i j hi hj hij
  rw [Array.length_toList] at hi hj
  have := h i j (Nat.zero_le _) hij (by omega)
  rw [getElem!_pos d i hi, getElem!_pos d j hj] at this
  simpa using this
/-- slices.Sort, of a row of the call's own. -/
theorem sort16 (base n c : Nat) (A : Option Addr) (e : TypeId) (l : List Nat) (w : World) (h : Own w base e A n c (N16 l)) (hn : n < 50) :
    Calls Try.prog 56 #[.slice A n c] w fun en w' =>
      en = .returned (.tuple #[]) ∧ ∃ m, Own w' base e A n c (N16 m) ∧ m.Perm l ∧ m.Pairwise (· ≤ ·) ∧ w.grownBy w' (blk A) := by
  have hl : n = l.length := by have := h.len; rw [N16_length] at this; exact this.symm
  cases A with
  | none =>
    obtain ⟨h0, hc0⟩ := h.none_ rfl
    subst h0 hc0
    refine (sortNil w).mono ?_
    rintro en w' ⟨rfl, rfl⟩
    have : l = [] := List.eq_nil_of_length_eq_zero hl.symm
    subst this
    exact ⟨rfl, [], h, List.Perm.refl _, List.Pairwise.nil, World.grownBy.refl w _⟩
  | some a =>
    have ha : ∃ g, a = ⟨g, 0, none⟩ := by
      rcases h.row.2 with ⟨hv, h0⟩ | ⟨g', cap, cur, hv, _⟩
      · injection hv with hv; cases hv
      · injection hv with hA _ _
        injection hA with hA
        exact ⟨g', hA⟩
    obtain ⟨g, rfl⟩ := ha
    refine (sortC g 0 n c l.toArray w (SR.of_own h) hn).mono ?_
    rintro en w' ⟨rfl, d, hs, hp, ho⟩
    refine ⟨rfl, d.toList, hs.to_own h, ?_, rise_of hs.sz ho, hs.grown⟩
    have h3 := hp.2.2
    have e1 : d.extract 0 n = d := by rw [← hs.sz]; simp
    have e2 : l.toArray.extract 0 n = l.toArray := by rw [hl]; simp
    rw [e1, e2] at h3
    exact h3
end Go.Proofs.Ytkmacepodomdmaa
