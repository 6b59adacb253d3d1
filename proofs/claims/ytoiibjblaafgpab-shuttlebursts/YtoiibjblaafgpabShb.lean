/-
  Layer 33 (lists read column by column): Order, either way; apart, Apart, either way; the first test.
-/
import Derived.Test.YtoiibjblaafgpabSha
import Derived.Test.YtoiibjblaafgpabMem
import Derived.Test.YtoiibjblaafgpabBk
import Derived.Test.YtoiibjblaafgpabMc
import Derived.Deep.DeepCutAuto
namespace Go.Proofs.Ytoiibjblaafgpab
open Go.RowKit
set_option linter.unusedVariables false
set_option linter.unusedSimpArgs false
set_option maxRecDepth 100000

/-- Numbers as ints. -/
def In (l : List Nat) : List Int := l.map fun (x : Nat) => (x : Int)
theorem In_length (l : List Nat) : (In l).length = l.length := by simp [In]
theorem In_append (a b : List Nat) : In (a ++ b) = In a ++ In b := by simp [In]
theorem In_get (l : List Nat) (k : Nat) : (In l).getD k 0 = ((l.getD k 0 : Nat) : Int) := by
  by_cases h : k < l.length
  · rw [Bm.getD_lt _ _ _ (by rw [In_length]; exact h), Bm.getD_lt _ _ _ h]; simp [In]
  · rw [Bm.getD_ge _ _ _ (by rw [In_length]; omega), Bm.getD_ge _ _ _ (by omega)]; rfl
theorem In_set (l : List Nat) (p x : Nat) : (In l).set p (x : Int) = In (l.set p x) := by simp [In, List.map_set]
/-- How wide the table is. -/
def wd (n rows : Nat) : Nat := (n + rows - 1) / rows
theorem wd_mul (n rows : Nat) (hr : 1 ≤ rows) : n ≤ rows * wd n rows := by
  unfold wd
  have := Nat.div_add_mod (n + rows - 1) rows
  have := Nat.mod_lt (n + rows - 1) (show 0 < rows by omega)
  omega
theorem wd_pos (n rows : Nat) (hr : 1 ≤ rows) (hn : 0 < n) : 0 < wd n rows := by
  unfold wd
  exact Nat.div_pos (by omega) (by omega)
theorem wd_le (n rows : Nat) (hr : 1 ≤ rows) : wd n rows ≤ n := by
  unfold wd
  have h : n + rows - 1 < rows * (n + 1) := by
    have : rows * (n + 1) = rows * n + rows := Nat.mul_succ _ _
    have : n ≤ rows * n := Nat.le_mul_of_pos_left n (by omega)
    omega
  exact Nat.le_of_lt_succ (Nat.div_lt_of_lt_mul h)
theorem ord_all (n rows : Nat) (hr : 1 ≤ rows) : Sh.Ord n (Sh.ordl n (wd n rows)) := by
  by_cases hn : 0 < n
  · exact Sh.ord_ordl (wd_pos n rows hr hn)
  · obtain rfl : n = 0 := by omega
    have e : wd 0 rows = 0 := by have := wd_le 0 rows hr; omega
    rw [e]
    exact ⟨rfl, List.nodup_nil, fun p => by simp [Sh.ordl, Sh.cols]⟩
/-- In the midst of a column. -/
structure Col (n wide c : Nat) (l : List Nat) (p r : Nat) : Prop where
  eq : l = Sh.cols n wide c ++ (List.range r).map fun r => r * wide + c
  pl : p = r * wide + c
  le : r ≤ Sh.colN n wide c
theorem Col.start (n wide c : Nat) : Col n wide c (Sh.cols n wide c) c 0 := ⟨by simp, by simp, Nat.zero_le _⟩
theorem Col.step {n wide c : Nat} {l : List Nat} {p r : Nat} (h : Col n wide c l p r) (hc : c < wide) (hp : p < n) : Col n wide c (l ++ [p]) (p + wide) (r + 1) :=
  ⟨by rw [h.eq, List.range_succ, List.map_append, List.append_assoc, h.pl]; rfl, by rw [h.pl, Nat.succ_mul]; omega, by
    have := (Sh.lt_colN (n := n) (r := r) hc).2 (by rw [← h.pl]; exact hp)
    omega⟩
theorem Col.stop {n wide c : Nat} {l : List Nat} {p r : Nat} (h : Col n wide c l p r) (hc : c < wide) (hp : ¬ p < n) : l = Sh.cols n wide (c + 1) := by
  have h1 : ¬ r < Sh.colN n wide c := fun hh => hp (by rw [h.pl]; exact (Sh.lt_colN hc).1 hh)
  have h2 : r = Sh.colN n wide c := by have := h.le; omega
  rw [h.eq, Sh.cols_succ, h2]; rfl
theorem Col.len {n wide c : Nat} {l : List Nat} {p r : Nat} (h : Col n wide c l p r) (hc : c < wide) : l.length ≤ n := by
  have h1 := Sh.cols_length_le (n := n) (show c + 1 ≤ wide by omega) (by omega)
  rw [Sh.cols_succ, List.length_append] at h1
  have h2 : (Sh.col n wide c).length = Sh.colN n wide c := by simp [Sh.col]
  have h3 := h.le
  rw [h.eq, List.length_append, List.length_map, List.length_range]
  omega
set_option maxHeartbeats 400000 in
/-- shuffle.Order. -/
theorem shOrder (n rows : Nat) (w : World) (hn : n ≤ 65536) (hr : 1 ≤ rows ∧ rows ≤ 64) :
    Calls Try.prog 28 #[.int .i64 (n : Int), .int .i64 (rows : Int)] w fun e w' => ∃ A c, e = .returned (.tuple #[.slice A n c, .int .i64 0]) ∧ Own w' w.heap.size 3 A n c (I64 (In (Sh.ordl n (wd n rows)))) ∧ Below w.heap.size w w' := by
  obtain ⟨i0, hi0, hz0, hz1, hz2⟩ := info_parts info3
  have d1 : decide ((n : Int) < 0) = false := by simp
  have d2 : decide ((65536 : Int) < (n : Int)) = false := by simp; omega
  have d3 : decide ((rows : Int) < 1) = false := by simp; omega
  have d4 : decide ((64 : Int) < (rows : Int)) = false := by simp; omega
  have d5 : ¬ (rows : Int) = 0 := by omega
  have e1 : (((n : Int) + (rows : Int) - 1).tdiv (rows : Int)) = ((wd n rows : Nat) : Int) := by
    rw [show (n : Int) + (rows : Int) - 1 = ((n + rows - 1 : Nat) : Int) by omega]
    rfl
  have HW := Lib.hid (wd_le n rows hr.1)
  have HOL := Lib.hid (ord_all n rows hr.1).len
  have HOE : Hid (Sh.ordl n (wd n rows) = Sh.cols n (wd n rows) (wd n rows)) := rfl
  generalize wd n rows = wide at *
  have hwide : wide ≤ n := HW.out
  clear HW
  go_enter Try.func28, Try.ntmps28
  go_wp2_with (at_make; refine wpList_make_own _ rfl _ _ 38 rfl w.heap.size 3 i0 (.int .i64 0) 1 Try.underlying38 hi0 hz0 hz1 .i64 .i64 _ n rfl rfl (by first | rfl | omega) (by rw [hz2]; omega) (by unfold maxLen; omega) (Nat.le_refl _) ?_; intro w0 hown0 hgrow0)
  have hbel0 : Below w.heap.size w w0 := (Below.refl _ _).grown hgrow0 (Nat.le_refl _) (fun k h => by cases h)
  clear hgrow0 hi0 hz0 hz1 hz2
  go_loopw [7, 33] (fun s i wr => ∃ c : Nat, c ≤ wide ∧ i = .int .i64 (c : Int) ∧ ∃ (A1 : Option Addr) (m c1 : Nat), s = .slice A1 m c1 ∧ Own wr w.heap.size 3 A1 m c1 (I64 (In (Sh.cols n wide c))) ∧ Below w.heap.size w wr) (fun _ i _ => wide - (intOf i).toNat)
  case atStart => exact ⟨0, Nat.zero_le _, rfl, _, _, _, rfl, ⟨hown0⟩, hbel0⟩
  case round =>
    clear hown0 hbel0
    obtain ⟨c, hc, rfl, A1, m, c1, rfl, hown, hbel⟩ := hrel
    by_cases hlt : c < wide
    · have d6 : decide ((c : Int) < (wide : Int)) = true := by simp; omega
      go_wp2
      have hst : Hid (Col n wide c (Sh.cols n wide c) c 0) := Col.start n wide c
      obtain ⟨wo, rfl⟩ : ∃ wo : World, wo = wr := ⟨_, rfl⟩
      go_loopw [7, 9] (fun s i wr => ∃ (p r : Nat) (l : List Nat), i = .int .i64 (p : Int) ∧ p ≤ n + wide ∧ Hid (Col n wide c l p r) ∧ ∃ (A1 : Option Addr) (m c1 : Nat), s = .slice A1 m c1 ∧ Own wr w.heap.size 3 A1 m c1 (I64 (In l)) ∧ Below w.heap.size w wr) (fun _ i _ => n + wide - (intOf i).toNat)
      case atStart => exact ⟨c, 0, _, rfl, by omega, hst, A1, m, c1, rfl, hown, hbel⟩
      case round =>
        clear hown hbel hst
        obtain ⟨p, r, l, rfl, hp, HC, A2, m2, c2, rfl, hown, hbel⟩ := hrel
        have hsz := hbel.size
        by_cases hpn : p < n
        · have d7 : decide ((p : Int) < (n : Int)) = true := by simp; omega
          have HS := Lib.hid (HC.out.step hlt hpn)
          have hm : m2 ≤ 1000000 := by
            have h1 := hown.len
            rw [I64_length, In_length] at h1
            have h2 := HC.out.len hlt
            omega
          obtain ⟨p2, hp2⟩ : ∃ p2, p2 = p + wide := ⟨_, rfl⟩
          have ep : (p : Int) + (wide : Int) = (p2 : Int) := by omega
          have hp3 : p < p2 ∧ p2 ≤ n + wide := by omega
          rw [← hp2] at HS
          clear hp2
          go_wp2_with (at_builtin; refine app64 _ rfl _ _ rfl w.heap.size _ _ _ _ (p : Int) rfl hown rfl hm hsz ?_; intro A3 c3 w3 hown3 hgrow3)
          go_roundw
          case rel =>
            refine ⟨p2, r + 1, l ++ [p], by first | rfl | go_num, by omega, HS, A3, _, c3, rfl, ?_, hbel.grown hgrow3 hsz (fun j hj => (hown.block j hj).1)⟩
            rw [In_append]
            exact hown3
          case measure => simp [intOf] <;> omega
        · have d7 : decide ((p : Int) < (n : Int)) = false := by simp; omega
          have HS := Lib.hid (HC.out.stop hlt hpn)
          rw [HS.out] at hown
          go_wp2
          go_roundw
          case rel => exact ⟨c + 1, by omega, by go_num, A2, m2, c2, rfl, hown, hbel⟩
          case measure => simp [intOf] <;> omega
    · have d6 : decide ((c : Int) < (wide : Int)) = false := by simp; omega
      have hce : c = wide := by omega
      have HX : Hid (Sh.cols n wide c = Sh.ordl n wide) := by unfold Hid; rw [hce]; exact HOE.out.symm
      rw [HX.out] at hown
      have hm : Hid (m = n) := by
        have h1 := hown.len
        rw [I64_length, In_length, HOL.out] at h1
        exact h1.symm
      clear hce
      go_wp2
      go_ret2
      refine ⟨A1, c1, ?_, ?_, hbel⟩
      · rw [hm.out]; rfl
      · rw [hm.out] at hown; exact hown
set_option maxHeartbeats 400000 in
theorem shOrderNo (n rows : Int) (w : World) (h : n < 0 ∨ 65536 < n ∨ rows < 1 ∨ 64 < rows) : Calls Try.prog 28 #[.int .i64 n, .int .i64 rows] w fun e w' => e = .returned (.tuple #[.slice none 0 0, .int .i64 1]) ∧ w = w' := by
  by_cases h1 : n < 0
  · go_enter Try.func28, Try.ntmps28
    go_wp2
    go_ret2
    exact ⟨rfl, rfl⟩
  · by_cases h2 : 65536 < n
    · go_enter Try.func28, Try.ntmps28
      go_wp2
      go_ret2
      exact ⟨rfl, rfl⟩
    · by_cases h3 : rows < 1
      · go_enter Try.func28, Try.ntmps28
        go_wp2
        go_ret2
        exact ⟨rfl, rfl⟩
      · have h4 : 64 < rows := by omega
        go_enter Try.func28, Try.ntmps28
        go_wp2
        go_ret2
        exact ⟨rfl, rfl⟩
end Go.Proofs.Ytoiibjblaafgpab
