/-
  Texts joined: Sm, Sa, Sb, Sc.
-/
import Derived.Test.YtknfpdlomgllhaaDoorMz
import Derived.Test.YtknfpdlomgllhaaDoorMem
import Derived.Test.YtknfpdlomgllhaaDoorRr
namespace Go.Proofs.YtknfpdlomgllhaaDoor.Cv
set_option linter.unusedVariables false

/-- Within the bounds. -/
def clip (z : Int) : Int := if 31 < z then 31 else if z < -31 then -31 else z
theorem clip_hi {z : Int} (h : 31 < z) : clip z = 31 := by unfold clip; rw [if_pos h]
theorem clip_lo {z : Int} (h : z < -31) : clip z = -31 := by unfold clip; rw [if_neg (by omega), if_pos h]
theorem clip_in {z : Int} (h : ¬ 31 < z) (h2 : ¬ z < -31) : clip z = z := by unfold clip; rw [if_neg h, if_neg h2]
theorem clip_bounds (z : Int) : -31 ≤ clip z ∧ clip z ≤ 31 := by unfold clip; split <;> (try split) <;> omega
theorem clip_eq (z : Int) : z = clip z ↔ -31 ≤ z ∧ z ≤ 31 := by unfold clip; split <;> (try split) <;> omega
/-- Are all within the bounds? -/
def inB (l : List Int) : Bool := l.all fun z => decide (-31 ≤ z ∧ z ≤ 31)
theorem inB_true {l : List Int} (h : inB l = true) : ∀ z ∈ l, -31 ≤ z ∧ z ≤ 31 := by
  intro z hz
  simpa using List.all_eq_true.1 h z hz
theorem inB_of {l : List Int} (h : ∀ z ∈ l, -31 ≤ z ∧ z ≤ 31) : inB l = true := List.all_eq_true.2 fun z hz => by simpa using h z hz
theorem inB_of_getD {l : List Int} (h : ∀ i, i < l.length → -31 ≤ l.getD i 0 ∧ l.getD i 0 ≤ 31) : inB l = true := by
  refine inB_of fun z hz => ?_
  obtain ⟨i, hi, rfl⟩ := List.getElem_of_mem hz
  have := h i hi
  rwa [Bm.getD_lt _ _ _ hi] at this
theorem inB_false {l : List Int} (i : Nat) (hi : i < l.length) (h : ¬ (-31 ≤ l.getD i 0 ∧ l.getD i 0 ≤ 31)) : inB l = false := by
  rw [Bool.eq_false_iff]
  intro hc
  apply h
  rw [Bm.getD_lt _ _ _ hi]
  exact inB_true hc _ (List.getElem_mem _)
theorem inB_getD {l : List Int} (h : ∀ z ∈ l, -31 ≤ z ∧ z ≤ 31) (i : Nat) : -31 ≤ l.getD i 0 ∧ l.getD i 0 ≤ 31 := by
  by_cases hi : i < l.length
  · rw [Bm.getD_lt _ _ _ hi]; exact h _ (List.getElem_mem _)
  · rw [Bm.getD_ge _ _ _ (by omega)]; omega
theorem sg_bounds {c : Nat} {x K : Int} (h : -K ≤ x ∧ x ≤ K) : -K ≤ sg c x ∧ sg c x ≤ K := by unfold sg; split <;> omega
theorem sc_bounds {l : List Int} (h : ∀ z ∈ l, -31 ≤ z ∧ z ≤ 31) (c : List Nat) : ∀ k : Nat, -(31 * (k : Int)) ≤ scTo l c k ∧ scTo l c k ≤ 31 * (k : Int)
  | 0 => by simp [scTo]
  | k + 1 => by
    have ih := sc_bounds h c k
    have h2 := sg_bounds (c := c.getD k 0) (inB_getD h k)
    show -(31 * ((k + 1 : Nat) : Int)) ≤ scTo l c k + _ ∧ scTo l c k + _ ≤ _
    omega
/-- A number times 1 or -1. -/
theorem sg_mul (c : Nat) (x : Int) : x * (if c = 0 then 1 else -1) = sg c x := by unfold sg; split <;> omega
/-- The bits that numbers are rather. -/
def hard (l : List Int) : List Nat := l.map fun z => if z < 0 then 1 else 0
theorem hard_length (l : List Int) : (hard l).length = l.length := by simp [hard]
theorem hard_getD (l : List Int) (k : Nat) : (hard l).getD k 0 = if l.getD k 0 < 0 then 1 else 0 := by
  by_cases h : k < l.length
  · rw [Bm.getD_lt _ _ _ (by rw [hard_length]; exact h), Bm.getD_lt _ _ _ h]; simp [hard]
  · rw [Bm.getD_ge _ _ _ (by rw [hard_length]; omega), Bm.getD_ge _ _ _ (by omega)]; rfl
theorem hard_bit (l : List Int) : ∀ x ∈ hard l, x ≤ 1 := by
  intro x hx
  obtain ⟨z, _, rfl⟩ := List.mem_map.1 hx
  split <;> omega
theorem hard_soft (t : List Nat) (h : ∀ x ∈ t, x ≤ 1) : hard (soft t) = t := by
  refine Bm.ext_getD (by rw [hard_length, soft_length]) fun i hi => ?_
  rw [hard_length, soft_length] at hi
  rw [hard_getD, soft_getD t i hi]
  have := Bm.bit_le t h i
  by_cases h0 : t.getD i 0 = 0
  · rw [if_pos h0, h0]; rfl
  · rw [if_neg h0, if_pos (by omega)]; omega
theorem soft_bounds (t : List Nat) : ∀ z ∈ soft t, -31 ≤ z ∧ z ≤ 31 := by
  intro z hz
  obtain ⟨x, _, rfl⟩ := List.mem_map.1 hz
  split <;> omega
theorem soft_take (t : List Nat) (k : Nat) (h : k < t.length) : soft (t.take (k + 1)) = soft (t.take k) ++ [if t.getD k 0 = 0 then 1 else -1] := by
  rw [List.take_succ_eq_append_getElem h, Bm.getD_lt _ _ _ h]
  unfold soft
  rw [List.map_append]
  rfl
end Go.Proofs.YtknfpdlomgllhaaDoor.Cv

namespace Go.Proofs.YtknfpdlomgllhaaDoor
open Go.RowKit
set_option maxRecDepth 100000
set_option linter.unusedVariables false

set_option maxHeartbeats 400000 in
/-- soft.Clip. -/
theorem softClip (z : Int) (w : World) : Calls Tryd.prog 98 #[.int .i64 z] w fun e w' => e = .returned (.int .i64 (Cv.clip z)) ∧ w = w' := by
  by_cases h1 : 31 < z
  · have HC := Lib.hid (Cv.clip_hi h1)
    go_enter Tryd.func98, Tryd.ntmps98
    go_wp2 <;> (go_ret; exact ⟨ret_int' (by rw [HC.out]; try omega), rfl⟩)
  · by_cases h2 : z < -31
    · have HC := Lib.hid (Cv.clip_lo h2)
      go_enter Tryd.func98, Tryd.ntmps98
      go_wp2 <;> (go_ret; exact ⟨ret_int' (by rw [HC.out]; try omega), rfl⟩)
    · have HC := Lib.hid (Cv.clip_in h1 h2)
      go_enter Tryd.func98, Tryd.ntmps98
      go_wp2 <;> (go_ret; exact ⟨ret_int' (by rw [HC.out]; try omega), rfl⟩)
set_option maxHeartbeats 400000 in
/-- The reference's Clip. -/
theorem refClip (z : Int) (w : World) : Calls Tryd.prog 99 #[.int .i64 z] w fun e w' => e = .returned (.int .i64 (Cv.clip z)) ∧ w = w' := by
  by_cases h1 : 31 < z
  · have HC := Lib.hid (Cv.clip_hi h1)
    go_enter Tryd.func99, Tryd.ntmps99
    go_wp2
    go_ret
    exact ⟨ret_int' HC.out.symm, rfl⟩
  · by_cases h2 : z < -31
    · have HC := Lib.hid (Cv.clip_lo h2)
      go_enter Tryd.func99, Tryd.ntmps99
      go_wp2
      go_ret
      exact ⟨ret_int' HC.out.symm, rfl⟩
    · have HC := Lib.hid (Cv.clip_in h1 h2)
      go_enter Tryd.func99, Tryd.ntmps99
      go_wp2
      go_ret
      exact ⟨ret_int' HC.out.symm, rfl⟩
set_option maxHeartbeats 400000 in
/-- soft.Of. -/
theorem softOf (x : Nat) (w : World) : Calls Tryd.prog 59 #[.int .u8 (x : Int)] w fun e w' => e = .returned (.int .i64 (if x = 0 then 1 else -1)) ∧ w = w' := by
  by_cases h : x = 0
  · rw [if_pos h]
    subst h
    go_enter Tryd.func59, Tryd.ntmps59
    go_wp2
    go_ret
    exact ⟨rfl, rfl⟩
  · rw [if_neg h]
    have e : ((x : Int) == 0) = false := by simp; omega
    go_enter Tryd.func59, Tryd.ntmps59
    go_wp2
    go_ret
    exact ⟨rfl, rfl⟩
set_option maxHeartbeats 400000 in
/-- The reference's Of. -/
theorem refOf (x : Nat) (w : World) : Calls Tryd.prog 63 #[.int .u8 (x : Int)] w fun e w' => e = .returned (.int .i64 (if x = 0 then 1 else -1)) ∧ w = w' := by
  by_cases h : x = 0
  · rw [if_pos h]
    subst h
    go_enter Tryd.func63, Tryd.ntmps63
    go_wp2
    go_ret
    exact ⟨rfl, rfl⟩
  · rw [if_neg h]
    have e : ((x : Int) == 0) = false := by simp; omega
    go_enter Tryd.func63, Tryd.ntmps63
    go_wp2
    go_ret
    exact ⟨rfl, rfl⟩
set_option maxHeartbeats 400000 in
/-- soft.within. -/
theorem softWithin (A : Option Addr) (n c : Nat) (zs : List Int) (w : World) (hr : Rd w w.heap.size A n (I64 zs)) (hn : n ≤ 65536) :
    Calls Tryd.prog 165 #[.slice A n c] w fun e w' => e = .returned (.bool (Cv.inB zs)) ∧ w = w' := by
  have HN := Lib.hid hr.len64
  go_enter Tryd.func165, Tryd.ntmps165
  go_wp2
  go_loop [7] (fun i => ∃ k : Nat, k ≤ n ∧ i = .int .i64 k ∧ Hid (∀ j, j < k → -31 ≤ zs.getD j 0 ∧ zs.getD j 0 ≤ 31)) (fun i => n - (intOf i).toNat)
  case atStart => exact ⟨0, Nat.zero_le _, rfl, fun j hj => by omega⟩
  case round =>
    obtain ⟨k, hk, rfl, HR⟩ := hrel
    by_cases hlt : k < n
    · obtain ⟨b', off, rfl, hlt2, hcell⟩ := hr.cell64 k hlt
      obtain ⟨x, hxe⟩ : ∃ x, x = zs.getD k 0 := ⟨_, rfl⟩
      have HX := Lib.hid hxe
      rw [← hxe] at hcell
      clear hxe
      by_cases hb : -31 ≤ x ∧ x ≤ 31
      · have e : (x != Cv.clip x) = false := by rw [← (Cv.clip_eq x).2 hb]; simp
        go_wp2_with (go_at_call 98; refine (softClip x _).mono ?_; rintro e w' ⟨rfl, rfl⟩)
        go_round
        case rel =>
          refine ⟨k + 1, by omega, by go_num, fun j hj => ?_⟩
          by_cases hjk : j = k
          · rw [hjk, ← HX.out]; exact hb
          · exact HR.out j (by omega)
        case measure => simp [intOf] <;> omega
      · have e : (x != Cv.clip x) = true := by
          have : x ≠ Cv.clip x := fun h => hb ((Cv.clip_eq x).1 h)
          simpa using this
        go_wp2_with (go_at_call 98; refine (softClip x _).mono ?_; rintro e w' ⟨rfl, rfl⟩)
        go_ret
        exact ⟨ret_bool (Cv.inB_false k (by rw [← HN.out]; exact hlt) (by rw [← HX.out]; exact hb)).symm, rfl⟩
    · go_wp2
      go_ret
      exact ⟨ret_bool (Cv.inB_of_getD (fun i hi => HR.out i (by rw [← HN.out] at hi; omega))).symm, rfl⟩
end Go.Proofs.YtknfpdlomgllhaaDoor

namespace Go.Proofs.YtknfpdlomgllhaaDoor
open Go.RowKit
set_option maxRecDepth 100000
set_option linter.unusedVariables false

theorem sg_of (c : Nat) (x s K : Int) (h : -K ≤ s ∧ s ≤ K) (hx : -31 ≤ x ∧ x ≤ 31) (hK : K ≤ 100000000) : IntKind.i64.wrap (x * (if c = 0 then 1 else -1)) = Cv.sg c x ∧ IntKind.i64.wrap (s + Cv.sg c x) = s + Cv.sg c x := by
  have h2 := Cv.sg_bounds (c := c) hx
  rw [Cv.sg_mul]
  exact ⟨IntWalk.i64_in _ (by omega), IntWalk.i64_in _ (by omega)⟩

set_option maxHeartbeats 400000 in
/-- The reference's Score. -/
theorem refScore (A A2 : Option Addr) (n c c2 : Nat) (zs : List Int) (bs : List Nat) (w : World) (hz : Rd w w.heap.size A n (I64 zs)) (hb : Rd w w.heap.size A2 n (U8 bs)) (hin : ∀ z ∈ zs, -31 ≤ z ∧ z ≤ 31) (hn : n ≤ 65536) :
    Calls Tryd.prog 101 #[.slice A n c, .slice A2 n c2] w fun e w' => e = .returned (.int .i64 (Cv.score zs bs)) ∧ w = w' := by
  have HN := Lib.hid hz.len64
  have HB := Lib.hid (Cv.sc_bounds hin bs)
  go_enter Tryd.func101, Tryd.ntmps101
  go_wp2
  go_loop [5, 6] (fun s i => ∃ k : Nat, ∃ r : Int, k ≤ n ∧ i = .int .i64 k ∧ s = .int .i64 r ∧ -(31 * (k : Int)) ≤ r ∧ r ≤ 31 * (k : Int) ∧ Hid (r = Cv.scTo zs bs k)) (fun _ i => n - (intOf i).toNat)
  case atStart => exact ⟨0, 0, Nat.zero_le _, rfl, rfl, by omega, by omega, rfl⟩
  case round =>
    obtain ⟨k, r, hk, rfl, rfl, hr1, hr2, HR⟩ := hrel
    by_cases hlt : k < n
    · obtain ⟨b, off, rfl, hlt2, hcell⟩ := hz.cell64 k hlt
      obtain ⟨b', off', rfl, hlt3, hcell2⟩ := hb.cell8 k hlt
      have hx := Cv.inB_getD hin k
      have HS : Hid (Cv.scTo zs bs (k + 1) = r + Cv.sg (bs.getD k 0) (zs.getD k 0)) := by unfold Hid; rw [HR.out]; rfl
      have hbd := HB.out (k + 1)
      rw [HS.out] at hbd
      obtain ⟨x, hxe⟩ : ∃ x, x = zs.getD k 0 := ⟨_, rfl⟩
      obtain ⟨y, hye⟩ : ∃ y, y = bs.getD k 0 := ⟨_, rfl⟩
      rw [← hxe] at hx hcell HS hbd
      rw [← hye] at hcell2 HS hbd
      clear hxe hye
      obtain ⟨hx1, hx2⟩ := hx
      by_cases h0 : y = 0
      · have e : ((y : Int) == 0) = true := by simp [h0]
        have HG : Hid (Cv.sg y x = x) := by unfold Hid Cv.sg; rw [if_pos h0]
        rw [HG.out] at HS hbd
        obtain ⟨hbd1, hbd2⟩ := hbd
        clear h0
        go_wp2
        go_round
        case rel => exact ⟨k + 1, r + x, by omega, by go_num, rfl, by omega, by omega, HS.out.symm⟩
        case measure => simp [intOf] <;> omega
      · have e : ((y : Int) == 0) = false := by simp; omega
        have HG : Hid (Cv.sg y x = -x) := by unfold Hid Cv.sg; rw [if_neg h0]
        rw [HG.out] at HS hbd
        obtain ⟨hbd1, hbd2⟩ := hbd
        go_wp2
        go_round
        case rel => exact ⟨k + 1, r - x, by omega, by go_num, rfl, by omega, by omega, by unfold Hid; rw [HS.out]; omega⟩
        case measure => simp [intOf] <;> omega
    · go_wp2
      go_ret
      refine ⟨ret_int' ?_, rfl⟩
      unfold Cv.score
      rw [HR.out, ← HN.out, show k = n by omega]

theorem ret_ie {r s : Int} {e : Int} (h : r = s) : Ending.returned (.tuple #[.int .i64 r, .int .i64 e]) = .returned (.tuple #[.int .i64 s, .int .i64 e]) := by rw [h]

set_option maxHeartbeats 400000 in
/-- soft.Score, lists of one length, bits, numbers within the bounds. -/
theorem softScore (A A2 : Option Addr) (n c c2 : Nat) (zs : List Int) (bs : List Nat) (w : World) (hz : Rd w w.heap.size A n (I64 zs)) (hb : Rd w w.heap.size A2 n (U8 bs)) (hin : ∀ z ∈ zs, -31 ≤ z ∧ z ≤ 31) (hbit : ∀ x ∈ bs, x ≤ 1) (hn : n ≤ 65536) :
    Calls Tryd.prog 149 #[.slice A n c, .slice A2 n c2] w fun e w' => e = .returned (.tuple #[.int .i64 (Cv.score zs bs), .int .i64 0]) ∧ w = w' := by
  have HN := Lib.hid hz.len64
  have HB := Lib.hid (Cv.sc_bounds hin bs)
  have C1 := Lib.hid (right A2 n c2 bs w hb (bit256 hbit) hn)
  rw [Bm.isB_of hbit] at C1
  have C2 := Lib.hid (softWithin A n c zs w hz hn)
  rw [Cv.inB_of hin] at C2
  go_enter Tryd.func149, Tryd.ntmps149
  go_wp2_with (first | (go_at_call 57; refine C1.out.mono ?_; rintro e w' ⟨rfl, rfl⟩) | (go_at_call 165; refine C2.out.mono ?_; rintro e w' ⟨rfl, rfl⟩))
  clear C1 C2
  go_loop [6, 24] (fun s i => ∃ k : Nat, ∃ r : Int, k ≤ n ∧ i = .int .i64 k ∧ s = .int .i64 r ∧ -(31 * (k : Int)) ≤ r ∧ r ≤ 31 * (k : Int) ∧ Hid (r = Cv.scTo zs bs k)) (fun _ i => n - (intOf i).toNat)
  case atStart => exact ⟨0, 0, Nat.zero_le _, rfl, rfl, by omega, by omega, rfl⟩
  case round =>
    obtain ⟨k, r, hk, rfl, rfl, hr1, hr2, HR⟩ := hrel
    by_cases hlt : k < n
    · obtain ⟨b, off, rfl, hlt2, hcell⟩ := hz.cell64 k hlt
      obtain ⟨b', off', rfl, hlt3, hcell2⟩ := hb.cell8 k hlt
      have hx := Cv.inB_getD hin k
      have HS : Hid (Cv.scTo zs bs (k + 1) = r + Cv.sg (bs.getD k 0) (zs.getD k 0)) := by unfold Hid; rw [HR.out]; rfl
      have hbd := HB.out (k + 1)
      rw [HS.out] at hbd
      obtain ⟨x, hxe⟩ : ∃ x, x = zs.getD k 0 := ⟨_, rfl⟩
      obtain ⟨y, hye⟩ : ∃ y, y = bs.getD k 0 := ⟨_, rfl⟩
      rw [← hxe] at hx hcell HS hbd
      rw [← hye] at hcell2 HS hbd
      clear hxe hye
      obtain ⟨e1, e2⟩ := sg_of y x r (31 * (k : Int)) ⟨hr1, hr2⟩ hx (by omega)
      obtain ⟨o, ho⟩ : ∃ o : Int, o = (if y = 0 then 1 else -1) := ⟨_, rfl⟩
      have C3 := Lib.hid (softOf y w)
      rw [← ho] at C3 e1
      clear ho
      obtain ⟨g, hg⟩ : ∃ g : Int, g = Cv.sg y x := ⟨_, rfl⟩
      rw [← hg] at e1 e2 hbd HS
      clear hg
      obtain ⟨hbd1, hbd2⟩ := hbd
      go_wp2_with (go_at_call 59; refine C3.out.mono ?_; rintro e w' ⟨rfl, rfl⟩)
      go_round
      case rel => exact ⟨k + 1, r + g, by omega, by go_num, rfl, by omega, by omega, HS.out.symm⟩
      case measure => simp [intOf] <;> omega
    · go_wp2
      go_ret2
      refine ⟨ret_ie ?_, rfl⟩
      unfold Cv.score
      rw [HR.out, ← HN.out, show k = n by omega]
end Go.Proofs.YtknfpdlomgllhaaDoor

namespace Go.Proofs.YtknfpdlomgllhaaDoor
open Go.RowKit
set_option maxRecDepth 100000
set_option linter.unusedVariables false

/-- What a call gives that makes a []int. -/
def MadeI (w : World) (zs : List Int) (e : Ending) (w' : World) : Prop := ∃ A n c, e = .returned (.slice A n c) ∧ Own w' w.heap.size 3 A n c (I64 zs) ∧ Below w.heap.size w w'

set_option maxHeartbeats 400000 in
/-- soft.Add. -/
theorem softAdd (a b : Int) (w : World) : Calls Tryd.prog 58 #[.int .i64 a, .int .i64 b] w fun e w' => e = .returned (.int .i64 (Cv.clip (Cv.clip a + Cv.clip b))) ∧ w = w' := by
  obtain ⟨h1, h1'⟩ := Cv.clip_bounds a
  obtain ⟨h2, h2'⟩ := Cv.clip_bounds b
  go_enter Tryd.func58, Tryd.ntmps58
  go_wp2_with (go_at_call 98; refine (softClip _ _).mono ?_; rintro e w' ⟨rfl, rfl⟩)
  go_ret
  exact ⟨rfl, rfl⟩
set_option maxHeartbeats 400000 in
/-- The reference's Add. -/
theorem refAdd (a b : Int) (w : World) : Calls Tryd.prog 62 #[.int .i64 a, .int .i64 b] w fun e w' => e = .returned (.int .i64 (Cv.clip (Cv.clip a + Cv.clip b))) ∧ w = w' := by
  obtain ⟨h1, h1'⟩ := Cv.clip_bounds a
  obtain ⟨h2, h2'⟩ := Cv.clip_bounds b
  go_enter Tryd.func62, Tryd.ntmps62
  go_wp2_with (go_at_call 99; refine (refClip _ _).mono ?_; rintro e w' ⟨rfl, rfl⟩)
  go_ret
  exact ⟨rfl, rfl⟩
end Go.Proofs.YtknfpdlomgllhaaDoor
