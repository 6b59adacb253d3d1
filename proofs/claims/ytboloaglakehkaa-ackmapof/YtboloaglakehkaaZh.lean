/-
  The walk of AckmapOf.
-/
import Derived.Test.YtboloaglakehkaaZg
namespace Go.Proofs.Ytboloaglakehkaa
open Go.RowKit
set_option linter.unusedVariables false
set_option linter.unusedSimpArgs false

def np (base d : Int) : Nat := ((base + d) % 65536).toNat
theorem np_eq (base d : Int) : ((np base d : Nat) : Int) = (base + d) % 65536 := by unfold np; omega
theorem np_lt (base d : Int) : np base d < 65536 := by unfold np; omega
theorem np_neg (base d : Int) (h : -32767 ≤ d ∧ d < 0) : bf (np base d) base = true := by
  have e := np_eq base d
  exact bf_true (by omega) (by omega)
theorem np_pos (base d : Int) (h : 0 ≤ d ∧ d ≤ 32768) : bf (np base d) base = false ∧ (dsn base (np base d) : Int) = d := by
  have e := np_eq base d
  refine ⟨bf_false (by omega), ?_⟩
  rw [dsn_eq, e]
  omega
def c40 (z : Int) : Int := z.tmod 40
theorem c40_in (z : Int) : -39 ≤ c40 z ∧ c40 z ≤ 39 := by
  unfold c40
  have h1 := Int.lt_tmod_of_pos z (show (0 : Int) < 40 by omega)
  have h2 := Int.tmod_lt_of_pos z (show (0 : Int) < 40 by omega)
  omega
def cl2 (base : Int) (zs : List Int) : List Nat := zs.map fun z => np base (c40 z)
def farZ (zs : List Int) : Bool := zs.any fun z => decide (32 < c40 z)
def ownZ (zs : List Int) : Bool := zs.any fun z => decide (c40 z = 0)
def hasZ (zs : List Int) (j : Nat) : Bool := (decide (1 ≤ j) && decide (j ≤ 32)) && zs.any fun z => decide (c40 z = (j : Int))
theorem far_z (base : Int) (zs : List Int) : farA base (cl2 base zs) = farZ zs := by
  unfold farA cl2 farZ
  rw [List.any_map]
  congr 1
  funext z
  have hz := c40_in z
  show (!bf (np base (c40 z)) base && decide (32 < dsn base (np base (c40 z)))) = _
  by_cases h : c40 z < 0
  · rw [np_neg base _ ⟨by omega, h⟩, decide_eq_false (p := 32 < c40 z) (by omega)]; rfl
  · obtain ⟨h1, h2⟩ := np_pos base (c40 z) ⟨by omega, by omega⟩
    rw [h1]
    simp only [Bool.not_false, Bool.true_and, decide_eq_decide]
    omega
theorem own_z (base : Int) (zs : List Int) : ownA base (cl2 base zs) = ownZ zs := by
  unfold ownA cl2 ownZ
  rw [List.any_map]
  congr 1
  funext z
  have hz := c40_in z
  show decide (dsn base (np base (c40 z)) = 0) = _
  rw [decide_eq_decide]
  by_cases h : c40 z < 0
  · have e := np_eq base (c40 z)
    have e2 := dsn_eq base (np base (c40 z))
    omega
  · obtain ⟨h1, h2⟩ := np_pos base (c40 z) ⟨by omega, by omega⟩
    omega
theorem orl_bit (base : Int) (l : List Nat) (j : Nat) : (orl base l).testBit j = l.any fun a => !bf a base && decide (dsn base a = j + 1) := by
  have key : ∀ (l : List Nat) (m : Nat), (l.foldl (orS base) m).testBit j = (m.testBit j || l.any fun a => !bf a base && decide (dsn base a = j + 1)) := by
    intro l
    induction l with
    | nil => intro m; simp
    | cons a l ih =>
      intro m
      rw [List.foldl_cons, ih, List.any_cons, ← Bool.or_assoc]
      congr 1
      unfold orS
      split
      · rename_i h
        rcases h with h | h
        · rw [h]; simp
        · rw [decide_eq_false (p := dsn base a = j + 1) (by omega)]; simp
      · rename_i h
        have h1 : bf a base = false := by
          cases hc : bf a base with
          | true => exact absurd (.inl hc) h
          | false => rfl
        have h2 : dsn base a ≠ 0 := fun hc => h (.inr hc)
        rw [Nat.testBit_or, Nat.testBit_two_pow, h1]
        simp only [Bool.not_false, Bool.true_and]
        congr 1
        rw [decide_eq_decide]
        omega
  have := key l 0
  rw [Nat.zero_testBit, Bool.false_or] at this
  exact this
theorem bit_z (base : Int) (zs : List Int) (j : Nat) (h : 1 ≤ j ∧ j ≤ 32) : (orl base (cl2 base zs)).testBit (j - 1) = hasZ zs j := by
  rw [orl_bit]
  unfold cl2 hasZ
  rw [List.any_map, decide_eq_true h.1, decide_eq_true h.2, Bool.true_and, Bool.true_and]
  congr 1
  funext z
  have hz := c40_in z
  show (!bf (np base (c40 z)) base && decide (dsn base (np base (c40 z)) = j - 1 + 1)) = _
  by_cases hc : c40 z < 0
  · rw [np_neg base _ ⟨by omega, hc⟩, decide_eq_false (p := c40 z = (j : Int)) (by omega)]; rfl
  · obtain ⟨h1, h2⟩ := np_pos base (c40 z) ⟨by omega, by omega⟩
    rw [h1]
    simp only [Bool.not_false, Bool.true_and, decide_eq_decide]
    omega
/-- What is asked of the map. -/
theorem has_z (base : Int) (zs : List Int) (r : Nat) (hr : r ≤ 32) : hm base (orl base (cl2 base zs)) (np base r) = hasZ zs r := by
  obtain ⟨h1, h2⟩ := np_pos base r ⟨by omega, by omega⟩
  have e := dsn_eq base (np base r)
  by_cases h0 : r = 0
  · rw [hm_out h1 e (by omega)]
    unfold hasZ
    rw [h0]; rfl
  · rw [hm_in h1 e (by omega) (by omega), show dsn base (np base r) = r by omega]
    exact bit_z base zs r ⟨by omega, hr⟩
theorem anyI_take (f : Int → Bool) (l : List Int) (k : Nat) (h : k < l.length) : (l.take (k + 1)).any f = ((l.take k).any f || f (l.getD k 0)) := by
  rw [List.take_succ_eq_append_getElem h, List.any_append]
  simp [List.getD, h]
theorem cl2_take (base : Int) (zs : List Int) (k : Nat) (h : k < zs.length) : cl2 base (zs.take (k + 1)) = cl2 base (zs.take k) ++ [np base (c40 (zs.getD k 0))] := by
  unfold cl2
  rw [List.take_succ_eq_append_getElem h, List.map_append]
  simp [List.getD, h]
/-- Flags as cells. -/
def B33 (f : Nat → Bool) : Array Value := ((List.range 33).map fun i => Value.bool (f i)).toArray
theorem B33_size (f : Nat → Bool) : (B33 f).size = 33 := by simp [B33]
theorem B33_get (f : Nat → Bool) (i : Nat) (h : i < 33) : (B33 f)[i]? = some (.bool (f i)) := by simp [B33, h]
theorem B33_none : B33 (hasZ []) = B33 (fun _ => false) := by
  congr 1
  funext j
  simp [hasZ]
theorem B33_set (f : Nat → Bool) (d : Nat) (h : d < 33) : (B33 f).setIfInBounds d (.bool true) = B33 (fun j => f j || decide (d = j)) := by
  apply Array.ext_getElem?
  intro i
  by_cases hi : i < 33
  · rw [B33_get _ i hi, Array.getElem?_setIfInBounds]
    by_cases e : d = i
    · rw [if_pos e, if_pos (by rw [B33_size]; omega), decide_eq_true e, Bool.or_true]
    · rw [if_neg e, B33_get _ i hi, decide_eq_false e, Bool.or_false]
  · rw [Array.getElem?_eq_none (by rw [Array.size_setIfInBounds, B33_size]; omega), Array.getElem?_eq_none (by rw [B33_size]; omega)]
theorem hasZ_no (zs : List Int) (k : Nat) (h : k < zs.length) (hd : c40 (zs.getD k 0) < 1 ∨ 32 < c40 (zs.getD k 0)) : hasZ (zs.take (k + 1)) = hasZ (zs.take k) := by
  funext j
  unfold hasZ
  rw [anyI_take _ zs k h]
  by_cases hj : 1 ≤ j ∧ j ≤ 32
  · rw [decide_eq_false (p := c40 (zs.getD k 0) = (j : Int)) (by omega), Bool.or_false]
  · by_cases h1 : 1 ≤ j
    · rw [decide_eq_false (p := j ≤ 32) (by omega)]; simp
    · rw [decide_eq_false h1]; simp
theorem hasZ_yes (zs : List Int) (k d : Nat) (h : k < zs.length) (hd : c40 (zs.getD k 0) = (d : Int)) (hr : 1 ≤ d ∧ d ≤ 32) : hasZ (zs.take (k + 1)) = fun j => hasZ (zs.take k) j || decide (d = j) := by
  funext j
  unfold hasZ
  rw [anyI_take _ zs k h, hd]
  by_cases hj : d = j
  · subst hj
    rw [decide_eq_true hr.1, decide_eq_true hr.2]; simp
  · rw [decide_eq_false (p := (d : Int) = (j : Int)) (by omega), decide_eq_false hj, Bool.or_false, Bool.or_false]
theorem orl_lt2 {base : Int} {l : List Nat} (h : farA base l = false) : orl base l < 4294967296 := by
  have key : ∀ (l : List Nat) (m : Nat), farA base l = false → m < 4294967296 → l.foldl (orS base) m < 4294967296 := by
    intro l
    induction l with
    | nil => intro m _ hm; exact hm
    | cons a l ih =>
      intro m h hm
      unfold farA at h
      rw [List.any_cons, Bool.or_eq_false_iff] at h
      refine ih _ h.2 ?_
      by_cases hd : dsn base a ≤ 32
      · exact orS_lt hm hd
      · have h1 := h.1
        rw [decide_eq_true (by omega), Bool.and_true] at h1
        unfold orS
        rw [if_pos (.inl (by cases hc : bf a base with | true => rfl | false => rw [hc] at h1; cases h1))]
        exact hm
  exact key l 0 h (by omega)
theorem cl2_lt (base : Int) (zs : List Int) : ∀ a ∈ cl2 base zs, a < 65536 := by
  intro a ha
  obtain ⟨z, _, rfl⟩ := List.mem_map.1 ha
  exact np_lt _ _
theorem zeroHas : (Try.prog.info? 36).bind (fun i => i.zero.map (fun z => z.cells)) = some (B33 fun _ => false) := by kernel_rfl
theorem infoBool : (Try.prog.info? 4).map (·.size) = some 1 := by kernel_rfl
set_option maxHeartbeats 4000000 in
set_option maxRecDepth 100000 in
theorem ackmapOf (base : Int) (A : Option Addr) (n c : Nat) (zs : List Int) (ask : Int) (w : World) (hb : 0 ≤ base ∧ base < 65536) (hr : Rd w w.heap.size A n (I64 zs)) (hn : n ≤ 9223372036854775807) :
    Calls Try.prog 6 #[.int .u16 base, .slice A n c, .int .i64 ask] w fun e w' => e = .returned (.bool true) ∧ Below w.heap.size w w' := by
  have CM := Lib.hid mapsC
  have HN := Lib.hid hr.len64
  have wb : IntKind.i64.wrap base = base := IntWalk.i64_in _ (by omega)
  go_enter Try.func6, Try.ntmps6
  go_upto_region 5 with (refine at_alloc rfl 36 rfl (B33 fun _ => false) zeroHas ?_; intro w1 L1)
  have q10 := L1.row
  have bel1 := L1.bel
  have HW1 := Lib.hid (show w.heap.size ≤ w1.heap.size by rw [L1.size]; omega)
  have HGL0 := Lib.hid q10.lt
  obtain ⟨g10, hg10⟩ : ∃ g, g = w.heap.size := ⟨_, rfl⟩
  have HG10 : Hid (w.heap.size ≤ g10) := by unfold Hid; omega
  rw [← hg10] at q10 HGL0 ⊢
  have HGL : Hid (g10 < w1.heap.size) := HGL0.out
  have HGR : Hid (¬ w1.heap.size ≤ g10) := by have := HGL0.out; unfold Hid; omega
  rw [← B33_none] at q10
  clear L1 hg10 HGL0
  go_loopw [7, 8, 9, 11] (fun v f o i wr => ∃ (k : Nat) (A1 : Option Addr) (c1 : Nat) (F O : Bool), k ≤ n ∧ k ≤ 20 ∧ i = .int .i64 (k : Int) ∧ v = .slice A1 k c1 ∧ f = .bool F ∧ o = .bool O ∧ Own wr w1.heap.size 23 A1 k c1 (N16 (cl2 base (zs.take k))) ∧ Blk wr g10 36 (B33 (hasZ (zs.take k))) ∧ Hid (F = farZ (zs.take k)) ∧ Hid (O = ownZ (zs.take k)) ∧ Below w.heap.size w wr ∧ w1.heap.size ≤ wr.heap.size) (fun _ _ _ i _ => 20 - (intOf i).toNat)
  case atStart => exact ⟨0, none, 0, false, false, Nat.zero_le _, by omega, rfl, rfl, rfl, rfl, Own.nil _ _ _, q10, rfl, rfl, bel1, Nat.le_refl _⟩
  case round =>
    clear q10 bel1
    obtain ⟨k, A1, c1, F, O, hk, hk20, rfl, rfl, rfl, rfl, own, q10, HF, HO, bel, hsz⟩ := hrel
    by_cases hlt : k < n ∧ k < 20
    · obtain ⟨hl1, hl2⟩ := hlt
      have hlz : k < zs.length := by rw [← HN.out]; exact hl1
      obtain ⟨b, off, rfl, hlt2, hcell⟩ := (hr.below bel).cell64 k hl1
      have HT := Lib.hid (cl2_take base zs k hlz)
      have HF1 : Hid (farZ (zs.take (k + 1)) = (F || decide (32 < c40 (zs.getD k 0)))) := by unfold Hid; rw [HF.out]; exact anyI_take _ zs k hlz
      have HO1 : Hid (ownZ (zs.take (k + 1)) = (O || decide (c40 (zs.getD k 0) = 0))) := by unfold Hid; rw [HO.out]; exact anyI_take _ zs k hlz
      obtain ⟨z, hz⟩ : ∃ z, z = zs.getD k 0 := ⟨_, rfl⟩
      have HDZ0 : Hid (c40 z = c40 (zs.getD k 0)) := by unfold Hid; rw [hz]
      rw [← hz] at HT HF1 HO1 hcell
      clear hz HF HO
      have hcz := c40_in z
      have e1 : z.tmod 40 = c40 z := rfl
      have C1 := Lib.hid (fun W => refPlus base (c40 z) W hb (by omega))
      rw [← np_eq] at C1
      obtain ⟨d, hd⟩ : ∃ d, d = c40 z := ⟨_, rfl⟩
      rw [← hd] at C1 HT HF1 HO1 hcz e1
      have HDZ : Hid (d = c40 (zs.getD k 0)) := hd.trans HDZ0.out
      clear hd HDZ0
      obtain ⟨a, ha⟩ : ∃ a, a = np base d := ⟨_, rfl⟩
      rw [← ha] at C1 HT
      have ha16 : a < 65536 := by rw [ha]; exact np_lt _ _
      have e2 : IntKind.u16.wrap (a : Int) = (a : Int) := by rw [wrap_u16]; omega
      clear ha
      by_cases hd0 : d = 0
      · subst hd0
        have dF : decide ((32 : Int) < 0) = false := rfl
        have dO : decide ((0 : Int) = 0) = true := rfl
        have e5 : ((0 : Int) == 0) = true := rfl
        have e6 : ((0 : Int) == 0) = true := rfl
        have HH := Lib.hid (hasZ_no zs k hlz (by rw [← HDZ.out]; omega))
        cases F with
        | true =>
          cases O with
          | true =>
            go_wp2_with (first | (go_at_call 11; refine (C1.out _).mono ?_; rintro e w' ⟨rfl, rfl⟩) | (at_builtin; refine app16 _ rfl _ _ rfl w1.heap.size _ _ _ _ a _ rfl rfl own rfl (by omega) hsz ?_; intro A6 c6 w6 own6 hgr6; have q6 := q10.grown hgr6 (fun e => HGR.out (own.block g10 e).1)))
            go_roundw
            case rel =>
              have be6 : Below w.heap.size w w6 := bel.grown hgr6 bel.size (fun j hj => by have := (own.block j hj).1; have := HW1.out; omega)
              exact ⟨k + 1, A6, c6, true, true, by omega, by omega, by go_num, rfl, (by first | rfl | rw [e6]), (by first | rfl | rw [e5]), (by rw [HT.out]; exact own6), (by rw [HH.out]; exact q6), by unfold Hid; rw [HF1.out, dF]; rfl, by unfold Hid; rw [HO1.out, dO]; rfl, be6, Nat.le_trans hsz hgr6.size⟩
            case measure => simp [intOf] <;> omega
          | false =>
            go_wp2_with (first | (go_at_call 11; refine (C1.out _).mono ?_; rintro e w' ⟨rfl, rfl⟩) | (at_builtin; refine app16 _ rfl _ _ rfl w1.heap.size _ _ _ _ a _ rfl rfl own rfl (by omega) hsz ?_; intro A6 c6 w6 own6 hgr6; have q6 := q10.grown hgr6 (fun e => HGR.out (own.block g10 e).1)))
            go_roundw
            case rel =>
              have be6 : Below w.heap.size w w6 := bel.grown hgr6 bel.size (fun j hj => by have := (own.block j hj).1; have := HW1.out; omega)
              exact ⟨k + 1, A6, c6, true, true, by omega, by omega, by go_num, rfl, (by first | rfl | rw [e6]), (by first | rfl | rw [e5]), (by rw [HT.out]; exact own6), (by rw [HH.out]; exact q6), by unfold Hid; rw [HF1.out, dF]; rfl, by unfold Hid; rw [HO1.out, dO]; rfl, be6, Nat.le_trans hsz hgr6.size⟩
            case measure => simp [intOf] <;> omega
        | false =>
          cases O with
          | true =>
            go_wp2_with (first | (go_at_call 11; refine (C1.out _).mono ?_; rintro e w' ⟨rfl, rfl⟩) | (at_builtin; refine app16 _ rfl _ _ rfl w1.heap.size _ _ _ _ a _ rfl rfl own rfl (by omega) hsz ?_; intro A6 c6 w6 own6 hgr6; have q6 := q10.grown hgr6 (fun e => HGR.out (own.block g10 e).1)))
            go_roundw
            case rel =>
              have be6 : Below w.heap.size w w6 := bel.grown hgr6 bel.size (fun j hj => by have := (own.block j hj).1; have := HW1.out; omega)
              exact ⟨k + 1, A6, c6, false, true, by omega, by omega, by go_num, rfl, (by first | rfl | rw [e6]), (by first | rfl | rw [e5]), (by rw [HT.out]; exact own6), (by rw [HH.out]; exact q6), by unfold Hid; rw [HF1.out, dF]; rfl, by unfold Hid; rw [HO1.out, dO]; rfl, be6, Nat.le_trans hsz hgr6.size⟩
            case measure => simp [intOf] <;> omega
          | false =>
            go_wp2_with (first | (go_at_call 11; refine (C1.out _).mono ?_; rintro e w' ⟨rfl, rfl⟩) | (at_builtin; refine app16 _ rfl _ _ rfl w1.heap.size _ _ _ _ a _ rfl rfl own rfl (by omega) hsz ?_; intro A6 c6 w6 own6 hgr6; have q6 := q10.grown hgr6 (fun e => HGR.out (own.block g10 e).1)))
            go_roundw
            case rel =>
              have be6 : Below w.heap.size w w6 := bel.grown hgr6 bel.size (fun j hj => by have := (own.block j hj).1; have := HW1.out; omega)
              exact ⟨k + 1, A6, c6, false, true, by omega, by omega, by go_num, rfl, (by first | rfl | rw [e6]), (by first | rfl | rw [e5]), (by rw [HT.out]; exact own6), (by rw [HH.out]; exact q6), by unfold Hid; rw [HF1.out, dF]; rfl, by unfold Hid; rw [HO1.out, dO]; rfl, be6, Nat.le_trans hsz hgr6.size⟩
            case measure => simp [intOf] <;> omega
      · have dO : decide (d = 0) = false := decide_eq_false hd0
        have e5 : (d == 0) = false := beq_false_of_ne hd0
        have e6 : (d == 0) = false := beq_false_of_ne hd0
        by_cases hneg : d < 0
        · have dF : decide (32 < d) = false := decide_eq_false (by omega)
          have HH := Lib.hid (hasZ_no zs k hlz (by rw [← HDZ.out]; omega))
          cases F with
          | true =>
            cases O with
            | true =>
              go_wp2_with (first | (go_at_call 11; refine (C1.out _).mono ?_; rintro e w' ⟨rfl, rfl⟩) | (at_builtin; refine app16 _ rfl _ _ rfl w1.heap.size _ _ _ _ a _ rfl rfl own rfl (by omega) hsz ?_; intro A6 c6 w6 own6 hgr6; have q6 := q10.grown hgr6 (fun e => HGR.out (own.block g10 e).1)))
              go_roundw
              case rel =>
                have be6 : Below w.heap.size w w6 := bel.grown hgr6 bel.size (fun j hj => by have := (own.block j hj).1; have := HW1.out; omega)
                exact ⟨k + 1, A6, c6, true, true, by omega, by omega, by go_num, rfl, (by first | rfl | rw [e6]), (by first | rfl | rw [e5]), (by rw [HT.out]; exact own6), (by rw [HH.out]; exact q6), by unfold Hid; rw [HF1.out, dF]; rfl, by unfold Hid; rw [HO1.out, dO]; rfl, be6, Nat.le_trans hsz hgr6.size⟩
              case measure => simp [intOf] <;> omega
            | false =>
              go_wp2_with (first | (go_at_call 11; refine (C1.out _).mono ?_; rintro e w' ⟨rfl, rfl⟩) | (at_builtin; refine app16 _ rfl _ _ rfl w1.heap.size _ _ _ _ a _ rfl rfl own rfl (by omega) hsz ?_; intro A6 c6 w6 own6 hgr6; have q6 := q10.grown hgr6 (fun e => HGR.out (own.block g10 e).1)))
              go_roundw
              case rel =>
                have be6 : Below w.heap.size w w6 := bel.grown hgr6 bel.size (fun j hj => by have := (own.block j hj).1; have := HW1.out; omega)
                exact ⟨k + 1, A6, c6, true, false, by omega, by omega, by go_num, rfl, (by first | rfl | rw [e6]), (by first | rfl | rw [e5]), (by rw [HT.out]; exact own6), (by rw [HH.out]; exact q6), by unfold Hid; rw [HF1.out, dF]; rfl, by unfold Hid; rw [HO1.out, dO]; rfl, be6, Nat.le_trans hsz hgr6.size⟩
              case measure => simp [intOf] <;> omega
          | false =>
            cases O with
            | true =>
              go_wp2_with (first | (go_at_call 11; refine (C1.out _).mono ?_; rintro e w' ⟨rfl, rfl⟩) | (at_builtin; refine app16 _ rfl _ _ rfl w1.heap.size _ _ _ _ a _ rfl rfl own rfl (by omega) hsz ?_; intro A6 c6 w6 own6 hgr6; have q6 := q10.grown hgr6 (fun e => HGR.out (own.block g10 e).1)))
              go_roundw
              case rel =>
                have be6 : Below w.heap.size w w6 := bel.grown hgr6 bel.size (fun j hj => by have := (own.block j hj).1; have := HW1.out; omega)
                exact ⟨k + 1, A6, c6, false, true, by omega, by omega, by go_num, rfl, (by first | rfl | rw [e6]), (by first | rfl | rw [e5]), (by rw [HT.out]; exact own6), (by rw [HH.out]; exact q6), by unfold Hid; rw [HF1.out, dF]; rfl, by unfold Hid; rw [HO1.out, dO]; rfl, be6, Nat.le_trans hsz hgr6.size⟩
              case measure => simp [intOf] <;> omega
            | false =>
              go_wp2_with (first | (go_at_call 11; refine (C1.out _).mono ?_; rintro e w' ⟨rfl, rfl⟩) | (at_builtin; refine app16 _ rfl _ _ rfl w1.heap.size _ _ _ _ a _ rfl rfl own rfl (by omega) hsz ?_; intro A6 c6 w6 own6 hgr6; have q6 := q10.grown hgr6 (fun e => HGR.out (own.block g10 e).1)))
              go_roundw
              case rel =>
                have be6 : Below w.heap.size w w6 := bel.grown hgr6 bel.size (fun j hj => by have := (own.block j hj).1; have := HW1.out; omega)
                exact ⟨k + 1, A6, c6, false, false, by omega, by omega, by go_num, rfl, (by first | rfl | rw [e6]), (by first | rfl | rw [e5]), (by rw [HT.out]; exact own6), (by rw [HH.out]; exact q6), by unfold Hid; rw [HF1.out, dF]; rfl, by unfold Hid; rw [HO1.out, dO]; rfl, be6, Nat.le_trans hsz hgr6.size⟩
              case measure => simp [intOf] <;> omega
        · by_cases hfar : 32 < d
          · have dF : decide (32 < d) = true := decide_eq_true hfar
            have HH := Lib.hid (hasZ_no zs k hlz (by rw [← HDZ.out]; omega))
            cases F with
            | true =>
              cases O with
              | true =>
                go_wp2_with (first | (go_at_call 11; refine (C1.out _).mono ?_; rintro e w' ⟨rfl, rfl⟩) | (at_builtin; refine app16 _ rfl _ _ rfl w1.heap.size _ _ _ _ a _ rfl rfl own rfl (by omega) hsz ?_; intro A6 c6 w6 own6 hgr6; have q6 := q10.grown hgr6 (fun e => HGR.out (own.block g10 e).1)))
                go_roundw
                case rel =>
                  have be6 : Below w.heap.size w w6 := bel.grown hgr6 bel.size (fun j hj => by have := (own.block j hj).1; have := HW1.out; omega)
                  exact ⟨k + 1, A6, c6, true, true, by omega, by omega, by go_num, rfl, (by first | rfl | rw [e6]), (by first | rfl | rw [e5]), (by rw [HT.out]; exact own6), (by rw [HH.out]; exact q6), by unfold Hid; rw [HF1.out, dF]; rfl, by unfold Hid; rw [HO1.out, dO]; rfl, be6, Nat.le_trans hsz hgr6.size⟩
                case measure => simp [intOf] <;> omega
              | false =>
                go_wp2_with (first | (go_at_call 11; refine (C1.out _).mono ?_; rintro e w' ⟨rfl, rfl⟩) | (at_builtin; refine app16 _ rfl _ _ rfl w1.heap.size _ _ _ _ a _ rfl rfl own rfl (by omega) hsz ?_; intro A6 c6 w6 own6 hgr6; have q6 := q10.grown hgr6 (fun e => HGR.out (own.block g10 e).1)))
                go_roundw
                case rel =>
                  have be6 : Below w.heap.size w w6 := bel.grown hgr6 bel.size (fun j hj => by have := (own.block j hj).1; have := HW1.out; omega)
                  exact ⟨k + 1, A6, c6, true, false, by omega, by omega, by go_num, rfl, (by first | rfl | rw [e6]), (by first | rfl | rw [e5]), (by rw [HT.out]; exact own6), (by rw [HH.out]; exact q6), by unfold Hid; rw [HF1.out, dF]; rfl, by unfold Hid; rw [HO1.out, dO]; rfl, be6, Nat.le_trans hsz hgr6.size⟩
                case measure => simp [intOf] <;> omega
            | false =>
              cases O with
              | true =>
                go_wp2_with (first | (go_at_call 11; refine (C1.out _).mono ?_; rintro e w' ⟨rfl, rfl⟩) | (at_builtin; refine app16 _ rfl _ _ rfl w1.heap.size _ _ _ _ a _ rfl rfl own rfl (by omega) hsz ?_; intro A6 c6 w6 own6 hgr6; have q6 := q10.grown hgr6 (fun e => HGR.out (own.block g10 e).1)))
                go_roundw
                case rel =>
                  have be6 : Below w.heap.size w w6 := bel.grown hgr6 bel.size (fun j hj => by have := (own.block j hj).1; have := HW1.out; omega)
                  exact ⟨k + 1, A6, c6, true, true, by omega, by omega, by go_num, rfl, (by first | rfl | rw [e6]), (by first | rfl | rw [e5]), (by rw [HT.out]; exact own6), (by rw [HH.out]; exact q6), by unfold Hid; rw [HF1.out, dF]; rfl, by unfold Hid; rw [HO1.out, dO]; rfl, be6, Nat.le_trans hsz hgr6.size⟩
                case measure => simp [intOf] <;> omega
              | false =>
                go_wp2_with (first | (go_at_call 11; refine (C1.out _).mono ?_; rintro e w' ⟨rfl, rfl⟩) | (at_builtin; refine app16 _ rfl _ _ rfl w1.heap.size _ _ _ _ a _ rfl rfl own rfl (by omega) hsz ?_; intro A6 c6 w6 own6 hgr6; have q6 := q10.grown hgr6 (fun e => HGR.out (own.block g10 e).1)))
                go_roundw
                case rel =>
                  have be6 : Below w.heap.size w w6 := bel.grown hgr6 bel.size (fun j hj => by have := (own.block j hj).1; have := HW1.out; omega)
                  exact ⟨k + 1, A6, c6, true, false, by omega, by omega, by go_num, rfl, (by first | rfl | rw [e6]), (by first | rfl | rw [e5]), (by rw [HT.out]; exact own6), (by rw [HH.out]; exact q6), by unfold Hid; rw [HF1.out, dF]; rfl, by unfold Hid; rw [HO1.out, dO]; rfl, be6, Nat.le_trans hsz hgr6.size⟩
                case measure => simp [intOf] <;> omega
          · have dF : decide (32 < d) = false := decide_eq_false hfar
            obtain ⟨D, hD⟩ : ∃ D : Nat, d = (D : Int) := ⟨d.toNat, by omega⟩
            have HH := Lib.hid (hasZ_yes zs k D hlz (by rw [← HDZ.out, hD]) (by omega))
            subst hD
            have hD1 : 1 ≤ D := by omega
            have hD2 : D ≤ 32 := by omega
            cases F with
            | true =>
              cases O with
              | true =>
                go_wp2_with (first | (go_at_call 11; refine (C1.out _).mono ?_; rintro e w' ⟨rfl, rfl⟩) | (at_builtin; refine app16 _ rfl _ _ rfl w1.heap.size _ _ _ _ a _ rfl rfl own rfl (by omega) hsz ?_; intro A6 c6 w6 own6 hgr6; have q6 := q10.grown hgr6 (fun e => HGR.out (own.block g10 e).1)) | (refine at_cell rfl 4 _ _ rfl g10 D (.bool true) rfl rfl 36 _ q6 (by rw [B33_size]; omega) infoBool rfl ?_; intro w7 h7))
                go_roundw
                case rel =>
                  have be6 : Below w.heap.size w w6 := bel.grown hgr6 bel.size (fun j hj => by have := (own.block j hj).1; have := HW1.out; omega)
                  exact ⟨k + 1, A6, c6, true, true, by omega, by omega, by go_num, rfl, (by first | rfl | rw [e6]), (by first | rfl | rw [e5]), (by rw [HT.out]; exact own6.upd h7 HGL.out), (by rw [HH.out, ← B33_set _ D (by omega)]; exact h7.row), by unfold Hid; rw [HF1.out, dF]; rfl, by unfold Hid; rw [HO1.out, dO]; rfl, be6.trans (h7.below HG10.out), Nat.le_trans (Nat.le_trans hsz hgr6.size) (by rw [h7.size]; exact Nat.le_refl _)⟩
                case measure => simp [intOf] <;> omega
              | false =>
                go_wp2_with (first | (go_at_call 11; refine (C1.out _).mono ?_; rintro e w' ⟨rfl, rfl⟩) | (at_builtin; refine app16 _ rfl _ _ rfl w1.heap.size _ _ _ _ a _ rfl rfl own rfl (by omega) hsz ?_; intro A6 c6 w6 own6 hgr6; have q6 := q10.grown hgr6 (fun e => HGR.out (own.block g10 e).1)) | (refine at_cell rfl 4 _ _ rfl g10 D (.bool true) rfl rfl 36 _ q6 (by rw [B33_size]; omega) infoBool rfl ?_; intro w7 h7))
                go_roundw
                case rel =>
                  have be6 : Below w.heap.size w w6 := bel.grown hgr6 bel.size (fun j hj => by have := (own.block j hj).1; have := HW1.out; omega)
                  exact ⟨k + 1, A6, c6, true, false, by omega, by omega, by go_num, rfl, (by first | rfl | rw [e6]), (by first | rfl | rw [e5]), (by rw [HT.out]; exact own6.upd h7 HGL.out), (by rw [HH.out, ← B33_set _ D (by omega)]; exact h7.row), by unfold Hid; rw [HF1.out, dF]; rfl, by unfold Hid; rw [HO1.out, dO]; rfl, be6.trans (h7.below HG10.out), Nat.le_trans (Nat.le_trans hsz hgr6.size) (by rw [h7.size]; exact Nat.le_refl _)⟩
                case measure => simp [intOf] <;> omega
            | false =>
              cases O with
              | true =>
                go_wp2_with (first | (go_at_call 11; refine (C1.out _).mono ?_; rintro e w' ⟨rfl, rfl⟩) | (at_builtin; refine app16 _ rfl _ _ rfl w1.heap.size _ _ _ _ a _ rfl rfl own rfl (by omega) hsz ?_; intro A6 c6 w6 own6 hgr6; have q6 := q10.grown hgr6 (fun e => HGR.out (own.block g10 e).1)) | (refine at_cell rfl 4 _ _ rfl g10 D (.bool true) rfl rfl 36 _ q6 (by rw [B33_size]; omega) infoBool rfl ?_; intro w7 h7))
                go_roundw
                case rel =>
                  have be6 : Below w.heap.size w w6 := bel.grown hgr6 bel.size (fun j hj => by have := (own.block j hj).1; have := HW1.out; omega)
                  exact ⟨k + 1, A6, c6, false, true, by omega, by omega, by go_num, rfl, (by first | rfl | rw [e6]), (by first | rfl | rw [e5]), (by rw [HT.out]; exact own6.upd h7 HGL.out), (by rw [HH.out, ← B33_set _ D (by omega)]; exact h7.row), by unfold Hid; rw [HF1.out, dF]; rfl, by unfold Hid; rw [HO1.out, dO]; rfl, be6.trans (h7.below HG10.out), Nat.le_trans (Nat.le_trans hsz hgr6.size) (by rw [h7.size]; exact Nat.le_refl _)⟩
                case measure => simp [intOf] <;> omega
              | false =>
                go_wp2_with (first | (go_at_call 11; refine (C1.out _).mono ?_; rintro e w' ⟨rfl, rfl⟩) | (at_builtin; refine app16 _ rfl _ _ rfl w1.heap.size _ _ _ _ a _ rfl rfl own rfl (by omega) hsz ?_; intro A6 c6 w6 own6 hgr6; have q6 := q10.grown hgr6 (fun e => HGR.out (own.block g10 e).1)) | (refine at_cell rfl 4 _ _ rfl g10 D (.bool true) rfl rfl 36 _ q6 (by rw [B33_size]; omega) infoBool rfl ?_; intro w7 h7))
                go_roundw
                case rel =>
                  have be6 : Below w.heap.size w w6 := bel.grown hgr6 bel.size (fun j hj => by have := (own.block j hj).1; have := HW1.out; omega)
                  exact ⟨k + 1, A6, c6, false, false, by omega, by omega, by go_num, rfl, (by first | rfl | rw [e6]), (by first | rfl | rw [e5]), (by rw [HT.out]; exact own6.upd h7 HGL.out), (by rw [HH.out, ← B33_set _ D (by omega)]; exact h7.row), by unfold Hid; rw [HF1.out, dF]; rfl, by unfold Hid; rw [HO1.out, dO]; rfl, be6.trans (h7.below HG10.out), Nat.le_trans (Nat.le_trans hsz hgr6.size) (by rw [h7.size]; exact Nat.le_refl _)⟩
                case measure => simp [intOf] <;> omega
    · have HFA : Hid (farA base (cl2 base (zs.take k)) = F) := (far_z base _).trans HF.out.symm
      have HOA : Hid (ownA base (cl2 base (zs.take k)) = O) := (own_z base _).trans HO.out.symm
      have HLT := Lib.hid (cl2_lt base (zs.take k))
      have HZ : Hid (∀ r : Nat, r ≤ 32 → hm base (orl base (cl2 base (zs.take k))) (np base r) = hasZ (zs.take k) r) := fun r hr => has_z base (zs.take k) r hr
      clear HF HO
      generalize hasZ (zs.take k) = H at *
      generalize cl2 base (zs.take k) = L at *
      have rd := own.rd
      have HLL := Lib.hid rd.len16
      have hnone := own.none_
      obtain ⟨i0, hi0, hz0, hz1, hz2⟩ := info_parts infoNum
      have o5 : Own (wr.alloc (.cells #[] 23)) wr.heap.size 23 (some ⟨wr.heap.size, 0, none⟩) 0 0 [] := ⟨World.ownsRow_made wr #[] 0 (Nat.le_refl _) (by unfold maxLen; omega) (by simp)⟩
      have be5 : Below wr.heap.size wr (wr.alloc (.cells #[] 23)) := (Below.refl _ _).alloc (Nat.le_refl _) _
      have rd5 := rd.below be5
      have hs5 := be5.size
      have CF := Lib.hid (fun (W : World) (h : Below wr.heap.size wr W) => ofC A1 k c1 L base W (own.rdOf h) HLT.out (by omega) hb)
      by_cases hkn : k < n
      · have h20 : ¬ k < 20 := fun h => hlt ⟨hkn, h⟩
        clear hlt
        cases F with
        | true =>
          have HV : Hid (ofV base L = mv 0 0) := by unfold Hid ofV; rw [if_pos (.inl HFA.out)]
          have HE : Hid (ofE base L = 11) := by unfold Hid ofE; rw [if_pos HFA.out]
          rw [HV.out, HE.out] at CF
          go_upto_region 14 with (at_builtin; refine wpList_app _ rfl _ _ 35 rfl wr.heap.size 23 i0 _ 2 Try.underlying35 hi0 hz0 hz1 hz2 rfl _ 0 0 [] rfl o5 wr.heap.size A1 k c1 (N16 L) rfl rd5 hnone (N16_one L) (by omega) (by unfold maxLen; omega) hs5 ?_; intro A6 c6 w6 own6' hgr6; have own6 := own6'.to (Nat.zero_add k) (List.nil_append (N16 L)); rw [Nat.zero_add])
          have be6 : Below wr.heap.size wr w6 := be5.grown hgr6 hs5 (fun j hj => by simp [Value.ownBlock] at hj; omega)
          go_upto_region 18 with (first | (go_at_call 16; refine (CF.out _ be6).mono ?_; rintro e w8 ⟨rfl, be8⟩) | (refine at_alloc rfl 39 rfl (mv 0 0) zeroMap ?_; intro w9 L9) | (refine at_store rfl 39 _ _ rfl w8.heap.size (mv 0 0) rfl rfl 39 _ L9.row (infoMap _ _) rfl (mv_all _ _) ?_; intro w10 L10) | (go_at_call 17; refine (CM.out _).mono ?_; rintro e w11 ⟨rfl, be11⟩))
          have be10 : Below w6.heap.size w6 w10 := (Below.then_ be8 L9.bel).trans (L10.below be8.size)
          have be12 : Below w6.heap.size w6 w11 := Below.then_ be10 be11
          have q15 : Blk w11 w8.heap.size 39 (mv 0 0) := (L10.row : Blk w10 w8.heap.size 39 (mv 0 0)).after be11
          have be13 : Below wr.heap.size wr w11 := Below.then_ be6 be12
          have rdl : Rd w11 w11.heap.size A1 k (N16 L) := own.rdOf be13
          have rdw : Rd w11 w11.heap.size A6 k (N16 L) := own6.rdOf be12
          have q10b := q10.after be13
          have bel13 := bel.trans (be13.mono bel.size)
          obtain ⟨g15, hg15⟩ : ∃ g, g = w8.heap.size := ⟨_, rfl⟩
          rw [← hg15] at q15 ⊢
          clear L9 L10 hg15 be8 be10 be11 be12 be13 be6 hgr6 own6 own6' CF CM own q10 bel hi0 hz0 hz1 hz2 o5 be5 rd5 hs5 rd
          obtain ⟨wo, rfl⟩ : ∃ wo : World, wo = wr := ⟨_, rfl⟩
          go_loopw [17] (fun i wr => ∃ j : Nat, j ≤ k ∧ i = .int .i64 (j : Int) ∧ Below w11.heap.size w11 wr) (fun i _ => k - (intOf i).toNat)
          case atStart => exact ⟨0, Nat.zero_le _, rfl, Below.refl _ _⟩
          case round =>
            obtain ⟨j, hj, rfl, belr⟩ := hrel
            by_cases hlt3 : j < k
            · obtain ⟨b1, o1, rfl, hb1, hcl⟩ := (rdl.below belr).cell16 j hlt3
              obtain ⟨b2, o2, rfl, hb2, hcw⟩ := (rdw.below belr).cell16 j hlt3
              generalize L.getD j 0 = x at *
              go_wp2_with fail
              go_quiet (fail)
              go_wp2
              go_roundw
              case rel => exact ⟨j + 1, by omega, by go_num, belr.trans (below_drawn _)⟩
              case measure => simp [intOf] <;> omega
            · have q15r := q15.after belr
              have q10r := q10b.after belr
              have beln := bel13.trans (belr.mono bel13.size)
              go_wp2_with (first | (refine at_load_g rfl 39 _ rfl g15 rfl 39 (mv 0 0) _ q15r Try.underlying39 rfl (infoMap _ _) ?_) | (refine at_eq rfl .eql 39 _ _ _ rfl (mv 0 0) (mv 0 0) rfl rfl mapGuard (.bool true) (mapEq 0 0 0 0 true rfl) ?_))
              go_ret
              exact ⟨rfl, beln⟩
        | false =>
          cases O with
          | true =>
            have HV : Hid (ofV base L = mv 0 0) := by unfold Hid ofV; rw [if_pos (.inr HOA.out)]
            have HE : Hid (ofE base L = 13) := by unfold Hid ofE; rw [HFA.out, if_neg (by simp), if_pos HOA.out]
            rw [HV.out, HE.out] at CF
            go_upto_region 14 with (at_builtin; refine wpList_app _ rfl _ _ 35 rfl wr.heap.size 23 i0 _ 2 Try.underlying35 hi0 hz0 hz1 hz2 rfl _ 0 0 [] rfl o5 wr.heap.size A1 k c1 (N16 L) rfl rd5 hnone (N16_one L) (by omega) (by unfold maxLen; omega) hs5 ?_; intro A6 c6 w6 own6' hgr6; have own6 := own6'.to (Nat.zero_add k) (List.nil_append (N16 L)); rw [Nat.zero_add])
            have be6 : Below wr.heap.size wr w6 := be5.grown hgr6 hs5 (fun j hj => by simp [Value.ownBlock] at hj; omega)
            go_upto_region 18 with (first | (go_at_call 16; refine (CF.out _ be6).mono ?_; rintro e w8 ⟨rfl, be8⟩) | (refine at_alloc rfl 39 rfl (mv 0 0) zeroMap ?_; intro w9 L9) | (refine at_store rfl 39 _ _ rfl w8.heap.size (mv 0 0) rfl rfl 39 _ L9.row (infoMap _ _) rfl (mv_all _ _) ?_; intro w10 L10) | (go_at_call 17; refine (CM.out _).mono ?_; rintro e w11 ⟨rfl, be11⟩))
            have be10 : Below w6.heap.size w6 w10 := (Below.then_ be8 L9.bel).trans (L10.below be8.size)
            have be12 : Below w6.heap.size w6 w11 := Below.then_ be10 be11
            have q15 : Blk w11 w8.heap.size 39 (mv 0 0) := (L10.row : Blk w10 w8.heap.size 39 (mv 0 0)).after be11
            have be13 : Below wr.heap.size wr w11 := Below.then_ be6 be12
            have rdl : Rd w11 w11.heap.size A1 k (N16 L) := own.rdOf be13
            have rdw : Rd w11 w11.heap.size A6 k (N16 L) := own6.rdOf be12
            have q10b := q10.after be13
            have bel13 := bel.trans (be13.mono bel.size)
            obtain ⟨g15, hg15⟩ : ∃ g, g = w8.heap.size := ⟨_, rfl⟩
            rw [← hg15] at q15 ⊢
            clear L9 L10 hg15 be8 be10 be11 be12 be13 be6 hgr6 own6 own6' CF CM own q10 bel hi0 hz0 hz1 hz2 o5 be5 rd5 hs5 rd
            obtain ⟨wo, rfl⟩ : ∃ wo : World, wo = wr := ⟨_, rfl⟩
            go_loopw [17] (fun i wr => ∃ j : Nat, j ≤ k ∧ i = .int .i64 (j : Int) ∧ Below w11.heap.size w11 wr) (fun i _ => k - (intOf i).toNat)
            case atStart => exact ⟨0, Nat.zero_le _, rfl, Below.refl _ _⟩
            case round =>
              obtain ⟨j, hj, rfl, belr⟩ := hrel
              by_cases hlt3 : j < k
              · obtain ⟨b1, o1, rfl, hb1, hcl⟩ := (rdl.below belr).cell16 j hlt3
                obtain ⟨b2, o2, rfl, hb2, hcw⟩ := (rdw.below belr).cell16 j hlt3
                generalize L.getD j 0 = x at *
                go_wp2_with fail
                go_quiet (fail)
                go_wp2
                go_roundw
                case rel => exact ⟨j + 1, by omega, by go_num, belr.trans (below_drawn _)⟩
                case measure => simp [intOf] <;> omega
              · have q15r := q15.after belr
                have q10r := q10b.after belr
                have beln := bel13.trans (belr.mono bel13.size)
                go_wp2_with (first | (refine at_load_g rfl 39 _ rfl g15 rfl 39 (mv 0 0) _ q15r Try.underlying39 rfl (infoMap _ _) ?_) | (refine at_eq rfl .eql 39 _ _ _ rfl (mv 0 0) (mv 0 0) rfl rfl mapGuard (.bool true) (mapEq 0 0 0 0 true rfl) ?_))
                go_ret
                exact ⟨rfl, beln⟩
          | false =>
            have HV : Hid (ofV base L = mv base (orl base L)) := by unfold Hid ofV; rw [if_neg (by rw [HFA.out, HOA.out]; simp)]
            have HE : Hid (ofE base L = 0) := by unfold Hid ofE; rw [HFA.out, if_neg (by simp), HOA.out, if_neg (by simp)]
            rw [HV.out, HE.out] at CF
            have h4 : orl base L < 4294967296 := orl_lt2 HFA.out
            generalize orl base L = M at *
            go_upto_region 14 with (at_builtin; refine wpList_app _ rfl _ _ 35 rfl wr.heap.size 23 i0 _ 2 Try.underlying35 hi0 hz0 hz1 hz2 rfl _ 0 0 [] rfl o5 wr.heap.size A1 k c1 (N16 L) rfl rd5 hnone (N16_one L) (by omega) (by unfold maxLen; omega) hs5 ?_; intro A6 c6 w6 own6' hgr6; have own6 := own6'.to (Nat.zero_add k) (List.nil_append (N16 L)); rw [Nat.zero_add])
            have be6 : Below wr.heap.size wr w6 := be5.grown hgr6 hs5 (fun j hj => by simp [Value.ownBlock] at hj; omega)
            go_upto_region 18 with (first | (go_at_call 16; refine (CF.out _ be6).mono ?_; rintro e w8 ⟨rfl, be8⟩) | (refine at_alloc rfl 39 rfl (mv 0 0) zeroMap ?_; intro w9 L9) | (refine at_store rfl 39 _ _ rfl w8.heap.size (mv base M) rfl rfl 39 _ L9.row (infoMap _ _) rfl (mv_all _ _) ?_; intro w10 L10) | (go_at_call 17; refine (CM.out _).mono ?_; rintro e w11 ⟨rfl, be11⟩))
            have be10 : Below w6.heap.size w6 w10 := (Below.then_ be8 L9.bel).trans (L10.below be8.size)
            have be12 : Below w6.heap.size w6 w11 := Below.then_ be10 be11
            have q15 : Blk w11 w8.heap.size 39 (mv base M) := (L10.row : Blk w10 w8.heap.size 39 (mv base M)).after be11
            have be13 : Below wr.heap.size wr w11 := Below.then_ be6 be12
            have rdl : Rd w11 w11.heap.size A1 k (N16 L) := own.rdOf be13
            have rdw : Rd w11 w11.heap.size A6 k (N16 L) := own6.rdOf be12
            have q10b := q10.after be13
            have bel13 := bel.trans (be13.mono bel.size)
            obtain ⟨g15, hg15⟩ : ∃ g, g = w8.heap.size := ⟨_, rfl⟩
            rw [← hg15] at q15 ⊢
            clear L9 L10 hg15 be8 be10 be11 be12 be13 be6 hgr6 own6 own6' CF CM own q10 bel hi0 hz0 hz1 hz2 o5 be5 rd5 hs5 rd
            obtain ⟨wo, rfl⟩ : ∃ wo : World, wo = wr := ⟨_, rfl⟩
            go_loopw [17] (fun i wr => ∃ j : Nat, j ≤ k ∧ i = .int .i64 (j : Int) ∧ Below w11.heap.size w11 wr) (fun i _ => k - (intOf i).toNat)
            case atStart => exact ⟨0, Nat.zero_le _, rfl, Below.refl _ _⟩
            case round =>
              obtain ⟨j, hj, rfl, belr⟩ := hrel
              by_cases hlt3 : j < k
              · obtain ⟨b1, o1, rfl, hb1, hcl⟩ := (rdl.below belr).cell16 j hlt3
                obtain ⟨b2, o2, rfl, hb2, hcw⟩ := (rdw.below belr).cell16 j hlt3
                generalize L.getD j 0 = x at *
                go_wp2_with fail
                go_quiet (fail)
                go_wp2
                go_roundw
                case rel => exact ⟨j + 1, by omega, by go_num, belr.trans (below_drawn _)⟩
                case measure => simp [intOf] <;> omega
              · have q15r := q15.after belr
                have q10r := q10b.after belr
                have beln := bel13.trans (belr.mono bel13.size)
                obtain ⟨u, hu, hu2⟩ := wrap_u64 ask
                obtain ⟨r, hr2⟩ : ∃ r : Nat, r = u % 33 := ⟨_, rfl⟩
                have hr33 : r < 33 := by omega
                have e1 : (u : Int) % 33 = (r : Int) := by omega
                clear hr2
                have hcb : wr.cell? ⟨g15, 0, none⟩ = some (.int .u16 base) := (q15r.cell 0).trans rfl
                have hKeep : ∀ W, Below wr.heap.size wr W → W.rangeAt g15 0 (mv base M).toList ∧ W.cell? ⟨g15, 0, none⟩ = some (.int .u16 base) ∧ W.cell? ⟨g10, r, none⟩ = some (.bool (H r)) := fun W hW => ⟨Below.rangeB q15r hW, ((q15r.after hW).cell 0).trans rfl, ((q10r.after hW).cell r).trans (B33_get H r hr33)⟩
                have CP1 := Lib.hid (plusC base (r : Int))
                have CP2 := Lib.hid (plusC base (-1 - (r : Int)))
                have CP3 := Lib.hid (plusC base (33 + (r : Int)))
                rw [← np_eq] at CP1 CP2 CP3
                have CH1 := Lib.hid (fun W => hasC base (np base (r : Int)) M W h4)
                have CH2 := Lib.hid (fun W => hasC base (np base (-1 - (r : Int))) M W h4)
                have CH3 := Lib.hid (fun W => hasC base (np base (33 + (r : Int))) M W h4)
                rw [HZ.out r (by omega)] at CH1
                rw [hm_bf (np_neg base (-1 - (r : Int)) ⟨by omega, by omega⟩)] at CH2
                rw [hm_out (np_pos base (33 + (r : Int)) ⟨by omega, by omega⟩).1 (dsn_eq base _) (.inr (by have := (np_pos base (33 + (r : Int)) ⟨by omega, by omega⟩).2; omega))] at CH3
                generalize np base (r : Int) = a1 at *
                generalize np base (-1 - (r : Int)) = a2 at *
                generalize np base (33 + (r : Int)) = a3 at *
                have f1 : IntKind.i64.wrap (-1 - (r : Int)) = -1 - (r : Int) := IntWalk.i64_in _ (by omega)
                have f2 : IntKind.i64.wrap (33 + (r : Int)) = 33 + (r : Int) := IntWalk.i64_in _ (by omega)
                have f3 : (H r == H r) = true := by cases H r <;> rfl
                generalize H r = hh at *
                have f4 : (r : Int) < 33 := by omega
                have bw0 : Below wr.heap.size wr wr.drew := (Below.refl _ _).drew
                have SR1 := hKeep _ bw0
                go_upto_region 27 with fail
                refine wp_region_noPanic ?_
                refine wp_region_held_drew (S := fun W => W.rangeAt g15 0 (mv base M).toList ∧ W.cell? ⟨g15, 0, none⟩ = some (.int .u16 base) ∧ W.cell? ⟨g10, r, none⟩ = some (.bool hh)) (by kernel_rfl) SR1 (fun hHeld => ?_)
                refine wpAnyH_take (i := 0) (oi := ⟨some 120, _, _, _, _, _⟩) (v := _) rfl (by kernel_rfl) (by kernel_rfl) (by kernel_rfl) (fun _ _ _ h => h) (yields_mid (by rfl) 39 _ (by rfl) g15 0 (by rfl) (mv base M) _ (fun W h => h.1) Try.underlying39 rfl (infoMap _ _)) hHeld ?_
                (try simp only [Act.put, List.setIfInBounds_toArray, List.set_cons_zero, List.set_cons_succ])
                refine wpAnyH_take (i := 1) (oi := ⟨some 121, _, _, _, _, _⟩) (v := ?_) rfl (by kernel_rfl) (by kernel_rfl) (by kernel_rfl) (fun _ _ _ h => h) (Or.inl ⟨by rfl, ?_⟩) hHeld ?_
                rotate_left
                · intro W hSW; obtain ⟨hSW0, hSW1, hSW2⟩ := hSW; go_simp; first | done | with_reducible rfl
                (try simp only [Act.put, List.setIfInBounds_toArray, List.set_cons_zero, List.set_cons_succ])
                refine wpAnyH_take (i := 2) (oi := ⟨some 122, _, _, _, _, _⟩) (v := ?_) rfl (by kernel_rfl) (by kernel_rfl) (by kernel_rfl) (fun _ _ _ h => h) (Or.inl ⟨by rfl, ?_⟩) hHeld ?_
                rotate_left
                · intro W hSW; obtain ⟨hSW0, hSW1, hSW2⟩ := hSW; go_simp; first | done | with_reducible rfl
                (try simp only [Act.put, List.setIfInBounds_toArray, List.set_cons_zero, List.set_cons_succ])
                refine wpAnyH_take (i := 3) (oi := ⟨some 123, _, _, _, _, _⟩) (v := ?_) rfl (by kernel_rfl) (by kernel_rfl) (by kernel_rfl) (fun _ _ _ h => h) (Or.inl ⟨by rfl, ?_⟩) hHeld ?_
                rotate_left
                · intro W hSW; obtain ⟨hSW0, hSW1, hSW2⟩ := hSW; go_simp; first | done | with_reducible rfl
                (try simp only [Act.put, List.setIfInBounds_toArray, List.set_cons_zero, List.set_cons_succ])
                refine wpAnyH_take (i := 6) (oi := ⟨some 126, _, _, _, _, _⟩) (v := ?_) rfl (by kernel_rfl) (by kernel_rfl) (by kernel_rfl) (fun _ _ _ h => h) (Or.inl ⟨by rfl, ?_⟩) hHeld ?_
                rotate_left
                · intro W hSW; obtain ⟨hSW0, hSW1, hSW2⟩ := hSW; go_simp; first | done | with_reducible rfl
                (try simp only [Act.put, List.setIfInBounds_toArray, List.set_cons_zero, List.set_cons_succ])
                refine wpAnyH_take (i := 7) (oi := ⟨some 127, _, _, _, _, _⟩) (v := ?_) rfl (by kernel_rfl) (by kernel_rfl) (by kernel_rfl) (fun _ _ _ h => h) (Or.inl ⟨by rfl, ?_⟩) hHeld ?_
                rotate_left
                · intro W hSW; obtain ⟨hSW0, hSW1, hSW2⟩ := hSW; go_simp; first | done | with_reducible rfl
                (try simp only [Act.put, List.setIfInBounds_toArray, List.set_cons_zero, List.set_cons_succ])
                refine wpAnyH_take (i := 8) (oi := ⟨some 128, _, _, _, _, _⟩) (v := ?_) rfl (by kernel_rfl) (by kernel_rfl) (by kernel_rfl) (fun _ _ _ h => h) (Or.inl ⟨by rfl, ?_⟩) hHeld ?_
                rotate_left
                · intro W hSW; obtain ⟨hSW0, hSW1, hSW2⟩ := hSW; go_simp; first | done | with_reducible rfl
                (try simp only [Act.put, List.setIfInBounds_toArray, List.set_cons_zero, List.set_cons_succ])
                refine wpAnyH_ready (rs := [4]) (by kernel_rfl) (by simp) ?_
                refine AllReadyH.cons (o := ⟨some 124, _, _, _, _, _⟩) rfl (fun K hK => ?_) (AllReadyH.nil)
                go_simp
                refine (CP1.out _).mono ?_
                rintro e W' ⟨rfl, rfl⟩
                clear hHeld
                refine hK.out _ _ ?_ (fun hHeld => ?_)
                · exact SR1
                clear hK K
                (try simp only [Act.put, List.setIfInBounds_toArray, List.set_cons_zero, List.set_cons_succ])
                refine wpAnyH_ready (rs := [5]) (by kernel_rfl) (by simp) ?_
                refine AllReadyH.cons (o := ⟨some 125, _, _, _, _, _⟩) rfl (fun K hK => ?_) (AllReadyH.nil)
                go_simp
                refine (CH1.out _).mono ?_
                rintro e WW1 ⟨rfl, bb1⟩
                clear hHeld
                have bw1 := Below.then_ bw0 bb1
                have SR2 := hKeep _ bw1
                refine hK.out _ _ ?_ (fun hHeld => ?_)
                · exact SR2
                clear hK K
                (try simp only [Act.put, List.setIfInBounds_toArray, List.set_cons_zero, List.set_cons_succ])
                refine wpAnyH_take (i := 9) (oi := ⟨some 129, _, _, _, _, _⟩) (v := ?_) rfl (by kernel_rfl) (by kernel_rfl) (by kernel_rfl) (fun _ _ _ h => h) (Or.inl ⟨by rfl, ?_⟩) hHeld ?_
                rotate_left
                · intro W hSW; obtain ⟨hSW0, hSW1, hSW2⟩ := hSW; go_simp; first | done | with_reducible rfl
                (try simp only [Act.put, List.setIfInBounds_toArray, List.set_cons_zero, List.set_cons_succ])
                refine wpAnyH_take (i := 10) (oi := ⟨some 130, _, _, _, _, _⟩) (v := ?_) rfl (by kernel_rfl) (by kernel_rfl) (by kernel_rfl) (fun _ _ _ h => h) (Or.inl ⟨by rfl, ?_⟩) hHeld ?_
                rotate_left
                · intro W hSW; obtain ⟨hSW0, hSW1, hSW2⟩ := hSW; go_simp; first | done | with_reducible rfl
                (try simp only [Act.put, List.setIfInBounds_toArray, List.set_cons_zero, List.set_cons_succ])
                refine wpAnyH_take (i := 11) (oi := ⟨some 131, _, _, _, _, _⟩) (v := _) rfl (by kernel_rfl) (by kernel_rfl) (by kernel_rfl) (fun _ _ _ h => h) (yields_mid (by rfl) 39 _ (by rfl) g15 0 (by rfl) (mv base M) _ (fun W h => h.1) Try.underlying39 rfl (infoMap _ _)) hHeld ?_
                (try simp only [Act.put, List.setIfInBounds_toArray, List.set_cons_zero, List.set_cons_succ])
                refine wpAnyH_take (i := 12) (oi := ⟨some 132, _, _, _, _, _⟩) (v := ?_) rfl (by kernel_rfl) (by kernel_rfl) (by kernel_rfl) (fun _ _ _ h => h) (Or.inl ⟨by rfl, ?_⟩) hHeld ?_
                rotate_left
                · intro W hSW; obtain ⟨hSW0, hSW1, hSW2⟩ := hSW; go_simp; first | done | with_reducible rfl
                (try simp only [Act.put, List.setIfInBounds_toArray, List.set_cons_zero, List.set_cons_succ])
                refine wpAnyH_take (i := 13) (oi := ⟨some 133, _, _, _, _, _⟩) (v := ?_) rfl (by kernel_rfl) (by kernel_rfl) (by kernel_rfl) (fun _ _ _ h => h) (Or.inl ⟨by rfl, ?_⟩) hHeld ?_
                rotate_left
                · intro W hSW; obtain ⟨hSW0, hSW1, hSW2⟩ := hSW; go_simp; first | done | with_reducible rfl
                (try simp only [Act.put, List.setIfInBounds_toArray, List.set_cons_zero, List.set_cons_succ])
                refine wpAnyH_take (i := 14) (oi := ⟨some 134, _, _, _, _, _⟩) (v := ?_) rfl (by kernel_rfl) (by kernel_rfl) (by kernel_rfl) (fun _ _ _ h => h) (Or.inl ⟨by rfl, ?_⟩) hHeld ?_
                rotate_left
                · intro W hSW; obtain ⟨hSW0, hSW1, hSW2⟩ := hSW; go_simp; first | done | with_reducible rfl
                (try simp only [Act.put, List.setIfInBounds_toArray, List.set_cons_zero, List.set_cons_succ])
                refine wpAnyH_take (i := 15) (oi := ⟨some 135, _, _, _, _, _⟩) (v := ?_) rfl (by kernel_rfl) (by kernel_rfl) (by kernel_rfl) (fun _ _ _ h => h) (Or.inl ⟨by rfl, ?_⟩) hHeld ?_
                rotate_left
                · intro W hSW; obtain ⟨hSW0, hSW1, hSW2⟩ := hSW; go_simp; first | done | with_reducible rfl
                (try simp only [Act.put, List.setIfInBounds_toArray, List.set_cons_zero, List.set_cons_succ])
                refine wpAnyH_ready (rs := [16]) (by kernel_rfl) (by simp) ?_
                refine AllReadyH.cons (o := ⟨some 136, _, _, _, _, _⟩) rfl (fun K hK => ?_) (AllReadyH.nil)
                go_simp
                refine (CP2.out _).mono ?_
                rintro e W' ⟨rfl, rfl⟩
                clear hHeld
                refine hK.out _ _ ?_ (fun hHeld => ?_)
                · exact SR2
                clear hK K
                (try simp only [Act.put, List.setIfInBounds_toArray, List.set_cons_zero, List.set_cons_succ])
                refine wpAnyH_ready (rs := [17]) (by kernel_rfl) (by simp) ?_
                refine AllReadyH.cons (o := ⟨some 137, _, _, _, _, _⟩) rfl (fun K hK => ?_) (AllReadyH.nil)
                go_simp
                refine (CH2.out _).mono ?_
                rintro e WW2 ⟨rfl, bb2⟩
                clear hHeld
                have bw2 := Below.then_ bw1 bb2
                have SR3 := hKeep _ bw2
                refine hK.out _ _ ?_ (fun hHeld => ?_)
                · exact SR3
                clear hK K
                (try simp only [Act.put, List.setIfInBounds_toArray, List.set_cons_zero, List.set_cons_succ])
                refine wpAnyH_take (i := 18) (oi := ⟨some 138, _, _, _, _, _⟩) (v := ?_) rfl (by kernel_rfl) (by kernel_rfl) (by kernel_rfl) (fun _ _ _ h => h) (Or.inl ⟨by rfl, ?_⟩) hHeld ?_
                rotate_left
                · intro W hSW; obtain ⟨hSW0, hSW1, hSW2⟩ := hSW; go_simp; first | done | with_reducible rfl
                (try simp only [Act.put, List.setIfInBounds_toArray, List.set_cons_zero, List.set_cons_succ])
                refine wpAnyH_take (i := 19) (oi := ⟨some 139, _, _, _, _, _⟩) (v := ?_) rfl (by kernel_rfl) (by kernel_rfl) (by kernel_rfl) (fun _ _ _ h => h) (Or.inl ⟨by rfl, ?_⟩) hHeld ?_
                rotate_left
                · intro W hSW; obtain ⟨hSW0, hSW1, hSW2⟩ := hSW; go_simp; first | done | with_reducible rfl
                (try simp only [Act.put, List.setIfInBounds_toArray, List.set_cons_zero, List.set_cons_succ])
                refine wpAnyH_take (i := 20) (oi := ⟨some 140, _, _, _, _, _⟩) (v := _) rfl (by kernel_rfl) (by kernel_rfl) (by kernel_rfl) (fun _ _ _ h => h) (yields_mid (by rfl) 39 _ (by rfl) g15 0 (by rfl) (mv base M) _ (fun W h => h.1) Try.underlying39 rfl (infoMap _ _)) hHeld ?_
                (try simp only [Act.put, List.setIfInBounds_toArray, List.set_cons_zero, List.set_cons_succ])
                refine wpAnyH_take (i := 21) (oi := ⟨some 141, _, _, _, _, _⟩) (v := ?_) rfl (by kernel_rfl) (by kernel_rfl) (by kernel_rfl) (fun _ _ _ h => h) (Or.inl ⟨by rfl, ?_⟩) hHeld ?_
                rotate_left
                · intro W hSW; obtain ⟨hSW0, hSW1, hSW2⟩ := hSW; go_simp; first | done | with_reducible rfl
                (try simp only [Act.put, List.setIfInBounds_toArray, List.set_cons_zero, List.set_cons_succ])
                refine wpAnyH_take (i := 22) (oi := ⟨some 142, _, _, _, _, _⟩) (v := ?_) rfl (by kernel_rfl) (by kernel_rfl) (by kernel_rfl) (fun _ _ _ h => h) (Or.inl ⟨by rfl, ?_⟩) hHeld ?_
                rotate_left
                · intro W hSW; obtain ⟨hSW0, hSW1, hSW2⟩ := hSW; go_simp; first | done | with_reducible rfl
                (try simp only [Act.put, List.setIfInBounds_toArray, List.set_cons_zero, List.set_cons_succ])
                refine wpAnyH_take (i := 23) (oi := ⟨some 143, _, _, _, _, _⟩) (v := ?_) rfl (by kernel_rfl) (by kernel_rfl) (by kernel_rfl) (fun _ _ _ h => h) (Or.inl ⟨by rfl, ?_⟩) hHeld ?_
                rotate_left
                · intro W hSW; obtain ⟨hSW0, hSW1, hSW2⟩ := hSW; go_simp; first | done | with_reducible rfl
                (try simp only [Act.put, List.setIfInBounds_toArray, List.set_cons_zero, List.set_cons_succ])
                refine wpAnyH_take (i := 24) (oi := ⟨some 144, _, _, _, _, _⟩) (v := ?_) rfl (by kernel_rfl) (by kernel_rfl) (by kernel_rfl) (fun _ _ _ h => h) (Or.inl ⟨by rfl, ?_⟩) hHeld ?_
                rotate_left
                · intro W hSW; obtain ⟨hSW0, hSW1, hSW2⟩ := hSW; go_simp; first | done | with_reducible rfl
                (try simp only [Act.put, List.setIfInBounds_toArray, List.set_cons_zero, List.set_cons_succ])
                refine wpAnyH_ready (rs := [25]) (by kernel_rfl) (by simp) ?_
                refine AllReadyH.cons (o := ⟨some 145, _, _, _, _, _⟩) rfl (fun K hK => ?_) (AllReadyH.nil)
                go_simp
                refine (CP3.out _).mono ?_
                rintro e W' ⟨rfl, rfl⟩
                clear hHeld
                refine hK.out _ _ ?_ (fun hHeld => ?_)
                · exact SR3
                clear hK K
                (try simp only [Act.put, List.setIfInBounds_toArray, List.set_cons_zero, List.set_cons_succ])
                refine wpAnyH_ready (rs := [26]) (by kernel_rfl) (by simp) ?_
                refine AllReadyH.cons (o := ⟨some 146, _, _, _, _, _⟩) rfl (fun K hK => ?_) (AllReadyH.nil)
                go_simp
                refine (CH3.out _).mono ?_
                rintro e WW3 ⟨rfl, bb3⟩
                clear hHeld
                have bw3 := Below.then_ bw2 bb3
                have SR4 := hKeep _ bw3
                refine hK.out _ _ ?_ (fun hHeld => ?_)
                · exact SR4
                clear hK K
                (try simp only [Act.put, List.setIfInBounds_toArray, List.set_cons_zero, List.set_cons_succ])
                refine wpAnyH_take (i := 27) (oi := ⟨some 147, _, _, _, _, _⟩) (v := ?_) rfl (by kernel_rfl) (by kernel_rfl) (by kernel_rfl) (fun _ _ _ h => h) (Or.inl ⟨by rfl, ?_⟩) hHeld ?_
                rotate_left
                · intro W hSW; obtain ⟨hSW0, hSW1, hSW2⟩ := hSW; go_simp; first | done | with_reducible rfl
                (try simp only [Act.put, List.setIfInBounds_toArray, List.set_cons_zero, List.set_cons_succ])
                refine wpAnyH_take (i := 28) (oi := ⟨some 148, _, _, _, _, _⟩) (v := ?_) rfl (by kernel_rfl) (by kernel_rfl) (by kernel_rfl) (fun _ _ _ h => h) (Or.inl ⟨by rfl, ?_⟩) hHeld ?_
                rotate_left
                · intro W hSW; obtain ⟨hSW0, hSW1, hSW2⟩ := hSW; go_simp; first | done | with_reducible rfl
                (try simp only [Act.put, List.setIfInBounds_toArray, List.set_cons_zero, List.set_cons_succ])
                refine wpAnyH_take (i := 29) (oi := ⟨some 6, _, _, _, _, _⟩) (v := ?_) rfl (by kernel_rfl) (by kernel_rfl) (by kernel_rfl) (fun _ _ _ h => h) (Or.inl ⟨by rfl, ?_⟩) hHeld ?_
                rotate_left
                · intro W hSW; obtain ⟨hSW0, hSW1, hSW2⟩ := hSW; go_simp; first | done | with_reducible rfl
                (try simp only [Act.put, List.setIfInBounds_toArray, List.set_cons_zero, List.set_cons_succ])
                refine wpAnyH_done (by kernel_rfl) ?_ _
                refine NoPanic.normal ?_
                clear hHeld

                go_wp2
                go_ret
                exact ⟨rfl, beln.trans (bw3.mono beln.size)⟩
      · clear hlt
        cases F with
        | true =>
          have HV : Hid (ofV base L = mv 0 0) := by unfold Hid ofV; rw [if_pos (.inl HFA.out)]
          have HE : Hid (ofE base L = 11) := by unfold Hid ofE; rw [if_pos HFA.out]
          rw [HV.out, HE.out] at CF
          go_upto_region 14 with (at_builtin; refine wpList_app _ rfl _ _ 35 rfl wr.heap.size 23 i0 _ 2 Try.underlying35 hi0 hz0 hz1 hz2 rfl _ 0 0 [] rfl o5 wr.heap.size A1 k c1 (N16 L) rfl rd5 hnone (N16_one L) (by omega) (by unfold maxLen; omega) hs5 ?_; intro A6 c6 w6 own6' hgr6; have own6 := own6'.to (Nat.zero_add k) (List.nil_append (N16 L)); rw [Nat.zero_add])
          have be6 : Below wr.heap.size wr w6 := be5.grown hgr6 hs5 (fun j hj => by simp [Value.ownBlock] at hj; omega)
          go_upto_region 18 with (first | (go_at_call 16; refine (CF.out _ be6).mono ?_; rintro e w8 ⟨rfl, be8⟩) | (refine at_alloc rfl 39 rfl (mv 0 0) zeroMap ?_; intro w9 L9) | (refine at_store rfl 39 _ _ rfl w8.heap.size (mv 0 0) rfl rfl 39 _ L9.row (infoMap _ _) rfl (mv_all _ _) ?_; intro w10 L10) | (go_at_call 17; refine (CM.out _).mono ?_; rintro e w11 ⟨rfl, be11⟩))
          have be10 : Below w6.heap.size w6 w10 := (Below.then_ be8 L9.bel).trans (L10.below be8.size)
          have be12 : Below w6.heap.size w6 w11 := Below.then_ be10 be11
          have q15 : Blk w11 w8.heap.size 39 (mv 0 0) := (L10.row : Blk w10 w8.heap.size 39 (mv 0 0)).after be11
          have be13 : Below wr.heap.size wr w11 := Below.then_ be6 be12
          have rdl : Rd w11 w11.heap.size A1 k (N16 L) := own.rdOf be13
          have rdw : Rd w11 w11.heap.size A6 k (N16 L) := own6.rdOf be12
          have q10b := q10.after be13
          have bel13 := bel.trans (be13.mono bel.size)
          obtain ⟨g15, hg15⟩ : ∃ g, g = w8.heap.size := ⟨_, rfl⟩
          rw [← hg15] at q15 ⊢
          clear L9 L10 hg15 be8 be10 be11 be12 be13 be6 hgr6 own6 own6' CF CM own q10 bel hi0 hz0 hz1 hz2 o5 be5 rd5 hs5 rd
          obtain ⟨wo, rfl⟩ : ∃ wo : World, wo = wr := ⟨_, rfl⟩
          go_loopw [17] (fun i wr => ∃ j : Nat, j ≤ k ∧ i = .int .i64 (j : Int) ∧ Below w11.heap.size w11 wr) (fun i _ => k - (intOf i).toNat)
          case atStart => exact ⟨0, Nat.zero_le _, rfl, Below.refl _ _⟩
          case round =>
            obtain ⟨j, hj, rfl, belr⟩ := hrel
            by_cases hlt3 : j < k
            · obtain ⟨b1, o1, rfl, hb1, hcl⟩ := (rdl.below belr).cell16 j hlt3
              obtain ⟨b2, o2, rfl, hb2, hcw⟩ := (rdw.below belr).cell16 j hlt3
              generalize L.getD j 0 = x at *
              go_wp2_with fail
              go_quiet (fail)
              go_wp2
              go_roundw
              case rel => exact ⟨j + 1, by omega, by go_num, belr.trans (below_drawn _)⟩
              case measure => simp [intOf] <;> omega
            · have q15r := q15.after belr
              have q10r := q10b.after belr
              have beln := bel13.trans (belr.mono bel13.size)
              go_wp2_with (first | (refine at_load_g rfl 39 _ rfl g15 rfl 39 (mv 0 0) _ q15r Try.underlying39 rfl (infoMap _ _) ?_) | (refine at_eq rfl .eql 39 _ _ _ rfl (mv 0 0) (mv 0 0) rfl rfl mapGuard (.bool true) (mapEq 0 0 0 0 true rfl) ?_))
              go_ret
              exact ⟨rfl, beln⟩
        | false =>
          cases O with
          | true =>
            have HV : Hid (ofV base L = mv 0 0) := by unfold Hid ofV; rw [if_pos (.inr HOA.out)]
            have HE : Hid (ofE base L = 13) := by unfold Hid ofE; rw [HFA.out, if_neg (by simp), if_pos HOA.out]
            rw [HV.out, HE.out] at CF
            go_upto_region 14 with (at_builtin; refine wpList_app _ rfl _ _ 35 rfl wr.heap.size 23 i0 _ 2 Try.underlying35 hi0 hz0 hz1 hz2 rfl _ 0 0 [] rfl o5 wr.heap.size A1 k c1 (N16 L) rfl rd5 hnone (N16_one L) (by omega) (by unfold maxLen; omega) hs5 ?_; intro A6 c6 w6 own6' hgr6; have own6 := own6'.to (Nat.zero_add k) (List.nil_append (N16 L)); rw [Nat.zero_add])
            have be6 : Below wr.heap.size wr w6 := be5.grown hgr6 hs5 (fun j hj => by simp [Value.ownBlock] at hj; omega)
            go_upto_region 18 with (first | (go_at_call 16; refine (CF.out _ be6).mono ?_; rintro e w8 ⟨rfl, be8⟩) | (refine at_alloc rfl 39 rfl (mv 0 0) zeroMap ?_; intro w9 L9) | (refine at_store rfl 39 _ _ rfl w8.heap.size (mv 0 0) rfl rfl 39 _ L9.row (infoMap _ _) rfl (mv_all _ _) ?_; intro w10 L10) | (go_at_call 17; refine (CM.out _).mono ?_; rintro e w11 ⟨rfl, be11⟩))
            have be10 : Below w6.heap.size w6 w10 := (Below.then_ be8 L9.bel).trans (L10.below be8.size)
            have be12 : Below w6.heap.size w6 w11 := Below.then_ be10 be11
            have q15 : Blk w11 w8.heap.size 39 (mv 0 0) := (L10.row : Blk w10 w8.heap.size 39 (mv 0 0)).after be11
            have be13 : Below wr.heap.size wr w11 := Below.then_ be6 be12
            have rdl : Rd w11 w11.heap.size A1 k (N16 L) := own.rdOf be13
            have rdw : Rd w11 w11.heap.size A6 k (N16 L) := own6.rdOf be12
            have q10b := q10.after be13
            have bel13 := bel.trans (be13.mono bel.size)
            obtain ⟨g15, hg15⟩ : ∃ g, g = w8.heap.size := ⟨_, rfl⟩
            rw [← hg15] at q15 ⊢
            clear L9 L10 hg15 be8 be10 be11 be12 be13 be6 hgr6 own6 own6' CF CM own q10 bel hi0 hz0 hz1 hz2 o5 be5 rd5 hs5 rd
            obtain ⟨wo, rfl⟩ : ∃ wo : World, wo = wr := ⟨_, rfl⟩
            go_loopw [17] (fun i wr => ∃ j : Nat, j ≤ k ∧ i = .int .i64 (j : Int) ∧ Below w11.heap.size w11 wr) (fun i _ => k - (intOf i).toNat)
            case atStart => exact ⟨0, Nat.zero_le _, rfl, Below.refl _ _⟩
            case round =>
              obtain ⟨j, hj, rfl, belr⟩ := hrel
              by_cases hlt3 : j < k
              · obtain ⟨b1, o1, rfl, hb1, hcl⟩ := (rdl.below belr).cell16 j hlt3
                obtain ⟨b2, o2, rfl, hb2, hcw⟩ := (rdw.below belr).cell16 j hlt3
                generalize L.getD j 0 = x at *
                go_wp2_with fail
                go_quiet (fail)
                go_wp2
                go_roundw
                case rel => exact ⟨j + 1, by omega, by go_num, belr.trans (below_drawn _)⟩
                case measure => simp [intOf] <;> omega
              · have q15r := q15.after belr
                have q10r := q10b.after belr
                have beln := bel13.trans (belr.mono bel13.size)
                go_wp2_with (first | (refine at_load_g rfl 39 _ rfl g15 rfl 39 (mv 0 0) _ q15r Try.underlying39 rfl (infoMap _ _) ?_) | (refine at_eq rfl .eql 39 _ _ _ rfl (mv 0 0) (mv 0 0) rfl rfl mapGuard (.bool true) (mapEq 0 0 0 0 true rfl) ?_))
                go_ret
                exact ⟨rfl, beln⟩
          | false =>
            have HV : Hid (ofV base L = mv base (orl base L)) := by unfold Hid ofV; rw [if_neg (by rw [HFA.out, HOA.out]; simp)]
            have HE : Hid (ofE base L = 0) := by unfold Hid ofE; rw [HFA.out, if_neg (by simp), HOA.out, if_neg (by simp)]
            rw [HV.out, HE.out] at CF
            have h4 : orl base L < 4294967296 := orl_lt2 HFA.out
            generalize orl base L = M at *
            go_upto_region 14 with (at_builtin; refine wpList_app _ rfl _ _ 35 rfl wr.heap.size 23 i0 _ 2 Try.underlying35 hi0 hz0 hz1 hz2 rfl _ 0 0 [] rfl o5 wr.heap.size A1 k c1 (N16 L) rfl rd5 hnone (N16_one L) (by omega) (by unfold maxLen; omega) hs5 ?_; intro A6 c6 w6 own6' hgr6; have own6 := own6'.to (Nat.zero_add k) (List.nil_append (N16 L)); rw [Nat.zero_add])
            have be6 : Below wr.heap.size wr w6 := be5.grown hgr6 hs5 (fun j hj => by simp [Value.ownBlock] at hj; omega)
            go_upto_region 18 with (first | (go_at_call 16; refine (CF.out _ be6).mono ?_; rintro e w8 ⟨rfl, be8⟩) | (refine at_alloc rfl 39 rfl (mv 0 0) zeroMap ?_; intro w9 L9) | (refine at_store rfl 39 _ _ rfl w8.heap.size (mv base M) rfl rfl 39 _ L9.row (infoMap _ _) rfl (mv_all _ _) ?_; intro w10 L10) | (go_at_call 17; refine (CM.out _).mono ?_; rintro e w11 ⟨rfl, be11⟩))
            have be10 : Below w6.heap.size w6 w10 := (Below.then_ be8 L9.bel).trans (L10.below be8.size)
            have be12 : Below w6.heap.size w6 w11 := Below.then_ be10 be11
            have q15 : Blk w11 w8.heap.size 39 (mv base M) := (L10.row : Blk w10 w8.heap.size 39 (mv base M)).after be11
            have be13 : Below wr.heap.size wr w11 := Below.then_ be6 be12
            have rdl : Rd w11 w11.heap.size A1 k (N16 L) := own.rdOf be13
            have rdw : Rd w11 w11.heap.size A6 k (N16 L) := own6.rdOf be12
            have q10b := q10.after be13
            have bel13 := bel.trans (be13.mono bel.size)
            obtain ⟨g15, hg15⟩ : ∃ g, g = w8.heap.size := ⟨_, rfl⟩
            rw [← hg15] at q15 ⊢
            clear L9 L10 hg15 be8 be10 be11 be12 be13 be6 hgr6 own6 own6' CF CM own q10 bel hi0 hz0 hz1 hz2 o5 be5 rd5 hs5 rd
            obtain ⟨wo, rfl⟩ : ∃ wo : World, wo = wr := ⟨_, rfl⟩
            go_loopw [17] (fun i wr => ∃ j : Nat, j ≤ k ∧ i = .int .i64 (j : Int) ∧ Below w11.heap.size w11 wr) (fun i _ => k - (intOf i).toNat)
            case atStart => exact ⟨0, Nat.zero_le _, rfl, Below.refl _ _⟩
            case round =>
              obtain ⟨j, hj, rfl, belr⟩ := hrel
              by_cases hlt3 : j < k
              · obtain ⟨b1, o1, rfl, hb1, hcl⟩ := (rdl.below belr).cell16 j hlt3
                obtain ⟨b2, o2, rfl, hb2, hcw⟩ := (rdw.below belr).cell16 j hlt3
                generalize L.getD j 0 = x at *
                go_wp2_with fail
                go_quiet (fail)
                go_wp2
                go_roundw
                case rel => exact ⟨j + 1, by omega, by go_num, belr.trans (below_drawn _)⟩
                case measure => simp [intOf] <;> omega
              · have q15r := q15.after belr
                have q10r := q10b.after belr
                have beln := bel13.trans (belr.mono bel13.size)
                obtain ⟨u, hu, hu2⟩ := wrap_u64 ask
                obtain ⟨r, hr2⟩ : ∃ r : Nat, r = u % 33 := ⟨_, rfl⟩
                have hr33 : r < 33 := by omega
                have e1 : (u : Int) % 33 = (r : Int) := by omega
                clear hr2
                have hcb : wr.cell? ⟨g15, 0, none⟩ = some (.int .u16 base) := (q15r.cell 0).trans rfl
                have hKeep : ∀ W, Below wr.heap.size wr W → W.rangeAt g15 0 (mv base M).toList ∧ W.cell? ⟨g15, 0, none⟩ = some (.int .u16 base) ∧ W.cell? ⟨g10, r, none⟩ = some (.bool (H r)) := fun W hW => ⟨Below.rangeB q15r hW, ((q15r.after hW).cell 0).trans rfl, ((q10r.after hW).cell r).trans (B33_get H r hr33)⟩
                have CP1 := Lib.hid (plusC base (r : Int))
                have CP2 := Lib.hid (plusC base (-1 - (r : Int)))
                have CP3 := Lib.hid (plusC base (33 + (r : Int)))
                rw [← np_eq] at CP1 CP2 CP3
                have CH1 := Lib.hid (fun W => hasC base (np base (r : Int)) M W h4)
                have CH2 := Lib.hid (fun W => hasC base (np base (-1 - (r : Int))) M W h4)
                have CH3 := Lib.hid (fun W => hasC base (np base (33 + (r : Int))) M W h4)
                rw [HZ.out r (by omega)] at CH1
                rw [hm_bf (np_neg base (-1 - (r : Int)) ⟨by omega, by omega⟩)] at CH2
                rw [hm_out (np_pos base (33 + (r : Int)) ⟨by omega, by omega⟩).1 (dsn_eq base _) (.inr (by have := (np_pos base (33 + (r : Int)) ⟨by omega, by omega⟩).2; omega))] at CH3
                generalize np base (r : Int) = a1 at *
                generalize np base (-1 - (r : Int)) = a2 at *
                generalize np base (33 + (r : Int)) = a3 at *
                have f1 : IntKind.i64.wrap (-1 - (r : Int)) = -1 - (r : Int) := IntWalk.i64_in _ (by omega)
                have f2 : IntKind.i64.wrap (33 + (r : Int)) = 33 + (r : Int) := IntWalk.i64_in _ (by omega)
                have f3 : (H r == H r) = true := by cases H r <;> rfl
                generalize H r = hh at *
                have f4 : (r : Int) < 33 := by omega
                have bw0 : Below wr.heap.size wr wr.drew := (Below.refl _ _).drew
                have SR1 := hKeep _ bw0
                go_upto_region 27 with fail
                refine wp_region_noPanic ?_
                refine wp_region_held_drew (S := fun W => W.rangeAt g15 0 (mv base M).toList ∧ W.cell? ⟨g15, 0, none⟩ = some (.int .u16 base) ∧ W.cell? ⟨g10, r, none⟩ = some (.bool hh)) (by kernel_rfl) SR1 (fun hHeld => ?_)
                refine wpAnyH_take (i := 0) (oi := ⟨some 120, _, _, _, _, _⟩) (v := _) rfl (by kernel_rfl) (by kernel_rfl) (by kernel_rfl) (fun _ _ _ h => h) (yields_mid (by rfl) 39 _ (by rfl) g15 0 (by rfl) (mv base M) _ (fun W h => h.1) Try.underlying39 rfl (infoMap _ _)) hHeld ?_
                (try simp only [Act.put, List.setIfInBounds_toArray, List.set_cons_zero, List.set_cons_succ])
                refine wpAnyH_take (i := 1) (oi := ⟨some 121, _, _, _, _, _⟩) (v := ?_) rfl (by kernel_rfl) (by kernel_rfl) (by kernel_rfl) (fun _ _ _ h => h) (Or.inl ⟨by rfl, ?_⟩) hHeld ?_
                rotate_left
                · intro W hSW; obtain ⟨hSW0, hSW1, hSW2⟩ := hSW; go_simp; first | done | with_reducible rfl
                (try simp only [Act.put, List.setIfInBounds_toArray, List.set_cons_zero, List.set_cons_succ])
                refine wpAnyH_take (i := 2) (oi := ⟨some 122, _, _, _, _, _⟩) (v := ?_) rfl (by kernel_rfl) (by kernel_rfl) (by kernel_rfl) (fun _ _ _ h => h) (Or.inl ⟨by rfl, ?_⟩) hHeld ?_
                rotate_left
                · intro W hSW; obtain ⟨hSW0, hSW1, hSW2⟩ := hSW; go_simp; first | done | with_reducible rfl
                (try simp only [Act.put, List.setIfInBounds_toArray, List.set_cons_zero, List.set_cons_succ])
                refine wpAnyH_take (i := 3) (oi := ⟨some 123, _, _, _, _, _⟩) (v := ?_) rfl (by kernel_rfl) (by kernel_rfl) (by kernel_rfl) (fun _ _ _ h => h) (Or.inl ⟨by rfl, ?_⟩) hHeld ?_
                rotate_left
                · intro W hSW; obtain ⟨hSW0, hSW1, hSW2⟩ := hSW; go_simp; first | done | with_reducible rfl
                (try simp only [Act.put, List.setIfInBounds_toArray, List.set_cons_zero, List.set_cons_succ])
                refine wpAnyH_take (i := 6) (oi := ⟨some 126, _, _, _, _, _⟩) (v := ?_) rfl (by kernel_rfl) (by kernel_rfl) (by kernel_rfl) (fun _ _ _ h => h) (Or.inl ⟨by rfl, ?_⟩) hHeld ?_
                rotate_left
                · intro W hSW; obtain ⟨hSW0, hSW1, hSW2⟩ := hSW; go_simp; first | done | with_reducible rfl
                (try simp only [Act.put, List.setIfInBounds_toArray, List.set_cons_zero, List.set_cons_succ])
                refine wpAnyH_take (i := 7) (oi := ⟨some 127, _, _, _, _, _⟩) (v := ?_) rfl (by kernel_rfl) (by kernel_rfl) (by kernel_rfl) (fun _ _ _ h => h) (Or.inl ⟨by rfl, ?_⟩) hHeld ?_
                rotate_left
                · intro W hSW; obtain ⟨hSW0, hSW1, hSW2⟩ := hSW; go_simp; first | done | with_reducible rfl
                (try simp only [Act.put, List.setIfInBounds_toArray, List.set_cons_zero, List.set_cons_succ])
                refine wpAnyH_take (i := 8) (oi := ⟨some 128, _, _, _, _, _⟩) (v := ?_) rfl (by kernel_rfl) (by kernel_rfl) (by kernel_rfl) (fun _ _ _ h => h) (Or.inl ⟨by rfl, ?_⟩) hHeld ?_
                rotate_left
                · intro W hSW; obtain ⟨hSW0, hSW1, hSW2⟩ := hSW; go_simp; first | done | with_reducible rfl
                (try simp only [Act.put, List.setIfInBounds_toArray, List.set_cons_zero, List.set_cons_succ])
                refine wpAnyH_ready (rs := [4]) (by kernel_rfl) (by simp) ?_
                refine AllReadyH.cons (o := ⟨some 124, _, _, _, _, _⟩) rfl (fun K hK => ?_) (AllReadyH.nil)
                go_simp
                refine (CP1.out _).mono ?_
                rintro e W' ⟨rfl, rfl⟩
                clear hHeld
                refine hK.out _ _ ?_ (fun hHeld => ?_)
                · exact SR1
                clear hK K
                (try simp only [Act.put, List.setIfInBounds_toArray, List.set_cons_zero, List.set_cons_succ])
                refine wpAnyH_ready (rs := [5]) (by kernel_rfl) (by simp) ?_
                refine AllReadyH.cons (o := ⟨some 125, _, _, _, _, _⟩) rfl (fun K hK => ?_) (AllReadyH.nil)
                go_simp
                refine (CH1.out _).mono ?_
                rintro e WW1 ⟨rfl, bb1⟩
                clear hHeld
                have bw1 := Below.then_ bw0 bb1
                have SR2 := hKeep _ bw1
                refine hK.out _ _ ?_ (fun hHeld => ?_)
                · exact SR2
                clear hK K
                (try simp only [Act.put, List.setIfInBounds_toArray, List.set_cons_zero, List.set_cons_succ])
                refine wpAnyH_take (i := 9) (oi := ⟨some 129, _, _, _, _, _⟩) (v := ?_) rfl (by kernel_rfl) (by kernel_rfl) (by kernel_rfl) (fun _ _ _ h => h) (Or.inl ⟨by rfl, ?_⟩) hHeld ?_
                rotate_left
                · intro W hSW; obtain ⟨hSW0, hSW1, hSW2⟩ := hSW; go_simp; first | done | with_reducible rfl
                (try simp only [Act.put, List.setIfInBounds_toArray, List.set_cons_zero, List.set_cons_succ])
                refine wpAnyH_take (i := 10) (oi := ⟨some 130, _, _, _, _, _⟩) (v := ?_) rfl (by kernel_rfl) (by kernel_rfl) (by kernel_rfl) (fun _ _ _ h => h) (Or.inl ⟨by rfl, ?_⟩) hHeld ?_
                rotate_left
                · intro W hSW; obtain ⟨hSW0, hSW1, hSW2⟩ := hSW; go_simp; first | done | with_reducible rfl
                (try simp only [Act.put, List.setIfInBounds_toArray, List.set_cons_zero, List.set_cons_succ])
                refine wpAnyH_take (i := 11) (oi := ⟨some 131, _, _, _, _, _⟩) (v := _) rfl (by kernel_rfl) (by kernel_rfl) (by kernel_rfl) (fun _ _ _ h => h) (yields_mid (by rfl) 39 _ (by rfl) g15 0 (by rfl) (mv base M) _ (fun W h => h.1) Try.underlying39 rfl (infoMap _ _)) hHeld ?_
                (try simp only [Act.put, List.setIfInBounds_toArray, List.set_cons_zero, List.set_cons_succ])
                refine wpAnyH_take (i := 12) (oi := ⟨some 132, _, _, _, _, _⟩) (v := ?_) rfl (by kernel_rfl) (by kernel_rfl) (by kernel_rfl) (fun _ _ _ h => h) (Or.inl ⟨by rfl, ?_⟩) hHeld ?_
                rotate_left
                · intro W hSW; obtain ⟨hSW0, hSW1, hSW2⟩ := hSW; go_simp; first | done | with_reducible rfl
                (try simp only [Act.put, List.setIfInBounds_toArray, List.set_cons_zero, List.set_cons_succ])
                refine wpAnyH_take (i := 13) (oi := ⟨some 133, _, _, _, _, _⟩) (v := ?_) rfl (by kernel_rfl) (by kernel_rfl) (by kernel_rfl) (fun _ _ _ h => h) (Or.inl ⟨by rfl, ?_⟩) hHeld ?_
                rotate_left
                · intro W hSW; obtain ⟨hSW0, hSW1, hSW2⟩ := hSW; go_simp; first | done | with_reducible rfl
                (try simp only [Act.put, List.setIfInBounds_toArray, List.set_cons_zero, List.set_cons_succ])
                refine wpAnyH_take (i := 14) (oi := ⟨some 134, _, _, _, _, _⟩) (v := ?_) rfl (by kernel_rfl) (by kernel_rfl) (by kernel_rfl) (fun _ _ _ h => h) (Or.inl ⟨by rfl, ?_⟩) hHeld ?_
                rotate_left
                · intro W hSW; obtain ⟨hSW0, hSW1, hSW2⟩ := hSW; go_simp; first | done | with_reducible rfl
                (try simp only [Act.put, List.setIfInBounds_toArray, List.set_cons_zero, List.set_cons_succ])
                refine wpAnyH_take (i := 15) (oi := ⟨some 135, _, _, _, _, _⟩) (v := ?_) rfl (by kernel_rfl) (by kernel_rfl) (by kernel_rfl) (fun _ _ _ h => h) (Or.inl ⟨by rfl, ?_⟩) hHeld ?_
                rotate_left
                · intro W hSW; obtain ⟨hSW0, hSW1, hSW2⟩ := hSW; go_simp; first | done | with_reducible rfl
                (try simp only [Act.put, List.setIfInBounds_toArray, List.set_cons_zero, List.set_cons_succ])
                refine wpAnyH_ready (rs := [16]) (by kernel_rfl) (by simp) ?_
                refine AllReadyH.cons (o := ⟨some 136, _, _, _, _, _⟩) rfl (fun K hK => ?_) (AllReadyH.nil)
                go_simp
                refine (CP2.out _).mono ?_
                rintro e W' ⟨rfl, rfl⟩
                clear hHeld
                refine hK.out _ _ ?_ (fun hHeld => ?_)
                · exact SR2
                clear hK K
                (try simp only [Act.put, List.setIfInBounds_toArray, List.set_cons_zero, List.set_cons_succ])
                refine wpAnyH_ready (rs := [17]) (by kernel_rfl) (by simp) ?_
                refine AllReadyH.cons (o := ⟨some 137, _, _, _, _, _⟩) rfl (fun K hK => ?_) (AllReadyH.nil)
                go_simp
                refine (CH2.out _).mono ?_
                rintro e WW2 ⟨rfl, bb2⟩
                clear hHeld
                have bw2 := Below.then_ bw1 bb2
                have SR3 := hKeep _ bw2
                refine hK.out _ _ ?_ (fun hHeld => ?_)
                · exact SR3
                clear hK K
                (try simp only [Act.put, List.setIfInBounds_toArray, List.set_cons_zero, List.set_cons_succ])
                refine wpAnyH_take (i := 18) (oi := ⟨some 138, _, _, _, _, _⟩) (v := ?_) rfl (by kernel_rfl) (by kernel_rfl) (by kernel_rfl) (fun _ _ _ h => h) (Or.inl ⟨by rfl, ?_⟩) hHeld ?_
                rotate_left
                · intro W hSW; obtain ⟨hSW0, hSW1, hSW2⟩ := hSW; go_simp; first | done | with_reducible rfl
                (try simp only [Act.put, List.setIfInBounds_toArray, List.set_cons_zero, List.set_cons_succ])
                refine wpAnyH_take (i := 19) (oi := ⟨some 139, _, _, _, _, _⟩) (v := ?_) rfl (by kernel_rfl) (by kernel_rfl) (by kernel_rfl) (fun _ _ _ h => h) (Or.inl ⟨by rfl, ?_⟩) hHeld ?_
                rotate_left
                · intro W hSW; obtain ⟨hSW0, hSW1, hSW2⟩ := hSW; go_simp; first | done | with_reducible rfl
                (try simp only [Act.put, List.setIfInBounds_toArray, List.set_cons_zero, List.set_cons_succ])
                refine wpAnyH_take (i := 20) (oi := ⟨some 140, _, _, _, _, _⟩) (v := _) rfl (by kernel_rfl) (by kernel_rfl) (by kernel_rfl) (fun _ _ _ h => h) (yields_mid (by rfl) 39 _ (by rfl) g15 0 (by rfl) (mv base M) _ (fun W h => h.1) Try.underlying39 rfl (infoMap _ _)) hHeld ?_
                (try simp only [Act.put, List.setIfInBounds_toArray, List.set_cons_zero, List.set_cons_succ])
                refine wpAnyH_take (i := 21) (oi := ⟨some 141, _, _, _, _, _⟩) (v := ?_) rfl (by kernel_rfl) (by kernel_rfl) (by kernel_rfl) (fun _ _ _ h => h) (Or.inl ⟨by rfl, ?_⟩) hHeld ?_
                rotate_left
                · intro W hSW; obtain ⟨hSW0, hSW1, hSW2⟩ := hSW; go_simp; first | done | with_reducible rfl
                (try simp only [Act.put, List.setIfInBounds_toArray, List.set_cons_zero, List.set_cons_succ])
                refine wpAnyH_take (i := 22) (oi := ⟨some 142, _, _, _, _, _⟩) (v := ?_) rfl (by kernel_rfl) (by kernel_rfl) (by kernel_rfl) (fun _ _ _ h => h) (Or.inl ⟨by rfl, ?_⟩) hHeld ?_
                rotate_left
                · intro W hSW; obtain ⟨hSW0, hSW1, hSW2⟩ := hSW; go_simp; first | done | with_reducible rfl
                (try simp only [Act.put, List.setIfInBounds_toArray, List.set_cons_zero, List.set_cons_succ])
                refine wpAnyH_take (i := 23) (oi := ⟨some 143, _, _, _, _, _⟩) (v := ?_) rfl (by kernel_rfl) (by kernel_rfl) (by kernel_rfl) (fun _ _ _ h => h) (Or.inl ⟨by rfl, ?_⟩) hHeld ?_
                rotate_left
                · intro W hSW; obtain ⟨hSW0, hSW1, hSW2⟩ := hSW; go_simp; first | done | with_reducible rfl
                (try simp only [Act.put, List.setIfInBounds_toArray, List.set_cons_zero, List.set_cons_succ])
                refine wpAnyH_take (i := 24) (oi := ⟨some 144, _, _, _, _, _⟩) (v := ?_) rfl (by kernel_rfl) (by kernel_rfl) (by kernel_rfl) (fun _ _ _ h => h) (Or.inl ⟨by rfl, ?_⟩) hHeld ?_
                rotate_left
                · intro W hSW; obtain ⟨hSW0, hSW1, hSW2⟩ := hSW; go_simp; first | done | with_reducible rfl
                (try simp only [Act.put, List.setIfInBounds_toArray, List.set_cons_zero, List.set_cons_succ])
                refine wpAnyH_ready (rs := [25]) (by kernel_rfl) (by simp) ?_
                refine AllReadyH.cons (o := ⟨some 145, _, _, _, _, _⟩) rfl (fun K hK => ?_) (AllReadyH.nil)
                go_simp
                refine (CP3.out _).mono ?_
                rintro e W' ⟨rfl, rfl⟩
                clear hHeld
                refine hK.out _ _ ?_ (fun hHeld => ?_)
                · exact SR3
                clear hK K
                (try simp only [Act.put, List.setIfInBounds_toArray, List.set_cons_zero, List.set_cons_succ])
                refine wpAnyH_ready (rs := [26]) (by kernel_rfl) (by simp) ?_
                refine AllReadyH.cons (o := ⟨some 146, _, _, _, _, _⟩) rfl (fun K hK => ?_) (AllReadyH.nil)
                go_simp
                refine (CH3.out _).mono ?_
                rintro e WW3 ⟨rfl, bb3⟩
                clear hHeld
                have bw3 := Below.then_ bw2 bb3
                have SR4 := hKeep _ bw3
                refine hK.out _ _ ?_ (fun hHeld => ?_)
                · exact SR4
                clear hK K
                (try simp only [Act.put, List.setIfInBounds_toArray, List.set_cons_zero, List.set_cons_succ])
                refine wpAnyH_take (i := 27) (oi := ⟨some 147, _, _, _, _, _⟩) (v := ?_) rfl (by kernel_rfl) (by kernel_rfl) (by kernel_rfl) (fun _ _ _ h => h) (Or.inl ⟨by rfl, ?_⟩) hHeld ?_
                rotate_left
                · intro W hSW; obtain ⟨hSW0, hSW1, hSW2⟩ := hSW; go_simp; first | done | with_reducible rfl
                (try simp only [Act.put, List.setIfInBounds_toArray, List.set_cons_zero, List.set_cons_succ])
                refine wpAnyH_take (i := 28) (oi := ⟨some 148, _, _, _, _, _⟩) (v := ?_) rfl (by kernel_rfl) (by kernel_rfl) (by kernel_rfl) (fun _ _ _ h => h) (Or.inl ⟨by rfl, ?_⟩) hHeld ?_
                rotate_left
                · intro W hSW; obtain ⟨hSW0, hSW1, hSW2⟩ := hSW; go_simp; first | done | with_reducible rfl
                (try simp only [Act.put, List.setIfInBounds_toArray, List.set_cons_zero, List.set_cons_succ])
                refine wpAnyH_take (i := 29) (oi := ⟨some 6, _, _, _, _, _⟩) (v := ?_) rfl (by kernel_rfl) (by kernel_rfl) (by kernel_rfl) (fun _ _ _ h => h) (Or.inl ⟨by rfl, ?_⟩) hHeld ?_
                rotate_left
                · intro W hSW; obtain ⟨hSW0, hSW1, hSW2⟩ := hSW; go_simp; first | done | with_reducible rfl
                (try simp only [Act.put, List.setIfInBounds_toArray, List.set_cons_zero, List.set_cons_succ])
                refine wpAnyH_done (by kernel_rfl) ?_ _
                refine NoPanic.normal ?_
                clear hHeld

                go_wp2
                go_ret
                exact ⟨rfl, beln.trans (bw3.mono beln.size)⟩
end Go.Proofs.Ytboloaglakehkaa
