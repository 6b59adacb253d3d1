/-
  Maps of numbers from 1 to 32 ahead; flags; which haven't come.
-/
import Derived.Test.YtboloaglakehkaaDoorZe
import Derived.Test.YtboloaglakehkaaDoorMg
namespace Go.Proofs.YtboloaglakehkaaDoor
open Go.RowKit
set_option maxRecDepth 100000
set_option linter.unusedVariables false
set_option linter.unusedSimpArgs false

theorem Below.rangeB {w w' : World} {g : Nat} {t : TypeId} {cs : Array Value} (h : Blk w g t cs) (hb : Below w.heap.size w w') : w'.rangeAt g 0 cs.toList :=
  (h.after hb).range 0 _ (fun i u hu => by rw [Nat.zero_add]; rw [Array.getElem?_toList] at hu; exact hu)
/-- So many on, from 1 to 32. -/
def dd (z : Int) : Nat := 1 + ((z % 18446744073709551616) % 32).toNat
theorem dd_in (z : Int) : 1 ≤ dd z ∧ dd z ≤ 32 := by unfold dd; omega
def nx16 (base : Int) (d : Nat) : Nat := ((base + (d : Int)) % 65536).toNat
theorem nx16_eq (base : Int) (d : Nat) : ((nx16 base d : Nat) : Int) = (base + (d : Int)) % 65536 := by unfold nx16; omega
def cl (base : Int) (zs : List Int) : List Nat := zs.map fun z => nx16 base (dd z)
/-- Numbers that a map tells of. -/
structure InR (base : Int) (a : Nat) : Prop where
  lt : a < 65536
  bf : bf a base = false
  lo : 1 ≤ dsn base a
  hi : dsn base a ≤ 32
theorem dsn_nx (base : Int) (d : Nat) (hd : d < 65536) : dsn base (nx16 base d) = d := by
  unfold dsn
  rw [nx16_eq]
  omega
theorem inR_nx (base : Int) (d : Nat) (h : 1 ≤ d ∧ d ≤ 32) : InR base (nx16 base d) := by
  have e := nx16_eq base d
  refine ⟨by unfold nx16; omega, bf_false (.inr (by omega)), ?_, ?_⟩
  · rw [dsn_nx base d (by omega)]; omega
  · rw [dsn_nx base d (by omega)]; omega
theorem cl_in (base : Int) (zs : List Int) : ∀ a ∈ cl base zs, InR base a := by
  intro a ha
  obtain ⟨z, _, rfl⟩ := List.mem_map.1 ha
  exact inR_nx base (dd z) (dd_in z)
theorem far_in {base : Int} {l : List Nat} (h : ∀ a ∈ l, InR base a) : farA base l = false := by
  unfold farA
  rw [List.any_eq_false]
  intro a ha
  have := (h a ha).hi
  simp; omega
theorem own_in {base : Int} {l : List Nat} (h : ∀ a ∈ l, InR base a) : ownA base l = false := by
  unfold ownA
  rw [List.any_eq_false]
  intro a ha
  have := (h a ha).lo
  simp; omega
theorem of_in {base : Int} {l : List Nat} (h : ∀ a ∈ l, InR base a) : ofV base l = mv base (orl base l) ∧ ofE base l = 0 := by
  unfold ofV ofE
  rw [far_in h, own_in h]
  exact ⟨rfl, rfl⟩
theorem orl_lt {base : Int} {l : List Nat} (h : ∀ a ∈ l, dsn base a ≤ 32) : orl base l < 4294967296 := by
  have key : ∀ (l : List Nat) (m : Nat), (∀ a ∈ l, dsn base a ≤ 32) → m < 4294967296 → l.foldl (orS base) m < 4294967296 := by
    intro l
    induction l with
    | nil => intro m _ hm; exact hm
    | cons a l ih => intro m h hm; exact ih _ (fun b hb => h b (List.mem_cons_of_mem _ hb)) (orS_lt hm (h a List.mem_cons_self))
  exact key l 0 h (by omega)
theorem take_cl (base : Int) (zs : List Int) (k : Nat) (h : k < zs.length) : cl base (zs.take (k + 1)) = cl base (zs.take k) ++ [nx16 base (dd (zs.getD k 0))] := by
  unfold cl
  rw [List.take_succ_eq_append_getElem h, List.map_append]
  simp [List.getD, h]
theorem orl_bit (base : Int) (l : List Nat) (j : Nat) : (orl base l).testBit j = l.any fun a => !bf a base && decide (dsn base a = j + 1) := by
  have key : ∀ (l : List Nat) (m : Nat), (l.foldl (orS base) m).testBit j = (m.testBit j || l.any fun a => !bf a base && decide (dsn base a = j + 1)) := by
    intro l
    induction l with
    | nil => intro m; simp
    | cons a l ih =>
      intro m
      rw [List.foldl_cons, ih, List.any_cons, ← Bool.or_assoc]
      congr 1
      unfold orS
      split
      · rename_i h
        rcases h with h | h
        · rw [h]; simp
        · rw [decide_eq_false (p := dsn base a = j + 1) (by omega)]; simp
      · rename_i h
        have h1 : bf a base = false := by
          cases hc : bf a base with
          | true => exact absurd (.inl hc) h
          | false => rfl
        have h2 : dsn base a ≠ 0 := fun hc => h (.inr hc)
        rw [Nat.testBit_or, Nat.testBit_two_pow, h1]
        simp only [Bool.not_false, Bool.true_and]
        congr 1
        rw [decide_eq_decide]
        omega
  have := key l 0
  rw [Nat.zero_testBit, Bool.false_or] at this
  exact this
/-- Flags as cells. -/
def B33 (f : Nat → Bool) : Array Value := ((List.range 33).map fun i => Value.bool (f i)).toArray
theorem B33_size (f : Nat → Bool) : (B33 f).size = 33 := by simp [B33]
theorem B33_get (f : Nat → Bool) (i : Nat) (h : i < 33) : (B33 f)[i]? = some (.bool (f i)) := by simp [B33, h]
theorem B33_set (f : Nat → Bool) (d : Nat) (h : d < 33) : (B33 f).setIfInBounds d (.bool true) = B33 (fun j => f j || decide (d = j)) := by
  apply Array.ext_getElem?
  intro i
  by_cases hi : i < 33
  · rw [B33_get _ i hi, Array.getElem?_setIfInBounds]
    by_cases e : d = i
    · rw [if_pos e, if_pos (by rw [B33_size]; omega), decide_eq_true e, Bool.or_true]
    · rw [if_neg e, B33_get _ i hi, decide_eq_false e, Bool.or_false]
  · rw [Array.getElem?_eq_none (by rw [Array.size_setIfInBounds, B33_size]; omega), Array.getElem?_eq_none (by rw [B33_size]; omega)]
theorem zeroHas : (Tryd.prog.info? 55).bind (fun i => i.zero.map (fun z => z.cells)) = some (B33 fun _ => false) := by kernel_rfl
theorem infoBool : (Tryd.prog.info? 4).map (·.size) = some 1 := by kernel_rfl
theorem ms_prefix (base : Int) (more : Nat) (fr : Int) (i j : Nat) (h : i ≤ j) : ∃ r, ms base more fr j = ms base more fr i ++ r := by
  induction j with
  | zero => exact ⟨[], by rw [show i = 0 by omega]; simp⟩
  | succ j ih =>
    by_cases e : i = j + 1
    · exact ⟨[], by rw [e]; simp⟩
    · obtain ⟨r, hr⟩ := ih (by omega)
      have ha : ((((fr + (j : Int)) % 65536).toNat : Nat) : Int) = (fr + (j : Int)) % 65536 := by omega
      cases hc : hm base more (((fr + (j : Int)) % 65536).toNat : Nat) with
      | true => exact ⟨r, by rw [ms_yes base more fr j _ ha hc, hr]⟩
      | false => exact ⟨r ++ [((fr + (j : Int)) % 65536).toNat], by rw [ms_no base more fr j _ ha hc, hr, List.append_assoc]⟩

/-- Which have come. -/
def hasD (zs : List Int) (j : Nat) : Bool := zs.any fun z => decide (dd z = j)
theorem B33_noneD : B33 (hasD []) = B33 (fun _ => false) := by
  congr 1
theorem hasD_take (zs : List Int) (k : Nat) (h : k < zs.length) : hasD (zs.take (k + 1)) = fun j => hasD (zs.take k) j || decide (dd (zs.getD k 0) = j) := by
  funext j
  unfold hasD
  rw [List.take_succ_eq_append_getElem h, List.any_append]
  simp [List.getD, h]
theorem hm_has (base : Int) (zs : List Int) (n : Nat) (hn : n ≤ 32) (hb : 0 ≤ base ∧ base < 65536) : hm base (orl base (cl base zs)) (nx16 base n) = hasD zs n := by
  have e := dsn_eq base (nx16 base n)
  have e2 := dsn_nx base n (by omega)
  have e3 := nx16_eq base n
  have hbf : bf (nx16 base n) base = false := bf_false (by omega)
  by_cases h0 : n = 0
  · rw [hm_out hbf e (by omega)]
    unfold hasD
    symm
    rw [List.any_eq_false]
    intro z _
    have := (dd_in z).1
    simp; omega
  · rw [hm_in hbf e (by omega) (by omega), e2, orl_bit]
    unfold cl hasD
    rw [List.any_map]
    congr 1
    funext z
    have hz := dd_in z
    show (!bf (nx16 base (dd z)) base && decide (dsn base (nx16 base (dd z)) = n - 1 + 1)) = _
    rw [(inR_nx base (dd z) hz).bf, dsn_nx base (dd z) (by omega)]
    simp only [Bool.not_false, Bool.true_and, decide_eq_decide]
    omega
/-- '!=' of maps that are the same. -/
theorem mapNeq (b : Int) (m : Nat) (w : World) : (binOp .neq 30 (.agg (mv b m)) (.agg (mv b m))).run Tryd.prog w = .ok (.bool false) w := by
  have h0 : ∀ b m, (mv b m)[0]? = some (.int .u16 b) := fun _ _ => rfl
  have h1 : ∀ b m, (mv b m)[1]? = some (.int .u32 (m : Int)) := fun _ _ => rfl
  rw [run_neq_struct, show (10000 : Nat) = 9999 + 1 from rfl, run_equalIn_agg _ _ _ _ _ (by kernel_rfl) (by kernel_rfl), show (9999 : Nat) = 9998 + 1 from rfl]
  simp [Program.fieldsOf, Tryd.underlying30, Op.eqFields, partN _ _ _ (h0 _ _), partM _ _ _ (h1 _ _), run_equalIn_int]
end Go.Proofs.YtboloaglakehkaaDoor
