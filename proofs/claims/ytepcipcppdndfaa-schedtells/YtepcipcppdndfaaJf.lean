/-
  Layer 22 (which version goes out next): a plan as a block, New, Sent, Next, Tries; the reference's Next; the first test.
-/
import Derived.Test.YtepcipcppdndfaaMem
import Derived.Test.YtepcipcppdndfaaMc
import Derived.Test.YtepcipcppdndfaaMg
import Derived.Test.YtepcipcppdndfaaMq
import Derived.Deep.CutRange
namespace Go.Proofs.Ytepcipcppdndfaa
open Go.RowKit
set_option linter.unusedVariables false
set_option linter.unusedSimpArgs false
set_option maxRecDepth 100000

/-- A plan as cells. -/
def pl (b t : Nat) : Array Value := #[.int .i64 (b : Int), .int .i64 (t : Int)]
theorem infoPlan (b t : Nat) : (Try.prog.info? 76).map (·.size) = some (pl b t).size := (show (Try.prog.info? 76).map (·.size) = some 2 by kernel_rfl)
theorem info31s : (Try.prog.info? 3).map (·.size) = some 1 := by kernel_rfl
/-- How many versions went out. -/
def sn (b t : Nat) : Nat := if t = 0 then 0 else b + t - 1
/-- The versions that went out first. -/
def vl (m : Nat) : List Int := (List.range m).map fun i => ((i % 4 : Nat) : Int)
/-- The versions of the next try. -/
def nx (b t : Nat) : List Int := (vl (sn b (t + 1))).drop (sn b t)
theorem vl_length (m : Nat) : (vl m).length = m := by simp [vl]
theorem vl_succ (m : Nat) : vl (m + 1) = vl m ++ [((m % 4 : Nat) : Int)] := by unfold vl; rw [List.range_succ, List.map_append]; rfl
theorem vl_get (m i : Nat) (h : i < m) : (vl m).getD i 0 = ((i % 4 : Nat) : Int) := by simp [vl, List.getD, h]
theorem sn_le (b t : Nat) : sn b t ≤ sn b (t + 1) := by unfold sn; split <;> simp <;> omega
theorem nx_length (b t : Nat) : (nx b t).length = sn b (t + 1) - sn b t := by unfold nx; rw [List.length_drop, vl_length]
theorem nx_get (b t i : Nat) (h : i < (nx b t).length) : (nx b t).getD i 0 = (((sn b t + i) % 4 : Nat) : Int) := by
  rw [nx_length] at h
  unfold nx
  rw [show ((vl (sn b (t + 1))).drop (sn b t)).getD i 0 = (vl (sn b (t + 1))).getD (sn b t + i) 0 by simp [List.getD, List.getElem?_drop]]
  exact vl_get _ _ (by omega)
theorem drop_snoc (k m : Nat) (h : k ≤ m) : (vl (m + 1)).drop k = (vl m).drop k ++ [((m % 4 : Nat) : Int)] := by
  rw [vl_succ, List.drop_append_of_le_length (by rw [vl_length]; exact h)]
theorem drop_none (k : Nat) : (vl k).drop k = [] := by rw [List.drop_eq_nil_iff, vl_length]; exact Nat.le_refl _

/-- One block is written, new ones are made. -/
structure Chg (w w' : World) (g : Nat) (t : TypeId) (cs : Array Value) : Prop where
  row : Blk w' g t cs
  gr : w.grownBy w' (some g)
theorem Chg.size {w w' : World} {g : Nat} {t : TypeId} {cs : Array Value} (h : Chg w w' g t cs) : w.heap.size ≤ w'.heap.size := h.gr.size
theorem Chg.below {w w' : World} {g B : Nat} {t : TypeId} {cs : Array Value} (h : Chg w w' g t cs) (hB : B ≤ g) (hs : B ≤ w.heap.size) : Below B w w' :=
  ⟨h.gr.os, h.gr.tape, h.gr.output, h.gr.size, fun k hk => h.gr.block k (by omega) (by simp; omega)⟩
theorem Own.chg {w w' : World} {base : Nat} {e : TypeId} {A : Option Addr} {n c : Nat} {xs : List Value} {row : Option Nat} (h : Own w base e A n c xs) (hg : w.grownBy w' row) (hne : ∀ k, blk A = some k → row ≠ some k) : Own w' base e A n c xs :=
  ⟨h.row.kept hg (by
    rw [blk_own]
    cases hb : blk A with
    | none => exact .inl rfl
    | some k => exact .inr (by have := hne k hb; exact fun e => this e.symm))⟩

set_option maxHeartbeats 400000 in
theorem schedNew (b : Nat) (w : World) (hb : 1 ≤ b ∧ b ≤ 4) :
    Calls Try.prog 36 #[.int .i64 (b : Int)] w fun e w' => e = .returned (.tuple #[.pointer (some ⟨w.heap.size, 0, none⟩), .int .i64 0]) ∧ Laid w w' 76 (pl b 0) := by
  have d1 : decide ((b : Int) < 1) = false := by simp; omega
  have d2 : decide ((4 : Int) < (b : Int)) = false := by simp; omega
  go_enter Try.func36, Try.ntmps36
  go_wp2_with (refine at_box rfl 76 _ rfl (pl b 0) rfl ?_; intro w1 L1)
  go_ret2
  exact ⟨rfl, L1⟩
set_option maxHeartbeats 400000 in
theorem schedNo (b : Int) (w : World) (hb : b < 1 ∨ 4 < b) :
    Calls Try.prog 36 #[.int .i64 b] w fun e w' => e = .returned (.tuple #[.pointer none, .int .i64 1]) ∧ w = w' := by
  by_cases h : b < 1
  · clear hb
    go_enter Try.func36, Try.ntmps36
    go_wp2
    go_ret2
    exact ⟨rfl, rfl⟩
  · have h2 : 4 < b := by omega
    clear hb
    go_enter Try.func36, Try.ntmps36
    go_wp2
    go_ret2
    exact ⟨rfl, rfl⟩
theorem nilPlan : ∀ W, (binOp .eql 61 (.pointer none) (.pointer none)).run Try.prog W = .ok (.bool true) W := fun _ => by kernel_rfl
set_option maxHeartbeats 400000 in
/-- (*Plan).Sent. -/
theorem sentC (g b t : Nat) (w : World) (hq : Blk w g 76 (pl b t)) (hb : 1 ≤ b ∧ b ≤ 4) (ht : t ≤ 1000) :
    Calls Try.prog 41 #[.pointer (some ⟨g, 0, none⟩)] w fun e w' => e = .returned (.int .i64 ((sn b t : Nat) : Int)) ∧ ∃ m, w' = w.drewN m := by
  have c0 : w.cell? ⟨g, 0, none⟩ = some (.int .i64 (b : Int)) := (hq.cell 0).trans rfl
  have c1 : w.cell? ⟨g, 1, none⟩ = some (.int .i64 (t : Int)) := (hq.cell 1).trans rfl
  clear hq
  by_cases h : t = 0
  · subst h
    go_enter Try.func41, Try.ntmps41
    go_wp2
    go_ret
    exact ⟨rfl, 0, rfl⟩
  · have d0 : ((t : Int) == 0) = false := by simp; omega
    obtain ⟨s, hs⟩ : ∃ s : Nat, sn b t = s := ⟨_, rfl⟩
    have e : (b : Int) + (t : Int) - 1 = (s : Int) := by rw [← hs]; unfold sn; rw [if_neg h]; omega
    rw [hs]
    clear hs h
    go_enter Try.func41, Try.ntmps41
    go_upto_region 3 with fail
    go_region
    go_wp2
    go_ret
    exact ⟨rfl, 1, rfl⟩
set_option maxHeartbeats 400000 in
theorem sentNil (w : World) : Calls Try.prog 41 #[.pointer none] w fun e w' => e = .returned (.int .i64 0) ∧ w = w' := by
  have hn := nilPlan
  go_enter Try.func41, Try.ntmps41
  go_wp2
  go_ret
  exact ⟨rfl, rfl⟩
set_option maxHeartbeats 400000 in
theorem triesNil (w : World) : Calls Try.prog 40 #[.pointer none] w fun e w' => e = .returned (.int .i64 0) ∧ w = w' := by
  have hn := nilPlan
  go_enter Try.func40, Try.ntmps40
  go_wp2
  go_ret
  exact ⟨rfl, rfl⟩
set_option maxHeartbeats 400000 in
theorem nextNil (w : World) : Calls Try.prog 39 #[.pointer none] w fun e w' => e = .returned (.slice none 0 0) ∧ w = w' := by
  have hn := nilPlan
  go_enter Try.func39, Try.ntmps39
  go_wp2
  go_ret
  exact ⟨rfl, rfl⟩
set_option maxHeartbeats 400000 in
theorem noneC (w : World) : Calls Try.prog 38 #[] w fun e w' => e = .returned (.pointer none) ∧ w = w' := by
  go_enter Try.func38, Try.ntmps38
  go_wp2
  go_ret
  exact ⟨rfl, rfl⟩
set_option maxHeartbeats 400000 in
theorem triesC (g b t : Nat) (w : World) (hq : Blk w g 76 (pl b t)) :
    Calls Try.prog 40 #[.pointer (some ⟨g, 0, none⟩)] w fun e w' => e = .returned (.int .i64 (t : Int)) ∧ w = w' := by
  have c1 : w.cell? ⟨g, 1, none⟩ = some (.int .i64 (t : Int)) := (hq.cell 1).trans rfl
  clear hq
  go_enter Try.func40, Try.ntmps40
  go_wp2
  go_ret
  exact ⟨rfl, rfl⟩
/-- What Next gives. -/
def NextOk (w : World) (g b t : Nat) (e : Ending) (w' : World) : Prop := ∃ A c, e = .returned (.slice A (nx b t).length c) ∧ Own w' w.heap.size 3 A (nx b t).length c (I64 (nx b t)) ∧ Chg w w' g 76 (pl b (t + 1))
set_option maxHeartbeats 1000000 in
/-- (*Plan).Next. -/
theorem nextC (g b t : Nat) (w : World) (hq : Blk w g 76 (pl b t)) (hb : 1 ≤ b ∧ b ≤ 4) (ht : t ≤ 900) :
    Calls Try.prog 39 #[.pointer (some ⟨g, 0, none⟩)] w (NextOk w g b t) := by
  have c1 : w.cell? ⟨g, 1, none⟩ = some (.int .i64 (t : Int)) := (hq.cell 1).trans rfl
  have CS := Lib.hid (sentC g b t w hq hb (by omega))
  obtain ⟨a, ha⟩ : ∃ a, sn b t = a := ⟨_, rfl⟩
  obtain ⟨z, hz⟩ : ∃ z, sn b (t + 1) = z := ⟨_, rfl⟩
  have haz : a ≤ z := by rw [← ha, ← hz]; exact sn_le b t
  have hz2 : z ≤ 1000 := by rw [← hz]; unfold sn; rw [if_neg (by omega)]; omega
  have HX : Hid (nx b t = (vl z).drop a) := by unfold Hid nx; rw [ha, hz]
  have HNL : Hid ((nx b t).length = z - a) := by unfold Hid; rw [nx_length, ha, hz]
  have CZ : Hid (∀ W, Blk W g 76 (pl b (t + 1)) → Calls Try.prog 41 #[.pointer (some ⟨g, 0, none⟩)] W fun e w' => e = .returned (.int .i64 (z : Int)) ∧ ∃ m, w' = W.drewN m) := fun W h => by
    have := sentC g b (t + 1) W h hb (by omega)
    rw [hz] at this
    exact this
  rw [ha] at CS
  have hgl := hq.lt
  obtain ⟨t1, ht1⟩ : ∃ t1, t1 = t + 1 := ⟨_, rfl⟩
  have HT := Lib.hid ht1
  have et : (t : Int) + 1 = (t1 : Int) := by omega
  rw [← ht1] at CZ
  have HSZ : Hid ((pl b t).setIfInBounds 1 (.int .i64 (t1 : Int)) = pl b t1) := rfl
  clear ha hz ht1
  go_enter Try.func39, Try.ntmps39
  go_upto_region 5 with (go_at_call 41; refine CS.out.mono ?_; rintro e w1 ⟨rfl, m1, rfl⟩)
  have bel1 : Below w.heap.size w (w.drewN m1) := below_drawn m1
  have q1 := hq.after bel1
  have c11 : (w.drewN m1).cell? ⟨g, 1, none⟩ = some (.int .i64 (t : Int)) := (q1.cell 1).trans rfl
  generalize hW1 : w.drewN m1 = w1 at *
  clear hW1 c1
  go_upto_region 6 with (refine at_cell rfl 3 _ _ rfl g 1 (.int .i64 (t1 : Int)) rfl rfl 76 (pl b t) q1 (show 1 < 2 by omega) info31s rfl ?_; intro w2 U2)
  have q2 : Blk w2 g 76 (pl b t1) := by have := U2.row; rw [HSZ.out] at this; exact this
  have gr2 : w.grownBy w2 (some g) := ⟨U2.os.trans bel1.os, U2.tape.trans bel1.tape, U2.output.trans bel1.output, by rw [U2.size]; exact bel1.size, fun k hk hne => (U2.oth k (by intro e; exact hne (by rw [e]))).trans (bel1.block k hk)⟩
  have hs2 : w.heap.size ≤ w2.heap.size := gr2.size
  clear U2 bel1 q1 c11 hq CS
  go_wp2
  go_loopw [3, 5] (fun s i wr => ∃ k : Nat, a ≤ k ∧ k ≤ z ∧ i = .int .i64 k ∧ ∃ A1 c1, s = .slice A1 (k - a) c1 ∧ Own wr w.heap.size 3 A1 (k - a) c1 (I64 ((vl k).drop a)) ∧ Blk wr g 76 (pl b t1) ∧ w.grownBy wr (some g)) (fun _ i _ => z - (intOf i).toNat)
  case atStart => exact ⟨a, Nat.le_refl _, haz, rfl, none, 0, by rw [Nat.sub_self], by rw [Nat.sub_self, drop_none]; exact Own.nil _ _ _, q2, gr2⟩
  case round =>
    clear q2 gr2 hs2
    obtain ⟨k, hk1, hk2, rfl, A1, c1, rfl, own, q, gr⟩ := hrel
    have C := Lib.hid (CZ.out wr q)
    by_cases hlt : k < z
    · obtain ⟨r, hr⟩ : ∃ r : Nat, r = k % 4 := ⟨_, rfl⟩
      have er : (k : Int) % 4 = (r : Int) := by omega
      have HD : Hid ((vl (k + 1)).drop a = (vl k).drop a ++ [(r : Int)]) := by unfold Hid; rw [drop_snoc a k hk1, hr]
      obtain ⟨n, hn⟩ : ∃ n, n = k - a := ⟨_, rfl⟩
      have HN : Hid (n + 1 = k + 1 - a) := by unfold Hid; omega
      have hn3 : n ≤ 1000 := by omega
      rw [← hn] at own
      rw [← hn]
      have d1 : decide ((k : Int) < (z : Int)) = true := by simp; omega
      clear hr hn
      generalize (vl k).drop a = L at *
      go_upto_region 9 with (go_at_call 41; refine C.out.mono ?_; rintro e w3 ⟨rfl, m3, rfl⟩)
      have be3 : Below wr.heap.size wr (wr.drewN m3) := below_drawn m3
      replace own := own.below be3 (Nat.le_refl _)
      replace q := q.after be3
      replace gr : w.grownBy (wr.drewN m3) (some g) := ⟨be3.os.trans gr.os, be3.tape.trans gr.tape, be3.output.trans gr.output, Nat.le_trans gr.size be3.size, fun j hj hne => (be3.block j (Nat.lt_of_lt_of_le hj gr.size)).trans (gr.block j hj hne)⟩
      generalize wr.drewN m3 = w3 at *
      have hsz := gr.size
      clear be3 C
      go_wp2_with (at_builtin; refine app64 _ rfl _ _ rfl w.heap.size _ _ _ _ (r : Int) rfl own rfl (by omega) hsz ?_; intro A3 c3 w4 own3 gr3)
      have hne : ∀ j, (Value.slice A1 n c1).ownBlock = some j → w.heap.size ≤ j := fun j hj => (own.block j hj).1
      go_roundw
      case rel =>
        refine ⟨k + 1, by omega, by omega, by go_num, A3, c3, by rw [HN.out], by rw [← HN.out, HD.out]; exact own3, q.grown gr3 (fun e => ?_), ⟨gr3.os.trans gr.os, gr3.tape.trans gr.tape, gr3.output.trans gr.output, Nat.le_trans gr.size gr3.size, fun j hj hnj => (gr3.block j (by omega) (fun e => ?_)).trans (gr.block j hj hnj)⟩⟩
        · have := hne g e; omega
        · have := hne j e.symm; omega
      case measure => simp [intOf] <;> omega
    · obtain rfl : k = z := by omega
      have d1 : decide ((k : Int) < (k : Int)) = false := by simp
      have HN : Hid (k - a = (nx b t).length) := by unfold Hid; rw [HNL.out]
      obtain ⟨n, hn⟩ : ∃ n, n = k - a := ⟨_, rfl⟩
      rw [← hn] at own HN
      rw [← hn]
      clear hn hlt
      have HOW : Hid (Own wr w.heap.size 3 A1 n c1 (I64 (nx b t))) := by unfold Hid; rw [HX.out]; exact own
      clear own
      go_upto_region 10 with (go_at_call 41; refine C.out.mono ?_; rintro e w3 ⟨rfl, m3, rfl⟩)
      have be3 : Below wr.heap.size wr (wr.drewN m3) := below_drawn m3
      have HOW2 : Hid (Own (wr.drewN m3) w.heap.size 3 A1 n c1 (I64 (nx b t))) := HOW.out.below be3 (Nat.le_refl _)
      replace q := q.after be3
      replace gr : w.grownBy (wr.drewN m3) (some g) := ⟨be3.os.trans gr.os, be3.tape.trans gr.tape, be3.output.trans gr.output, Nat.le_trans gr.size be3.size, fun j hj hne => (be3.block j (Nat.lt_of_lt_of_le hj gr.size)).trans (gr.block j hj hne)⟩
      generalize wr.drewN m3 = w3 at *
      clear be3 HOW C
      go_wp2
      go_ret
      exact ⟨A1, c1, by rw [← HN.out]; rfl, by rw [← HN.out]; exact HOW2.out, by rw [← HT.out]; exact ⟨q, gr⟩⟩
end Go.Proofs.Ytepcipcppdndfaa
