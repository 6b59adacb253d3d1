/-
  Layer 22: the reference's Next; the first test; the walk of SchedFour.
-/
import Derived.Test.YtepcipcppdndfaaJf
namespace Go.Proofs.Ytepcipcppdndfaa
open Go.RowKit
set_option linter.unusedVariables false
set_option linter.unusedSimpArgs false
set_option maxRecDepth 100000

theorem nx_first (b : Nat) (hb : 1 ≤ b ∧ b ≤ 4) : nx b 0 = vl b := by
  unfold nx sn
  rw [if_pos rfl, if_neg (by omega)]
  rfl
theorem nx_next (b k : Nat) (hk : 1 ≤ k) : nx b k = [(((b + k - 1) % 4 : Nat) : Int)] := by
  have h1 : sn b k = b + k - 1 := by unfold sn; rw [if_neg (by omega)]
  have h2 : sn b (k + 1) = b + k - 1 + 1 := by unfold sn; rw [if_neg (by omega)]; omega
  unfold nx
  rw [h1, h2, drop_snoc _ _ (Nat.le_refl _), drop_none]
  rfl
theorem own_one64 (w : World) (z : Int) : Own (w.alloc (.cells #[.int .i64 z] 3)) w.heap.size 3 (some ⟨w.heap.size, 0, none⟩) 1 1 (I64 [z]) :=
  ⟨World.ownsRow_lit (size := 1) w #[.int .i64 z] 1 (Nat.le_refl _) (by unfold maxLen; omega) rfl⟩
/-- What the reference's Next gives. -/
def RNextOk (w : World) (b k : Nat) (e : Ending) (w' : World) : Prop := ∃ A c, e = .returned (.slice A (nx b k).length c) ∧ Own w' w.heap.size 3 A (nx b k).length c (I64 (nx b k)) ∧ Below w.heap.size w w'
set_option maxHeartbeats 600000 in
theorem refNextFirst (b : Nat) (w : World) (hb : 1 ≤ b ∧ b ≤ 4) :
    Calls Try.prog 42 #[.int .i64 (b : Int), .int .i64 1] w (RNextOk w b 0) := by
  have HX := Lib.hid (nx_first b hb)
  have HL : Hid ((nx b 0).length = b) := by unfold Hid; rw [HX.out, vl_length]
  go_enter Try.func42, Try.ntmps42
  go_wp2
  go_loopw [5, 6] (fun s i wr => ∃ k : Nat, k ≤ b ∧ i = .int .i64 k ∧ ∃ A1 c1, s = .slice A1 k c1 ∧ Own wr w.heap.size 3 A1 k c1 (I64 (vl k)) ∧ Below w.heap.size w wr) (fun _ i _ => b - (intOf i).toNat)
  case atStart => exact ⟨0, Nat.zero_le _, rfl, none, 0, rfl, Own.nil _ _ _, Below.refl _ _⟩
  case round =>
    obtain ⟨k, hk, rfl, A1, c1, rfl, own, bel⟩ := hrel
    by_cases hlt : k < b
    · have HD : Hid (vl (k + 1) = vl k ++ [(k : Int)]) := by unfold Hid; rw [vl_succ, Nat.mod_eq_of_lt (by omega)]
      have d1 : decide ((k : Int) < (b : Int)) = true := by simp; omega
      have hsz := bel.size
      generalize vl k = L at *
      go_wp2_with (at_builtin; refine app64 _ rfl _ _ rfl w.heap.size _ _ _ _ (k : Int) rfl own rfl (by omega) hsz ?_; intro A3 c3 w4 own3 gr3)
      go_roundw
      case rel => exact ⟨k + 1, by omega, by go_num, A3, c3, rfl, by rw [HD.out]; exact own3, bel.grown gr3 hsz (fun j hj => (own.block j hj).1)⟩
      case measure => simp [intOf] <;> omega
    · have HK : Hid (k = b) := by unfold Hid; omega
      go_wp2
      go_ret
      exact ⟨A1, c1, by rw [HL.out, ← HK.out]; rfl, by rw [HL.out, HX.out, ← HK.out]; exact own, bel⟩
set_option maxHeartbeats 600000 in
theorem refNextNext (b k t : Nat) (w : World) (hb : 1 ≤ b ∧ b ≤ 4) (hk : 1 ≤ k) (ht : t = k + 1) (hk2 : k ≤ 1000) :
    Calls Try.prog 42 #[.int .i64 (b : Int), .int .i64 (t : Int)] w (RNextOk w b k) := by
  have HX := Lib.hid (nx_next b k hk)
  obtain ⟨r, hr⟩ : ∃ r, r = (b + k - 1) % 4 := ⟨_, rfl⟩
  rw [← hr] at HX
  have e1 : ((b : Int) + (t : Int) - 2) % 4 = (r : Int) := by omega
  obtain ⟨y, hy⟩ : ∃ y : Nat, (y : Int) = (b : Int) + (t : Int) - 2 := ⟨b + t - 2, by omega⟩
  rw [← hy] at e1
  have e0 : (b : Int) + (t : Int) - 2 = (y : Int) := hy.symm
  have ne : ¬ ((t : Int) = 1) := by omega
  have d0 : ((t : Int) == 1) = false := by simp; omega
  clear hr hy
  have ht3 : t ≤ 1001 := by omega
  have HT := Lib.hid ht
  clear ht
  go_enter Try.func42, Try.ntmps42
  go_wp2
  go_ret
  have hb := (Below.refl w.heap.size w).alloc (Nat.le_refl _) (.cells #[.int .i64 (r : Int)] 3)
  refine ⟨some ⟨w.heap.size, 0, none⟩, 1, by rw [HX.out]; rfl, ?_, hb⟩
  rw [HX.out]
  exact own_one64 w (r : Int)
/-- The reference's Next. -/
theorem refNextC (b k t : Nat) (w : World) (hb : 1 ≤ b ∧ b ≤ 4) (ht : t = k + 1) (hk2 : k ≤ 1000) :
    Calls Try.prog 42 #[.int .i64 (b : Int), .int .i64 (t : Int)] w (RNextOk w b k) := by
  by_cases h : k = 0
  · subst h ht
    exact refNextFirst b w hb
  · exact refNextNext b k t w hb (by omega) ht hk2

set_option maxHeartbeats 1000000 in
/-- The statements' first test. -/
theorem plansC (w : World) : Calls Try.prog 37 #[] w fun e w' => e = .returned (.bool true) ∧ Below w.heap.size w w' := by
  have CN : Hid (Calls Try.prog 36 #[.int .i64 2] w fun e w' => e = .returned (.tuple #[.pointer (some ⟨w.heap.size, 0, none⟩), .int .i64 0]) ∧ Laid w w' 76 (pl 2 0)) := schedNew 2 w (by omega)
  have N0 : nx 2 0 = [0, 1] := by decide
  have N1 : nx 2 1 = [2] := by decide
  have C1 : Hid (∀ g W, Blk W g 76 (pl 2 0) → Calls Try.prog 39 #[.pointer (some ⟨g, 0, none⟩)] W fun e w' => ∃ A c, e = .returned (.slice A 2 c) ∧ Own w' W.heap.size 3 A 2 c (I64 [0, 1]) ∧ Chg W w' g 76 (pl 2 1)) := fun g W h => by
    have := nextC g 2 0 W h (by omega) (by omega)
    unfold NextOk at this
    rw [N0] at this
    exact this
  have C2 : Hid (∀ g W, Blk W g 76 (pl 2 1) → Calls Try.prog 39 #[.pointer (some ⟨g, 0, none⟩)] W fun e w' => ∃ A c, e = .returned (.slice A 1 c) ∧ Own w' W.heap.size 3 A 1 c (I64 [2]) ∧ Chg W w' g 76 (pl 2 2)) := fun g W h => by
    have := nextC g 2 1 W h (by omega) (by omega)
    unfold NextOk at this
    rw [N1] at this
    exact this
  clear N0 N1
  go_enter Try.func37, Try.ntmps37
  go_upto_region 2 with (go_at_call 36; refine CN.out.mono ?_; rintro e w1 ⟨rfl, L1⟩)
  have q1 := L1.row
  have b1 := L1.bel
  obtain ⟨g, hg⟩ : ∃ g, g = w.heap.size := ⟨_, rfl⟩
  rw [← hg] at q1 ⊢
  have HG := Lib.hid hg
  clear hg L1 CN
  have C1 := Lib.hid (C1.out g w1 q1)
  have hgl := q1.lt
  go_upto_region 3 with (first | (go_at_call 39; refine C1.out.mono ?_; rintro e w2 ⟨A1, c1, rfl, own1, ch1⟩) | (go_at_call 39; refine (C2.out g w2 ch1.row).mono ?_; rintro e w3 ⟨A2, c2, rfl, own2, ch2⟩))
  have own1b := own1.chg ch2.gr (fun k hk e => by have := own1.blkLt k hk; injection e with e; omega)
  have q3 := ch2.row
  have bel3 : Below w.heap.size w w3 := (b1.trans (ch1.below (Nat.le_of_eq HG.out.symm) b1.size)).trans (ch2.below (Nat.le_of_eq HG.out.symm) (Nat.le_trans b1.size ch1.size))
  obtain ⟨x1, o1, rfl, _, k1⟩ := own1b.rd.cell64 1 (by omega)
  obtain ⟨x2, o2, rfl, _, k2⟩ := own2.rd.cell64 0 (by omega)
  rw [show ([0, 1] : List Int).getD 1 0 = 1 from rfl] at k1
  rw [show ([2] : List Int).getD 0 0 = 2 from rfl] at k2
  rw [Nat.add_zero] at k2
  have CT : Hid (Calls Try.prog 40 #[.pointer (some ⟨g, 0, none⟩)] w3 fun e w' => e = .returned (.int .i64 2) ∧ w3 = w') := triesC g 2 2 w3 q3
  have CS : Hid (Calls Try.prog 41 #[.pointer (some ⟨g, 0, none⟩)] w3 fun e w' => e = .returned (.int .i64 3) ∧ ∃ m, w' = w3.drewN m) := sentC g 2 2 w3 q3 (by omega) (by omega)
  clear own1 own2 own1b ch1 ch2 C1 C2 q1 q3
  go_wp2_with (first | (go_at_call 40; refine CT.out.mono ?_; rintro e w4 ⟨rfl, rfl⟩) | (go_at_call 41; refine CS.out.mono ?_; rintro e w5 ⟨rfl, m5, rfl⟩))
  go_ret
  exact ⟨rfl, Below.then_ bel3 (below_drawn m5)⟩

/-- Which versions went out, of the first so many. -/
def c4 (m : Nat) : Array Value := #[.int .i64 (if 0 < m then 1 else 0), .int .i64 (if 1 < m then 1 else 0), .int .i64 (if 2 < m then 1 else 0), .int .i64 (if 3 < m then 1 else 0)]
theorem c4_size (m : Nat) : (c4 m).size = 4 := rfl
theorem zero4 : (Try.prog.info? 66).bind (fun i => i.zero.map (fun z => z.cells)) = some (c4 0) := by kernel_rfl
theorem info4s (m : Nat) : (Try.prog.info? 66).map (·.size) = some (c4 m).size := (show (Try.prog.info? 66).map (·.size) = some 4 by kernel_rfl)
theorem c4_get (m : Nat) (h : m < 4) : (c4 m)[m]? = some (.int .i64 0) := by
  have : m = 0 ∨ m = 1 ∨ m = 2 ∨ m = 3 := by omega
  rcases this with rfl | rfl | rfl | rfl <;> rfl
theorem c4_set (m : Nat) (h : m < 4) : (c4 m).setIfInBounds m (.int .i64 1) = c4 (m + 1) := by
  have : m = 0 ∨ m = 1 ∨ m = 2 ∨ m = 3 := by omega
  rcases this with rfl | rfl | rfl | rfl <;> rfl
theorem eq4s : ∀ w, (binOp .eql 66 (.agg #[.int .i64 1, .int .i64 1, .int .i64 1, .int .i64 1]) (.agg #[.int .i64 1, .int .i64 1, .int .i64 1, .int .i64 1])).run Try.prog w = .ok (.bool true) w := fun _ => by kernel_rfl

set_option maxHeartbeats 2000000 in
/-- The walk of SchedFour. -/
theorem schedFour (z : Int) (w : World) :
    Calls Try.prog 13 #[.int .i64 z] w fun e w' => e = .returned (.bool true) ∧ Below w.heap.size w w' := by
  obtain ⟨u, hu, hu2⟩ := wrap_u64 z
  obtain ⟨k, hk, hk2⟩ : ∃ k : Nat, k < 4 ∧ (u : Int) % 4 = (k : Int) := ⟨u % 4, by omega, by omega⟩
  obtain ⟨b, hb⟩ : ∃ b : Nat, b = 1 + k := ⟨_, rfl⟩
  have eb : 1 + (k : Int) = (b : Int) := by omega
  have hb4 : 1 ≤ b ∧ b ≤ 4 := by omega
  obtain ⟨N, hN⟩ : ∃ N : Nat, N = 5 - b := ⟨_, rfl⟩
  have eN : 5 - (b : Int) = (N : Int) := by omega
  have hNb : N + b = 5 := by omega
  have CN := Lib.hid (schedNew b w hb4)
  have CP := Lib.hid plansC
  clear hb hN
  go_enter Try.func13, Try.ntmps13
  go_upto_region 5 with (first | (go_at_call 36; refine CN.out.mono ?_; rintro e w1 ⟨rfl, L1⟩) | (go_at_call 37; refine (CP.out w1).mono ?_; rintro e w2 ⟨rfl, be2⟩))
  have q2 := L1.row.after be2
  have bel2 := Below.then_ L1.bel be2
  have hs2 : w.heap.size < w2.heap.size := by have := be2.size; have := L1.size; omega
  obtain ⟨gp, hgp⟩ : ∃ g, g = w.heap.size := ⟨_, rfl⟩
  rw [← hgp] at q2 hs2 ⊢
  have HG := Lib.hid hgp
  clear hgp L1 be2 CN CP hu hu2 hk2
  go_upto_region 6 with (refine at_alloc rfl 66 rfl (c4 0) zero4 ?_; intro w3 L3)
  have q6 := L3.row
  have q3 := q2.after L3.bel
  have bel3 := Below.then_ bel2 L3.bel
  obtain ⟨g6, hg6⟩ : ∃ g, g = w2.heap.size := ⟨_, rfl⟩
  rw [← hg6] at q6 hs2 ⊢
  have h6 : Hid (w.heap.size ≤ g6) := by unfold Hid; have := HG.out; omega
  clear hg6 L3 q2 bel2
  go_wp2
  go_loopw [7] (fun x wr => ∃ t : Nat, t ≤ N ∧ x = .int .i64 t ∧ Blk wr gp 76 (pl b t) ∧ Blk wr g6 66 (c4 (sn b t)) ∧ Below w.heap.size w wr) (fun x _ => N - (intOf x).toNat)
  case atStart => exact ⟨0, by omega, rfl, q3, q6, bel3⟩
  case round =>
    clear q3 q6 bel3
    obtain ⟨t, ht, rfl, q, q6, bw⟩ := hrel
    by_cases hlt : t < N
    · have C := Lib.hid (nextC gp b t wr q hb4 (by omega))
      have d1 : decide ((t : Int) < (N : Int)) = true := by simp; omega
      have HL := Lib.hid (nx_length b t)
      have HGE := Lib.hid (nx_get b t)
      have HSN : Hid (sn b (t + 1) ≤ 4) := by unfold Hid sn; rw [if_neg (by omega)]; omega
      have HSL := Lib.hid (sn_le b t)
      have h6l := q6.lt
      go_upto_region 10 with (go_at_call 39; refine C.out.mono ?_; rintro e w4 ⟨A4, c4', rfl, own4, ch4⟩)
      have q4 := ch4.row
      have q64 : Blk w4 g6 66 (c4 (sn b t)) := q6.grown ch4.gr (by intro e; injection e with e; omega)
      have bw4 : Below w.heap.size w w4 := bw.trans (ch4.below (Nat.le_of_eq HG.out.symm) bw.size)
      generalize (nx b t).length = L at *
      have hL1 : sn b t + L ≤ 4 := by have := HSL.out; have := HSN.out; have := HL.out; omega
      clear ch4 q6 C bw
      obtain ⟨B4, hB4⟩ : ∃ B, B = wr.heap.size := ⟨_, rfl⟩
      rw [← hB4] at own4 h6l
      clear hB4 q
      go_wp2
      obtain ⟨wo, rfl⟩ : ∃ wo : World, wo = wr := ⟨_, rfl⟩
      go_loopw [9] (fun x wr => ∃ i : Nat, i ≤ L ∧ x = .int .i64 i ∧ Own wr B4 3 A4 L c4' (I64 (nx b t)) ∧ Blk wr gp 76 (pl b (t + 1)) ∧ Blk wr g6 66 (c4 (sn b t + i)) ∧ Below w.heap.size w wr) (fun x _ => L - (intOf x).toNat)
      case atStart => exact ⟨0, by omega, rfl, own4, q4, q64, bw4⟩
      case round =>
        clear own4 q4 q64 bw4
        obtain ⟨i, hi, rfl, own, q, q6, bw5⟩ := hrel
        by_cases hil : i < L
        · obtain ⟨v, hv⟩ : ∃ v, v = sn b t + i := ⟨_, rfl⟩
          have hv4 : v < 4 := by omega
          have HV : Hid (v + 1 = sn b t + (i + 1)) := by unfold Hid; omega
          obtain ⟨x4, rfl, hx4, _, kx, fx, _⟩ := own.slot i hil
          have ev : (I64 (nx b t))[i]? = some (.int .i64 (v : Int)) := by
            rw [I64_get _ _ (by rw [← own.rd.len64]; exact hil), HGE.out i hil, ← hv, Nat.mod_eq_of_lt hv4]
          rw [ev] at kx
          rw [← hv] at q6
          have k6 : wr.cell? ⟨g6, v, none⟩ = some (.int .i64 0) := (q6.cell v).trans (c4_get v hv4)
          have ia := fun W => run_idx (P := Try.prog) (sz := 1) Try.underlying66 (by kernel_rfl) g6 0 v hv4 .i64 W
          simp only [Nat.zero_add, Nat.one_mul] at ia
          have d2 : decide ((i : Int) < (L : Int)) = true := by simp; omega
          have HC := Lib.hid (c4_set v hv4)
          have HSZ : v < (c4 v).size := hv4
          clear hv ev fx
          go_wp2_with (refine at_cell rfl 3 _ _ rfl g6 v (.int .i64 1) rfl rfl 66 (c4 v) q6 HSZ info31s rfl ?_; intro w7 U7)
          have q67 := U7.row
          rw [HC.out, HV.out] at q67
          go_roundw
          case rel => exact ⟨i + 1, by omega, by go_num, own.chg U7.grown (fun j hj e => by have := own.blkLt j hj; injection e with e; omega), U7.blk q (by omega), q67, bw5.trans (U7.below h6.out)⟩
          case measure => simp [intOf] <;> omega
        · have HI : Hid (sn b t + i = sn b (t + 1)) := by unfold Hid; have := HSL.out; have := HL.out; omega
          rw [HI.out] at q6
          clear own HI
          go_wp2
          go_roundw
          case rel => exact ⟨t + 1, by omega, by go_num, q, q6, bw5⟩
          case measure => simp [intOf] <;> omega
    · have HS : Hid (sn b t = 4) := by unfold Hid sn; rw [if_neg (by omega)]; omega
      rw [HS.out] at q6
      have q61 : Blk wr g6 66 #[.int .i64 1, .int .i64 1, .int .i64 1, .int .i64 1] := q6
      have iZ : Hid ((Try.prog.info? 66).map (·.size) = some (#[Value.int .i64 1, .int .i64 1, .int .i64 1, .int .i64 1] : Array Value).size) := info4s 4
      have he := eq4s
      clear q6 q HS
      go_wp2_with (refine at_load rfl 66 _ rfl g6 rfl 66 _ _ q61 Try.underlying66 rfl iZ.out ?_)
      go_ret
      exact ⟨rfl, bw⟩
end Go.Proofs.Ytepcipcppdndfaa
