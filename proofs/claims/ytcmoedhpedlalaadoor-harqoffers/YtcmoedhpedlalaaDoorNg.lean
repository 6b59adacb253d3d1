/-
  Layer 11: Alone, Code.
-/
import Derived.Test.YtcmoedhpedlalaaDoorNf
import Derived.Test.YtcmoedhpedlalaaDoorNb
namespace Go.Proofs.YtcmoedhpedlalaaDoor
open Go.RowKit
set_option maxRecDepth 100000
set_option linter.unusedVariables false
set_option linter.unusedSimpArgs false

/-- What Alone gives: the list's beginning, if what is behind it is noughts. -/
def AlV (w : World) (l : List Nat) (m : Nat) (e : Ending) (w' : World) : Prop := (((∀ j, m ≤ j → j < l.length → l.getD j 0 = 0) ∧ ∃ g, e = .returned (.tuple #[.slice (some ⟨g, 0, none⟩) m m, .int .i64 0]) ∧ Rd w' w'.heap.size (some ⟨g, 0, none⟩) m (U8 (l.take m))) ∨ ((∃ j, m ≤ j ∧ j < l.length ∧ l.getD j 0 ≠ 0) ∧ e = .returned (.tuple #[.slice none 0 0, .int .i64 13]))) ∧ Below w.heap.size w w'
theorem Rd.from8x {w : World} {B : Nat} {b off n : Nat} {bs : List Nat} (h : Rd w B (some ⟨b, off, none⟩) n (U8 bs)) (m : Nat) (hm : m ≤ n) (hn : 0 < n) : Rd w B (some ⟨b, off + m, none⟩) (n - m) (U8 (bs.drop m)) := by
  obtain ⟨b', off', e, hlt, hc⟩ := h.at_ hn
  injection e with e
  injection e with e1 e2
  subst e1 e2
  refine ⟨by rw [U8_length, List.length_drop, ← h.len8], fun _ => ⟨b, off + m, rfl, hlt, fun i u hu => ?_⟩⟩
  rw [Nat.add_assoc]
  refine hc (m + i) u ?_
  rw [← hu]
  simp [U8]
theorem getD_drop' (l : List Nat) (m i : Nat) : (l.drop m).getD i 0 = l.getD (m + i) 0 := by simp [List.getD, List.getElem?_drop]
set_option maxHeartbeats 1000000 in
/-- version.Alone. -/
theorem vAlone (A : Option Addr) (n c v : Nat) (p : List Nat) (w : World) (hr : Rd w w.heap.size A n (U8 p)) (hp : ∀ x ∈ p, x ≤ 1) (hn6 : 6 ≤ n) (hn : n ≤ 10000) (hv : v < 4) (hT : Taps w) :
    Calls Tryd.prog 88 #[.slice A n c, .int .i64 (v : Int)] w (AlV w (Cv.al p v n) (n - 6)) := by
  obtain ⟨m, hm⟩ : ∃ m, n - 6 = m := ⟨_, rfl⟩
  have em : (n : Int) - 6 = (m : Int) := by omega
  have hmn : m < n := by omega
  rw [hm]
  have C1 := Lib.hid (right A n c p w hr (bit256 hp) (by omega))
  rw [Bm.isB_of hp] at C1
  have C2 : Hid (Calls Tryd.prog 78 #[.int .i64 0] w fun e w' => e = .returned (.int .i64 6) ∧ w = w') := vBits 0 w (by omega)
  have C3 := Lib.hid (vthere v w hv)
  have C4 := Lib.hid (vread A n c v p w hr hp (by omega) hv hT)
  have HL := Lib.hid (Cv.al_length p v n)
  have d1 : decide ((m : Int) < 0) = false := by simp
  clear hm hp hT
  generalize Cv.al p v n = l at *
  go_enter Tryd.func88, Tryd.ntmps88
  go_upto_region 7 with (first | (go_at_call 79; refine C1.out.mono ?_; rintro e w' ⟨rfl, rfl⟩) | (go_at_call 78; refine C2.out.mono ?_; rintro e w' ⟨rfl, rfl⟩) | (go_at_call 93; refine C3.out.mono ?_; rintro e w' ⟨rfl, rfl⟩) | (go_at_call 117; refine C4.out.mono ?_; rintro e w1 ⟨A1, c1, rfl, own, bel⟩))
  obtain ⟨hc1, hc2⟩ := own.bounds
  have hmax : c1 ≤ 9223372036854775807 := by unfold maxLen at hc2; omega
  obtain ⟨g, off, hA, hg, _⟩ := own.rd.cell8 0 (by omega)
  have hoff : A1 = some ⟨g, 0, none⟩ := by
    rcases own.row.2 with ⟨hv, h0⟩ | ⟨g', cap, cur, hv, _⟩
    · omega
    · injection hv with e1 _ _
      rw [e1] at hA ⊢
      injection hA with hA
      injection hA with e2 _
      rw [e2]
  clear hA
  subst hoff
  have r1 := own.rd
  have r2 := r1.from8x m (by omega) (by omega)
  rw [Nat.zero_add] at r2
  have CW := Lib.hid (weightB (some ⟨g, m, none⟩) (n - m) (c1 - m) (l.drop m) w1 r2 (by omega))
  have HC : Hid ((cnz (l.drop m) = 0 → ∀ j, m ≤ j → j < l.length → l.getD j 0 = 0) ∧ (cnz (l.drop m) ≠ 0 → ∃ j, m ≤ j ∧ j < l.length ∧ l.getD j 0 ≠ 0)) := by
    have hz := cnz_zero (l.drop m)
    constructor
    · intro h j hj hj2
      have := hz.1 h (j - m) (by rw [List.length_drop]; omega)
      rw [getD_drop', show m + (j - m) = j by omega] at this
      exact this
    · intro h
      refine Classical.byContradiction fun hno => h (hz.2 fun i hi => ?_)
      rw [getD_drop']
      refine Classical.byContradiction fun hne => hno ⟨m + i, by omega, by rw [List.length_drop] at hi; omega, hne⟩
  have r3 := r1.cut8 m (by omega)
  have hcle := cnz_le (l.drop m)
  have hcn : cnz (l.drop m) ≤ n := by rw [List.length_drop, HL.out] at hcle; omega
  generalize cnz (l.drop m) = z at *
  have f0 : (0 : Int) ≤ (m : Int) := by omega
  have f1 : (m : Int) ≤ (n : Int) := by omega
  have f2 : (m : Int) ≤ (c1 : Int) := by omega
  have f3 : (m : Int) < (c1 : Int) := by omega
  have f4 : (n : Int) ≤ (c1 : Int) := by omega
  clear own r1 r2 hcle
  by_cases hz : z = 0
  · have t0 : ((z : Int) != 0) = false := by simp [hz]
    have HZ := Lib.hid hz
    clear hz
    go_wp2_with (go_at_call 118; refine CW.out.mono ?_; rintro e w' ⟨rfl, rfl⟩)
    go_ret2
    exact ⟨.inl ⟨HC.out.1 HZ.out, g, rfl, r3⟩, bel⟩
  · have t0 : ((z : Int) != 0) = true := by simp; omega
    have HZ := Lib.hid hz
    clear hz
    go_wp2_with (go_at_call 118; refine CW.out.mono ?_; rintro e w' ⟨rfl, rfl⟩)
    go_ret2
    exact ⟨.inr ⟨HC.out.2 HZ.out, rfl⟩, bel⟩
set_option maxHeartbeats 400000 in
/-- version.Alone of what are no bits. -/
theorem vAloneField (A : Option Addr) (n c : Nat) (v : Int) (p : List Nat) (w : World) (hr : Rd w w.heap.size A n (U8 p)) (h256 : ∀ x ∈ p, x < 256) (hp : Bm.isB p = false) (hn : n ≤ 10000) :
    Calls Tryd.prog 88 #[.slice A n c, .int .i64 v] w fun e w' => e = .returned (.tuple #[.slice none 0 0, .int .i64 5]) ∧ w = w' := by
  have C1 := Lib.hid (right A n c p w hr h256 (by omega))
  rw [hp] at C1
  clear hr h256 hp
  go_enter Tryd.func88, Tryd.ntmps88
  go_wp2_with (go_at_call 79; refine C1.out.mono ?_; rintro e w' ⟨rfl, rfl⟩)
  go_ret2
  exact ⟨rfl, rfl⟩
set_option maxHeartbeats 400000 in
/-- version.Alone of too few bits, or of no version. -/
theorem vAloneArg (A : Option Addr) (n c : Nat) (v : Int) (p : List Nat) (w : World) (hr : Rd w w.heap.size A n (U8 p)) (hp : ∀ x ∈ p, x ≤ 1) (hn : n ≤ 10000) (h : v < 0 ∨ 3 < v ∨ n < 6) :
    Calls Tryd.prog 88 #[.slice A n c, .int .i64 v] w fun e w' => e = .returned (.tuple #[.slice none 0 0, .int .i64 1]) ∧ w = w' := by
  have C1 := Lib.hid (right A n c p w hr (bit256 hp) (by omega))
  rw [Bm.isB_of hp] at C1
  have C2 : Hid (Calls Tryd.prog 78 #[.int .i64 0] w fun e w' => e = .returned (.int .i64 6) ∧ w = w') := vBits 0 w (by omega)
  clear hr hp
  by_cases hv : v < 0 ∨ 3 < v
  · have C3 := Lib.hid (vthereNo v w hv)
    clear h hv
    go_enter Tryd.func88, Tryd.ntmps88
    go_wp2_with (first | (go_at_call 79; refine C1.out.mono ?_; rintro e w' ⟨rfl, rfl⟩) | (go_at_call 78; refine C2.out.mono ?_; rintro e w' ⟨rfl, rfl⟩) | (go_at_call 93; refine C3.out.mono ?_; rintro e w' ⟨rfl, rfl⟩))
    go_ret2
    exact ⟨rfl, rfl⟩
  · obtain ⟨a, ha⟩ : ∃ a : Nat, v = (a : Int) := ⟨v.toNat, by omega⟩
    subst ha
    have C3 := Lib.hid (vthere a w (by omega))
    have hn6 : (n : Int) - 6 < 0 := by omega
    have d1 : decide ((n : Int) < 6) = true := by simp; omega
    have d2 : decide (n < 6) = true := by simp; omega
    have d3 : decide ((n : Int) - 6 < 0) = true := by simp; omega
    clear h hv
    go_enter Tryd.func88, Tryd.ntmps88
    go_wp2_with (first | (go_at_call 79; refine C1.out.mono ?_; rintro e w' ⟨rfl, rfl⟩) | (go_at_call 78; refine C2.out.mono ?_; rintro e w' ⟨rfl, rfl⟩) | (go_at_call 93; refine C3.out.mono ?_; rintro e w' ⟨rfl, rfl⟩))
    go_ret2
    exact ⟨rfl, rfl⟩
/-- What a version's Code gives. -/
def VCodeOk (w : World) (T : Nat) (bs : List Nat) (e : Ending) (w' : World) : Prop := ∃ g, e = .returned (.tuple #[.slice (some ⟨g, 0, none⟩) T T, .int .i64 0]) ∧ w.heap.size ≤ g ∧ Blk w' g 5 (B8 bs) ∧ Below w.heap.size w w'
set_option maxHeartbeats 400000 in
/-- version.Code. -/
theorem vCode (A : Option Addr) (n c v : Nat) (l : List Nat) (w : World) (hr : Rd w w.heap.size A n (U8 l)) (hnone : A = none → n = 0 ∧ c = 0) (hl : ∀ x ∈ l, x ≤ 1) (hn : n ≤ 10000) (hv : v < 4) (hT : Taps w) :
    Calls Tryd.prog 67 #[.slice A n c, .int .i64 (v : Int)] w (VCodeOk w (n + 6) (Cv.pick (Cv.code l) v)) := by
  have C1 := Lib.hid (codeC A n c l w hr hnone hl (by omega) hT)
  have C3 := Lib.hid (fun W => vthere v W hv)
  have HLC : Hid ((Cv.code l).length = 4 * (n + 6)) := by unfold Hid; rw [Cv.code_length, ← hr.len8]
  have CP := Lib.hid (fun (A1 : Option Addr) (n1 c1 : Nat) (W : World) (h : Rd W W.heap.size A1 n1 (U8 (Cv.code l))) => vpart A1 n1 c1 (n + 6) v (Cv.code l) W h (by rw [h.len8, HLC.out]) (by omega) hv)
  obtain ⟨T, hTT⟩ : ∃ T, T = n + 6 := ⟨_, rfl⟩
  rw [← hTT] at CP
  rw [← hTT]
  clear hr hnone hl hT hTT
  go_enter Tryd.func67, Tryd.ntmps67
  go_upto_region 6 with (first | (go_at_call 92; refine C1.out.mono ?_; rintro e w1 ⟨A1, n1, c1, rfl, own, b1⟩) | (go_at_call 93; refine (C3.out _).mono ?_; rintro e w' ⟨rfl, rfl⟩))
  have C4 := Lib.hid (CP.out A1 n1 c1 w1 own.rd)
  go_wp2_with (go_at_call 94; refine C4.out.mono ?_; rintro e w2 ⟨g, rfl, hg, q, b2⟩)
  go_ret2
  exact ⟨g, rfl, Nat.le_trans b1.size hg, q, Below.then_ b1 b2⟩
set_option maxHeartbeats 400000 in
theorem vCodeField (A : Option Addr) (n c : Nat) (v : Int) (l : List Nat) (w : World) (hr : Rd w w.heap.size A n (U8 l)) (hb : ∀ x ∈ l, x < 256) (hl : Bm.isB l = false) (hn : n ≤ 10000) :
    Calls Tryd.prog 67 #[.slice A n c, .int .i64 v] w fun e w' => e = .returned (.tuple #[.slice none 0 0, .int .i64 5]) ∧ w = w' := by
  have C1 := Lib.hid (codeNo A n c l w hr hb hl (by omega))
  clear hr hb hl
  go_enter Tryd.func67, Tryd.ntmps67
  go_wp2_with (go_at_call 92; refine C1.out.mono ?_; rintro e w' ⟨rfl, rfl⟩)
  go_ret2
  exact ⟨rfl, rfl⟩
set_option maxHeartbeats 400000 in
theorem vCodeArg (A : Option Addr) (n c : Nat) (v : Int) (l : List Nat) (w : World) (hr : Rd w w.heap.size A n (U8 l)) (hnone : A = none → n = 0 ∧ c = 0) (hl : ∀ x ∈ l, x ≤ 1) (hn : n ≤ 10000) (hv : v < 0 ∨ 3 < v) (hT : Taps w) :
    Calls Tryd.prog 67 #[.slice A n c, .int .i64 v] w fun e w' => e = .returned (.tuple #[.slice none 0 0, .int .i64 1]) ∧ Below w.heap.size w w' := by
  have C1 := Lib.hid (codeC A n c l w hr hnone hl (by omega) hT)
  have C3 := Lib.hid (fun W => vthereNo v W hv)
  clear hr hnone hl hT hv
  go_enter Tryd.func67, Tryd.ntmps67
  go_wp2_with (first | (go_at_call 92; refine C1.out.mono ?_; rintro e w1 ⟨A1, n1, c1, rfl, own, b1⟩) | (go_at_call 93; refine (C3.out _).mono ?_; rintro e w' ⟨rfl, rfl⟩))
  go_ret2
  exact ⟨rfl, b1⟩
end Go.Proofs.YtcmoedhpedlalaaDoor
