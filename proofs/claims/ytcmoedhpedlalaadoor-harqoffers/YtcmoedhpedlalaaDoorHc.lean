/-
  Layer 17: Offer, New, Done, Came, Len.
-/
import Derived.Test.YtcmoedhpedlalaaDoorHb
namespace Go.Proofs.YtcmoedhpedlalaaDoor
open Go.RowKit
set_option maxRecDepth 100000
set_option linter.unusedVariables false
set_option linter.unusedSimpArgs false

/-- A Process, all of whose blocks are among P. -/
def PrS (w : World) (P : Nat → Prop) (gP n : Nat) (row : List (Nat × List Nat)) (done : Bool) : Prop :=
  ∃ B, Blk w gP 89 (PR n row.length done B) ∧ P gP ∧ (∀ k, P k → k < w.heap.size) ∧ (done = true ∧ B = .pointer none ∨ done = false ∧ row = [] ∧ B = .pointer none ∨ done = false ∧ ∃ gB S, B = .pointer (some ⟨gB, 0, none⟩) ∧ P gB ∧ gB ≠ gP ∧ S.ownBlock ≠ some gP ∧ (∀ k, S.ownBlock = some k → P k) ∧ BufS w gB (8 * (n + 4)) row S)
/-- Blocks among P alone may be written. -/
structure Kr (w w' : World) (P : Nat → Prop) : Prop where
  os : w'.os = w.os
  tape : w'.tape = w.tape
  output : w'.output = w.output
  size : w.heap.size ≤ w'.heap.size
  block : ∀ k, k < w.heap.size → ¬ P k → w'.heap[k]? = w.heap[k]?
theorem Kr.of_below {w w' : World} {P : Nat → Prop} (h : Below w.heap.size w w') : Kr w w' P := ⟨h.os, h.tape, h.output, h.size, fun k hk _ => h.block k hk⟩
theorem Kr.below {w w' : World} {P : Nat → Prop} {B : Nat} (h : Kr w w' P) (hB : ∀ k, P k → B ≤ k) (hs : B ≤ w.heap.size) : Below B w w' := ⟨h.os, h.tape, h.output, h.size, fun k hk => h.block k (by omega) (fun hp => by have := hB k hp; omega)⟩
theorem Rd.kr {w w' : World} {P : Nat → Prop} {b off n : Nat} {xs : List Value} (h : Rd w w.heap.size (some ⟨b, off, none⟩) n xs) (hk : Kr w w' P) (hb : ¬ P b) : Rd w' w'.heap.size (some ⟨b, off, none⟩) n xs :=
  ⟨h.len, fun hn => by
    obtain ⟨b', off', e, hlt, hc⟩ := h.at_ hn
    injection e with e
    injection e with e1 e2
    subst e1 e2
    exact ⟨b, off, rfl, by have := hk.size; omega, fun i u hu => (cell_of_heap (hk.block b hlt hb) (off + i)).trans (hc i u hu)⟩⟩
theorem Taps.kr {w w' : World} {P : Nat → Prop} (h : Taps w) (hk : Kr w w' P) (h0 : ¬ P 0) : Taps w' := by
  have e := hk.block 0 h.pos h0
  exact ⟨(cell_of_heap e 0).trans h.c0, (cell_of_heap e 1).trans h.c1, (cell_of_heap e 2).trans h.c2, (cell_of_heap e 3).trans h.c3⟩
theorem PrS.of_heap {w w' : World} {P : Nat → Prop} {gP n : Nat} {row : List (Nat × List Nat)} {d : Bool} (h : PrS w P gP n row d) (hb : ∀ k, P k → w'.heap[k]? = w.heap[k]?) (hs : w.heap.size ≤ w'.heap.size) : PrS w' P gP n row d := by
  obtain ⟨B, q, h1, h2, h⟩ := h
  refine ⟨B, (hb gP h1).trans q, h1, fun k hk => Nat.lt_of_lt_of_le (h2 k hk) hs, ?_⟩
  rcases h with h | h | ⟨hd, gB, S, e, h4, h6, h7, h8, h9⟩
  · exact .inl h
  · exact .inr (.inl h)
  · exact .inr (.inr ⟨hd, gB, S, e, h4, h6, h7, h8, h9.of_heap (hb gB h4) (fun k hk => hb k (h8 k hk))⟩)
theorem PrS.lt {w : World} {P : Nat → Prop} {gP n : Nat} {row : List (Nat × List Nat)} {d : Bool} (h : PrS w P gP n row d) : ∀ k, P k → k < w.heap.size := by
  obtain ⟨B, q, h1, h2, h⟩ := h
  exact h2
theorem PrS.after {w w' : World} {P : Nat → Prop} {gP n : Nat} {row : List (Nat × List Nat)} {d : Bool} (h : PrS w P gP n row d) (hb : Below w.heap.size w w') : PrS w' P gP n row d := h.of_heap (fun k hk => hb.block k (h.lt k hk)) hb.size
/-- The row that a version is added to. -/
def anew (n0 : Nat) (row : List (Nat × List Nat)) (n : Nat) : List (Nat × List Nat) := if n ≠ n0 ∨ 16 ≤ row.length then [] else row
/-- What Offer gives. -/
def OffO (w : World) (P : Nat → Prop) (gP n : Nat) (row : List (Nat × List Nat)) (r : Option (List Nat)) (e : Ending) (w' : World) : Prop :=
  (∃ P' : Nat → Prop, (∀ k, P' k → P k ∨ w.heap.size ≤ k) ∧ PrS w' P' gP n row r.isSome) ∧ Kr w w' P ∧ ((∃ m, r = some m ∧ ∃ A k c, e = .returned (.tuple #[.slice A k c, .int .i64 0]) ∧ Own w' w.heap.size 5 A k c (U8 m)) ∨ r = none ∧ e = .returned (.tuple #[.slice none 0 0, .int .i64 12]))
set_option maxHeartbeats 400000 in
/-- harq.New of a length that may be. -/
theorem hNew (n : Nat) (w : World) (hn : n ≤ 64) : Calls Tryd.prog 18 #[.int .i64 (n : Int)] w fun e w' => e = .returned (.tuple #[.pointer (some ⟨w.heap.size, 0, none⟩), .int .i64 0]) ∧ PrS w' (fun k => k = w.heap.size) w.heap.size n [] false ∧ Below w.heap.size w w' := by
  have C := hIsLen (n : Int) w
  rw [decide_eq_true (by omega)] at C
  replace C := Lib.hid C
  go_enter Tryd.func18, Tryd.ntmps18
  go_wp2_with (first | (go_at_call 54; refine C.out.mono ?_; rintro e w' ⟨rfl, rfl⟩) | (refine at_box rfl 89 _ rfl (PR n 0 false (.pointer none)) rfl ?_; intro w1 h1))
  go_ret2
  exact ⟨rfl, ⟨.pointer none, h1.row, rfl, fun k hk => by rw [hk]; exact h1.row.lt, .inr (.inl ⟨rfl, rfl, rfl⟩)⟩, h1.bel⟩
set_option maxHeartbeats 400000 in
/-- harq.New of another one. -/
theorem hNewNo (n : Int) (w : World) (hn : ¬ (0 ≤ n ∧ n ≤ 64)) : Calls Tryd.prog 18 #[.int .i64 n] w fun e w' => e = .returned (.tuple #[.pointer none, .int .i64 7]) ∧ w = w' := by
  have C := hIsLen n w
  rw [decide_eq_false hn] at C
  replace C := Lib.hid C
  clear hn
  go_enter Tryd.func18, Tryd.ntmps18
  go_wp2_with (go_at_call 54; refine C.out.mono ?_; rintro e w' ⟨rfl, rfl⟩)
  go_ret2
  exact ⟨rfl, rfl⟩
set_option maxHeartbeats 400000 in
/-- (*Process).Done. -/
theorem hDone (w : World) (P : Nat → Prop) (gP n : Nat) (row : List (Nat × List Nat)) (d : Bool) (h : PrS w P gP n row d) : Calls Tryd.prog 15 #[.pointer (some ⟨gP, 0, none⟩)] w fun e w' => e = .returned (.bool d) ∧ w = w' := by
  obtain ⟨B, q, _⟩ := h
  have k := q.cell 2
  have k2 : w.cell? ⟨gP, 2, none⟩ = some (.bool d) := k
  clear q k
  go_enter Tryd.func15, Tryd.ntmps15
  go_wp2
  go_ret
  exact ⟨rfl, rfl⟩
set_option maxHeartbeats 400000 in
/-- (*Process).Came. -/
theorem hCame (w : World) (P : Nat → Prop) (gP n : Nat) (row : List (Nat × List Nat)) (d : Bool) (h : PrS w P gP n row d) : Calls Tryd.prog 16 #[.pointer (some ⟨gP, 0, none⟩)] w fun e w' => e = .returned (.int .i64 ((row.length : Nat) : Int)) ∧ w = w' := by
  obtain ⟨B, q, _⟩ := h
  have k := q.cell 1
  have k2 : w.cell? ⟨gP, 1, none⟩ = some (.int .i64 ((row.length : Nat) : Int)) := k
  clear q k
  generalize row.length = m at *
  go_enter Tryd.func16, Tryd.ntmps16
  go_wp2
  go_ret
  exact ⟨rfl, rfl⟩
set_option maxHeartbeats 400000 in
/-- (*Process).Len. -/
theorem hLen (w : World) (P : Nat → Prop) (gP n : Nat) (row : List (Nat × List Nat)) (d : Bool) (h : PrS w P gP n row d) : Calls Tryd.prog 17 #[.pointer (some ⟨gP, 0, none⟩)] w fun e w' => e = .returned (.int .i64 (n : Int)) ∧ w = w' := by
  obtain ⟨B, q, _⟩ := h
  have k := q.cell 0
  have k2 : w.cell? ⟨gP, 0, none⟩ = some (.int .i64 (n : Int)) := k
  clear q k
  go_enter Tryd.func17, Tryd.ntmps17
  go_wp2
  go_ret
  exact ⟨rfl, rfl⟩
set_option maxHeartbeats 400000 in
/-- Offer to one that was read. -/
theorem offerOld (w : World) (P : Nat → Prop) (gP n0 : Nat) (row : List (Nat × List Nat)) (n v : Int) (A : Option Addr) (k c : Nat) (h : PrS w P gP n0 row true) : Calls Tryd.prog 13 #[.pointer (some ⟨gP, 0, none⟩), .int .i64 n, .int .i64 v, .slice A k c] w fun e w' => e = .returned (.tuple #[.slice none 0 0, .int .i64 10]) ∧ w = w' := by
  obtain ⟨B, q, _⟩ := h
  have k := q.cell 2
  have k2 : w.cell? ⟨gP, 2, none⟩ = some (.bool true) := k
  clear q k
  go_enter Tryd.func13, Tryd.ntmps13
  go_wp2
  go_ret2
  exact ⟨rfl, rfl⟩
set_option maxHeartbeats 400000 in
/-- Offer of what can be no version. -/
theorem offerNo (w : World) (P : Nat → Prop) (gP n0 : Nat) (row : List (Nat × List Nat)) (n v : Int) (A : Option Addr) (k c : Nat) (bs : List Nat) (h : PrS w P gP n0 row false) (hr : Rd w w.heap.size A k (U8 bs)) (hb : ∀ b ∈ bs, b < 256) (hk : k ≤ 65536) (hX : lookX n v k bs ≠ 0) :
    Calls Tryd.prog 13 #[.pointer (some ⟨gP, 0, none⟩), .int .i64 n, .int .i64 v, .slice A k c] w fun e w' => e = .returned (.tuple #[.slice none 0 0, .int .i64 (lookX n v k bs)]) ∧ w = w' := by
  obtain ⟨B, q, _⟩ := h
  have kk := q.cell 2
  have k2 : w.cell? ⟨gP, 2, none⟩ = some (.bool false) := kk
  have C := Lib.hid (lookH n v A k c bs w hr hb hk)
  generalize lookX n v k bs = X at *
  have n0 : (X != 0) = true := by simp [hX]
  clear q kk hr hb hX
  go_enter Tryd.func13, Tryd.ntmps13
  go_wp2_with (go_at_call 51; refine C.out.mono ?_; rintro e w' ⟨rfl, rfl⟩)
  go_ret2
  exact ⟨rfl, rfl⟩
set_option maxHeartbeats 400000 in
theorem offerKeep (w : World) (P : Nat → Prop) (gP n N T v c b off : Nat) (row : List (Nat × List Nat)) (p : List Nat) (gB : Nat) (S : Value) (q : Blk w gP 89 (PR n row.length false (.pointer (some ⟨gB, 0, none⟩)))) (g1 : P gB) (g3 : gB ≠ gP) (g4 : S.ownBlock ≠ some gP) (g5 : ∀ k, S.ownBlock = some k → P k) (g6 : BufS w gB (8 * (n + 4)) row S) (g7 : row.length ≤ 15) (h1 : P gP) (h2 : ∀ k, P k → k < w.heap.size) (hn : n ≤ 64) (hN : N = 8 * (n + 4)) (hT : T = N + 6) (hv : v < 4) (hr : Rd w w.heap.size (some ⟨b, off, none⟩) T (U8 p)) (hp : ∀ x ∈ p, x ≤ 1) (hb1 : ¬ P b) (hb2 : b < w.heap.size) (h0 : ¬ P 0) (hTp : Taps w) :
    Calls Tryd.prog 13 #[.pointer (some ⟨gP, 0, none⟩), .int .i64 (n : Int), .int .i64 (v : Int), .slice (some ⟨b, off, none⟩) T c] w (OffO w P gP n (row ++ [(v, p)]) (rdx N (row ++ [(v, p)]) v p)) := by
  have HL : lookX (n : Int) (v : Int) T p = 0 := by
    unfold lookX
    rw [if_neg (by omega), if_neg (by omega), Bm.isB_of hp, if_neg (by simp), if_neg (by rw [hT, hN]; simp)]
  have C := lookH (n : Int) (v : Int) (some ⟨b, off, none⟩) T c p w hr (bit256 hp) (by omega)
  rw [HL] at C
  replace C := Lib.hid C
  have kk := q.cell 2
  have k2 : w.cell? ⟨gP, 2, none⟩ = some (.bool false) := kk
  have kk3 := q.cell 3
  have k3 : w.cell? ⟨gP, 3, none⟩ = some (.pointer (some ⟨gB, 0, none⟩)) := kk3
  have HN := Lib.hid hN
  have HT := Lib.hid hT
  have hN2 : N ≤ 544 := by omega
  clear kk kk3 HL hN hT
  have kk0 := q.cell 0
  have k0 : w.cell? ⟨gP, 0, none⟩ = some (.int .i64 (n : Int)) := kk0
  have kk1 := q.cell 1
  have k1 : w.cell? ⟨gP, 1, none⟩ = some (.int .i64 ((row.length : Nat) : Int)) := kk1
  have t0 : ((n : Int) != (n : Int)) = false := by simp
  have t1 : decide ((16 : Int) ≤ ((row.length : Nat) : Int)) = false := by simp <;> omega
  have q1 := q
  have B1 : BufS w gB N row S := by rw [HN.out]; exact g6
  have kr1 : Kr w w P := Kr.of_below (Below.refl _ _)
  have f1 := g3
  have f2 := g4
  have f3 : P gB ∨ w.heap.size ≤ gB := .inl g1
  have f4 := g5
  have f5 := g7
  have hr1 := hr
  clear kk0 kk1 g3 g4 g5 g6 g7 g1
  go_enter Tryd.func13, Tryd.ntmps13
  have hbB : b ≠ gB := fun e => f3.elim (fun h => hb1 (by rw [e]; exact h)) (fun h => by omega)
  have hbS : (S).ownBlock ≠ some b := fun e => hb1 (f4 b e)
  have HAd := Lib.hid (addC gB N v T c b off row p S w B1 (by omega) (by omega) hv HT.out hr1 hp hbB (by have := kr1.size; omega) hbS)
  have k31 : w.cell? ⟨gP, 3, none⟩ = some (.pointer (some ⟨gB, 0, none⟩)) := q1.cell 3
  go_upto_region 11 with (first | (go_at_call 51; refine C.out.mono ?_; rintro e w' ⟨rfl, rfl⟩) | (go_at_call 40; refine HAd.out.mono ?_; rintro e w2 ⟨rfl, S2, B2, kp2, hS2⟩))
  have q2 : Blk w2 gP 89 (PR n row.length false (.pointer (some ⟨gB, 0, none⟩))) := kp2.blk q1 (Ne.symm f1) f2
  have hS2P : Hid (S2.ownBlock ≠ some gP) := by
    unfold Hid
    rcases hS2 with e | ⟨k, e, hk⟩
    · rw [e]; exact f2
    · rw [e]; intro e2; injection e2 with e2; have := q1.lt; omega
  have hS2b : Hid (∀ k, S2.ownBlock = some k → P k ∨ w.heap.size ≤ k) := fun k hk => by
    rcases hS2 with e | ⟨k2, e, hk2⟩
    · exact .inl (f4 k (by rw [← e]; exact hk))
    · rw [e] at hk; injection hk with hk; have := kr1.size; exact .inr (by omega)
  have kr2 : Hid (Kr w w2 P) := ⟨kp2.os.trans kr1.os, kp2.tape.trans kr1.tape, kp2.output.trans kr1.output, Nat.le_trans kr1.size kp2.size, fun k hk hkb => (kp2.block k (by have := kr1.size; omega) (fun e => f3.elim (fun h => hkb (by rw [e]; exact h)) (fun h => by omega)) (fun e => hkb (f4 k e))).trans (kr1.block k hk hkb)⟩
  obtain ⟨m, hm⟩ : ∃ m, m = row.length := ⟨_, rfl⟩
  have hm2 : m ≤ 15 := by rw [hm]; exact f5
  rw [← hm] at q2
  have HM : Hid ((row ++ [(v, p)]).length = m + 1) := by unfold Hid; rw [hm]; simp
  have k12 : w2.cell? ⟨gP, 1, none⟩ = some (.int .i64 (m : Int)) := q2.cell 1
  have hgBb : Hid (P gB ∨ w.heap.size ≤ gB) := f3
  have HF1 := Lib.hid f1
  clear k31 HAd hbB hbS q1 B1 kp2 hS2 kr1 f2 f3 f4 f5 hm hr1 f1
  generalize row ++ [(v, p)] = row' at *
  go_upto_region 12 with (refine at_cell rfl 3 _ _ rfl gP 1 (.int .i64 ((m : Int) + 1)) rfl rfl 89 (PR n m false (.pointer (some ⟨gB, 0, none⟩))) q2 (show 1 < 4 by omega) info3one rfl ?_; intro w3 h3)
  have q3 : Blk w3 gP 89 (PR n (m + 1) false (.pointer (some ⟨gB, 0, none⟩))) := by
    have := h3.row
    unfold PR
    rw [show ((m + 1 : Nat) : Int) = (m : Int) + 1 by omega]
    exact this
  have B3 : BufS w3 gB N row' S2 := B2.of_heap (h3.oth _ HF1.out) (fun k hk => h3.oth k (fun e => hS2P.out (by rw [← e]; exact hk)))
  have kr3 : Hid (Kr w w3 P) := ⟨h3.os.trans kr2.out.os, h3.tape.trans kr2.out.tape, h3.output.trans kr2.out.output, by rw [h3.size]; exact kr2.out.size, fun k hk hkb => (h3.oth k (fun e => hkb (by rw [e]; exact h1))).trans (kr2.out.block k hk hkb)⟩
  have hs3 := Lib.hid kr3.out.size
  have HRd := Lib.hid (readH gP gB n N (m + 1) v T c b off false row' p S2 w3 q3 B3 (by omega) (by rw [HM.out]; omega) hv HT.out (hr.kr kr3.out hb1) hp (hTp.kr kr3.out h0))
  clear h3 q2 k12 B2 kr2
  generalize rdx N row' v p = r at *
  go_upto_region 13 with (go_at_call 53; refine HRd.out.mono ?_; rintro e w4 ⟨ho, b4⟩; rcases ho with ⟨mm, ho1, A4, n4, c4, rfl, own4⟩ | ⟨ho1, rfl⟩)
  · have q4 := q3.after b4
    have HO := Lib.hid ho1
    clear ho1
    go_upto_region 16 with (refine at_cell rfl 4 _ _ rfl gP 2 (.bool true) rfl rfl 89 (PR n (m + 1) false (.pointer (some ⟨gB, 0, none⟩))) q4 (show 2 < 4 by omega) infoBo rfl ?_; intro w5 h5)
    have q5 : Blk w5 gP 89 (PR n (m + 1) true (.pointer (some ⟨gB, 0, none⟩))) := h5.row
    go_wp2_with (refine at_cell rfl 68 _ _ rfl gP 3 (.pointer none) rfl rfl 89 (PR n (m + 1) true (.pointer (some ⟨gB, 0, none⟩))) q5 (show 3 < 4 by omega) infoPB rfl ?_; intro w6 h6)
    have q6 : Blk w6 gP 89 (PR n (m + 1) true (.pointer none)) := h6.row
    have hs := hs3.out
    have hgl0 := h2 gP h1
    have own6 := (own4.upd h5 (by omega)).upd h6 (by omega)
    have l6 := q6.lt
    rw [← HM.out] at q6
    go_ret2
    rw [HO.out]
    refine ⟨⟨fun k => k = gP, fun k hk => .inl (by rw [hk]; exact h1), .pointer none, q6, rfl, fun k hk => by rw [hk]; exact l6, .inl ⟨rfl, rfl⟩⟩, ?_, .inl ⟨mm, rfl, A4, n4, c4, rfl, own6.down hs⟩⟩
    exact ⟨h6.os.trans (h5.os.trans (b4.os.trans kr3.out.os)), h6.tape.trans (h5.tape.trans (b4.tape.trans kr3.out.tape)), h6.output.trans (h5.output.trans (b4.output.trans kr3.out.output)), by rw [h6.size, h5.size]; exact Nat.le_trans hs b4.size, fun k hk hkb => (h6.oth k (fun e => hkb (by rw [e]; exact h1))).trans ((h5.oth k (fun e => hkb (by rw [e]; exact h1))).trans ((b4.block k (by omega)).trans (kr3.out.block k hk hkb)))⟩
  · have q4 := q3.after b4
    have B4 := B3.after b4
    have hs := hs3.out
    have HO := Lib.hid ho1
    clear ho1
    go_wp2
    go_ret2
    have l4 := q4.lt
    rw [← HM.out] at q4
    rw [HO.out]
    refine ⟨⟨fun k => k = gP ∨ k = gB ∨ S2.ownBlock = some k, fun k hk => by
      rcases hk with rfl | rfl | hk
      · exact .inl h1
      · exact hgBb.out
      · exact hS2b.out k hk, _, q4, .inl rfl, fun k hk => by
      rcases hk with rfl | rfl | hk
      · exact l4
      · exact B4.blk.lt
      · exact B4.lt k hk, .inr (.inr ⟨rfl, gB, S2, rfl, .inr (.inl rfl), HF1.out, hS2P.out, fun k hk => .inr (.inr hk), by rw [← HN.out]; exact B4⟩)⟩, ?_, .inr ⟨rfl, rfl⟩⟩
    exact ⟨b4.os.trans kr3.out.os, b4.tape.trans kr3.out.tape, b4.output.trans kr3.out.output, Nat.le_trans hs b4.size, fun k hk hkb => (b4.block k (by omega)).trans (kr3.out.block k hk hkb)⟩
set_option maxHeartbeats 400000 in
theorem offerFirst (w : World) (P : Nat → Prop) (gP n0 n N T v c b off : Nat) (p : List Nat) (row1 : List (Nat × List Nat)) (hr0 : row1 = []) (q : Blk w gP 89 (PR n0 0 false (.pointer none))) (h1 : P gP) (h2 : ∀ k, P k → k < w.heap.size) (hn : n ≤ 64) (hN : N = 8 * (n + 4)) (hT : T = N + 6) (hv : v < 4) (hr : Rd w w.heap.size (some ⟨b, off, none⟩) T (U8 p)) (hp : ∀ x ∈ p, x ≤ 1) (hb1 : ¬ P b) (hb2 : b < w.heap.size) (h0 : ¬ P 0) (hTp : Taps w) :
    Calls Tryd.prog 13 #[.pointer (some ⟨gP, 0, none⟩), .int .i64 (n : Int), .int .i64 (v : Int), .slice (some ⟨b, off, none⟩) T c] w (OffO w P gP n (row1 ++ [(v, p)]) (rdx N (row1 ++ [(v, p)]) v p)) := by
  have HR1 := Lib.hid hr0
  have hl0 : row1.length = 0 := by rw [hr0]; rfl
  have HL0 := Lib.hid hl0.symm
  clear hr0 hl0
  have HL : lookX (n : Int) (v : Int) T p = 0 := by
    unfold lookX
    rw [if_neg (by omega), if_neg (by omega), Bm.isB_of hp, if_neg (by simp), if_neg (by rw [hT, hN]; simp)]
  have C := lookH (n : Int) (v : Int) (some ⟨b, off, none⟩) T c p w hr (bit256 hp) (by omega)
  rw [HL] at C
  replace C := Lib.hid C
  have kk := q.cell 2
  have k2 : w.cell? ⟨gP, 2, none⟩ = some (.bool false) := kk
  have kk3 := q.cell 3
  have k3 : w.cell? ⟨gP, 3, none⟩ = some (.pointer none) := kk3
  have HN := Lib.hid hN
  have HT := Lib.hid hT
  have hN2 : N ≤ 544 := by omega
  clear kk kk3 HL hN hT
  have HBg := Lib.hid (beginH gP n0 0 n false (.pointer none) w q hn)
  go_enter Tryd.func13, Tryd.ntmps13
  go_upto_region 10 with (first | (go_at_call 51; refine C.out.mono ?_; rintro e w' ⟨rfl, rfl⟩) | (go_at_call 52; refine HBg.out.mono ?_; rintro e w1 ⟨rfl, q1, B1, kp1⟩))
  rw [← HN.out] at B1
  have kr1 : Kr w w1 P := ⟨kp1.os, kp1.tape, kp1.output, kp1.size, fun k hk hkb => kp1.block k hk (fun e => hkb (by rw [e]; exact h1)) (by simp)⟩
  obtain ⟨gB1, hgB1⟩ : ∃ g, g = w.heap.size := ⟨_, rfl⟩
  rw [← hgB1] at B1 q1
  rw [← HR1.out] at B1
  replace q1 : Blk w1 gP 89 (PR n row1.length false (.pointer (some ⟨gB1, 0, none⟩))) := by rw [← HL0.out]; exact q1
  have f1 : gB1 ≠ gP := by have := h2 gP h1; omega
  have f2 : (Value.slice none 0 0).ownBlock ≠ some gP := by simp [Value.ownBlock]
  have f3 : P gB1 ∨ w.heap.size ≤ gB1 := .inr (by omega)
  have f4 : ∀ k, (Value.slice none 0 0).ownBlock = some k → P k := fun k hk => by cases hk
  have f5 : row1.length ≤ 15 := by rw [← HL0.out]; omega
  have hr1 := hr.kr kr1 hb1
  have HG := Lib.hid hgB1
  clear hgB1 kp1 HBg
  have hbB : b ≠ gB1 := fun e => f3.elim (fun h => hb1 (by rw [e]; exact h)) (fun h => by omega)
  have hbS : ((Value.slice none 0 0)).ownBlock ≠ some b := fun e => hb1 (f4 b e)
  have HAd := Lib.hid (addC gB1 N v T c b off row1 p (Value.slice none 0 0) w1 B1 (by omega) (by omega) hv HT.out hr1 hp hbB (by have := kr1.size; omega) hbS)
  have k31 : w1.cell? ⟨gP, 3, none⟩ = some (.pointer (some ⟨gB1, 0, none⟩)) := q1.cell 3
  go_upto_region 11 with (go_at_call 40; refine HAd.out.mono ?_; rintro e w2 ⟨rfl, S2, B2, kp2, hS2⟩)
  have q2 : Blk w2 gP 89 (PR n row1.length false (.pointer (some ⟨gB1, 0, none⟩))) := kp2.blk q1 (Ne.symm f1) f2
  have hS2P : Hid (S2.ownBlock ≠ some gP) := by
    unfold Hid
    rcases hS2 with e | ⟨k, e, hk⟩
    · rw [e]; exact f2
    · rw [e]; intro e2; injection e2 with e2; have := q1.lt; omega
  have hS2b : Hid (∀ k, S2.ownBlock = some k → P k ∨ w.heap.size ≤ k) := fun k hk => by
    rcases hS2 with e | ⟨k2, e, hk2⟩
    · exact .inl (f4 k (by rw [← e]; exact hk))
    · rw [e] at hk; injection hk with hk; have := kr1.size; exact .inr (by omega)
  have kr2 : Hid (Kr w w2 P) := ⟨kp2.os.trans kr1.os, kp2.tape.trans kr1.tape, kp2.output.trans kr1.output, Nat.le_trans kr1.size kp2.size, fun k hk hkb => (kp2.block k (by have := kr1.size; omega) (fun e => f3.elim (fun h => hkb (by rw [e]; exact h)) (fun h => by omega)) (fun e => hkb (f4 k e))).trans (kr1.block k hk hkb)⟩
  obtain ⟨m, hm⟩ : ∃ m, m = row1.length := ⟨_, rfl⟩
  have hm2 : m ≤ 15 := by rw [hm]; exact f5
  rw [← hm] at q2
  have HM : Hid ((row1 ++ [(v, p)]).length = m + 1) := by unfold Hid; rw [hm]; simp
  have k12 : w2.cell? ⟨gP, 1, none⟩ = some (.int .i64 (m : Int)) := q2.cell 1
  have hgBb : Hid (P gB1 ∨ w.heap.size ≤ gB1) := f3
  have HF1 := Lib.hid f1
  clear k31 HAd hbB hbS q1 B1 kp2 hS2 kr1 f2 f3 f4 f5 hm hr1 f1
  generalize row1 ++ [(v, p)] = row' at *
  go_upto_region 12 with (refine at_cell rfl 3 _ _ rfl gP 1 (.int .i64 ((m : Int) + 1)) rfl rfl 89 (PR n m false (.pointer (some ⟨gB1, 0, none⟩))) q2 (show 1 < 4 by omega) info3one rfl ?_; intro w3 h3)
  have q3 : Blk w3 gP 89 (PR n (m + 1) false (.pointer (some ⟨gB1, 0, none⟩))) := by
    have := h3.row
    unfold PR
    rw [show ((m + 1 : Nat) : Int) = (m : Int) + 1 by omega]
    exact this
  have B3 : BufS w3 gB1 N row' S2 := B2.of_heap (h3.oth _ HF1.out) (fun k hk => h3.oth k (fun e => hS2P.out (by rw [← e]; exact hk)))
  have kr3 : Hid (Kr w w3 P) := ⟨h3.os.trans kr2.out.os, h3.tape.trans kr2.out.tape, h3.output.trans kr2.out.output, by rw [h3.size]; exact kr2.out.size, fun k hk hkb => (h3.oth k (fun e => hkb (by rw [e]; exact h1))).trans (kr2.out.block k hk hkb)⟩
  have hs3 := Lib.hid kr3.out.size
  have HRd := Lib.hid (readH gP gB1 n N (m + 1) v T c b off false row' p S2 w3 q3 B3 (by omega) (by rw [HM.out]; omega) hv HT.out (hr.kr kr3.out hb1) hp (hTp.kr kr3.out h0))
  clear h3 q2 k12 B2 kr2
  generalize rdx N row' v p = r at *
  go_upto_region 13 with (go_at_call 53; refine HRd.out.mono ?_; rintro e w4 ⟨ho, b4⟩; rcases ho with ⟨mm, ho1, A4, n4, c4, rfl, own4⟩ | ⟨ho1, rfl⟩)
  · have q4 := q3.after b4
    have HO := Lib.hid ho1
    clear ho1
    go_upto_region 16 with (refine at_cell rfl 4 _ _ rfl gP 2 (.bool true) rfl rfl 89 (PR n (m + 1) false (.pointer (some ⟨gB1, 0, none⟩))) q4 (show 2 < 4 by omega) infoBo rfl ?_; intro w5 h5)
    have q5 : Blk w5 gP 89 (PR n (m + 1) true (.pointer (some ⟨gB1, 0, none⟩))) := h5.row
    go_wp2_with (refine at_cell rfl 68 _ _ rfl gP 3 (.pointer none) rfl rfl 89 (PR n (m + 1) true (.pointer (some ⟨gB1, 0, none⟩))) q5 (show 3 < 4 by omega) infoPB rfl ?_; intro w6 h6)
    have q6 : Blk w6 gP 89 (PR n (m + 1) true (.pointer none)) := h6.row
    have hs := hs3.out
    have hgl0 := h2 gP h1
    have own6 := (own4.upd h5 (by omega)).upd h6 (by omega)
    have l6 := q6.lt
    rw [← HM.out] at q6
    go_ret2
    rw [HO.out]
    refine ⟨⟨fun k => k = gP, fun k hk => .inl (by rw [hk]; exact h1), .pointer none, q6, rfl, fun k hk => by rw [hk]; exact l6, .inl ⟨rfl, rfl⟩⟩, ?_, .inl ⟨mm, rfl, A4, n4, c4, rfl, own6.down hs⟩⟩
    exact ⟨h6.os.trans (h5.os.trans (b4.os.trans kr3.out.os)), h6.tape.trans (h5.tape.trans (b4.tape.trans kr3.out.tape)), h6.output.trans (h5.output.trans (b4.output.trans kr3.out.output)), by rw [h6.size, h5.size]; exact Nat.le_trans hs b4.size, fun k hk hkb => (h6.oth k (fun e => hkb (by rw [e]; exact h1))).trans ((h5.oth k (fun e => hkb (by rw [e]; exact h1))).trans ((b4.block k (by omega)).trans (kr3.out.block k hk hkb)))⟩
  · have q4 := q3.after b4
    have B4 := B3.after b4
    have hs := hs3.out
    have HO := Lib.hid ho1
    clear ho1
    go_wp2
    go_ret2
    have l4 := q4.lt
    rw [← HM.out] at q4
    rw [HO.out]
    refine ⟨⟨fun k => k = gP ∨ k = gB1 ∨ S2.ownBlock = some k, fun k hk => by
      rcases hk with rfl | rfl | hk
      · exact .inl h1
      · exact hgBb.out
      · exact hS2b.out k hk, _, q4, .inl rfl, fun k hk => by
      rcases hk with rfl | rfl | hk
      · exact l4
      · exact B4.blk.lt
      · exact B4.lt k hk, .inr (.inr ⟨rfl, gB1, S2, rfl, .inr (.inl rfl), HF1.out, hS2P.out, fun k hk => .inr (.inr hk), by rw [← HN.out]; exact B4⟩)⟩, ?_, .inr ⟨rfl, rfl⟩⟩
    exact ⟨b4.os.trans kr3.out.os, b4.tape.trans kr3.out.tape, b4.output.trans kr3.out.output, Nat.le_trans hs b4.size, fun k hk hkb => (b4.block k (by omega)).trans (kr3.out.block k hk hkb)⟩
set_option maxHeartbeats 400000 in
theorem offerOther (w : World) (P : Nat → Prop) (gP n0 n N T v c b off : Nat) (row : List (Nat × List Nat)) (p : List Nat) (row1 : List (Nat × List Nat)) (hr0 : row1 = []) (gB : Nat) (q : Blk w gP 89 (PR n0 row.length false (.pointer (some ⟨gB, 0, none⟩)))) (g7 : n ≠ n0) (h1 : P gP) (h2 : ∀ k, P k → k < w.heap.size) (hn : n ≤ 64) (hN : N = 8 * (n + 4)) (hT : T = N + 6) (hv : v < 4) (hr : Rd w w.heap.size (some ⟨b, off, none⟩) T (U8 p)) (hp : ∀ x ∈ p, x ≤ 1) (hb1 : ¬ P b) (hb2 : b < w.heap.size) (h0 : ¬ P 0) (hTp : Taps w) :
    Calls Tryd.prog 13 #[.pointer (some ⟨gP, 0, none⟩), .int .i64 (n : Int), .int .i64 (v : Int), .slice (some ⟨b, off, none⟩) T c] w (OffO w P gP n (row1 ++ [(v, p)]) (rdx N (row1 ++ [(v, p)]) v p)) := by
  have HR1 := Lib.hid hr0
  have hl0 : row1.length = 0 := by rw [hr0]; rfl
  have HL0 := Lib.hid hl0.symm
  clear hr0 hl0
  have HL : lookX (n : Int) (v : Int) T p = 0 := by
    unfold lookX
    rw [if_neg (by omega), if_neg (by omega), Bm.isB_of hp, if_neg (by simp), if_neg (by rw [hT, hN]; simp)]
  have C := lookH (n : Int) (v : Int) (some ⟨b, off, none⟩) T c p w hr (bit256 hp) (by omega)
  rw [HL] at C
  replace C := Lib.hid C
  have kk := q.cell 2
  have k2 : w.cell? ⟨gP, 2, none⟩ = some (.bool false) := kk
  have kk3 := q.cell 3
  have k3 : w.cell? ⟨gP, 3, none⟩ = some (.pointer (some ⟨gB, 0, none⟩)) := kk3
  have HN := Lib.hid hN
  have HT := Lib.hid hT
  have hN2 : N ≤ 544 := by omega
  clear kk kk3 HL hN hT
  have kk0 := q.cell 0
  have k0 : w.cell? ⟨gP, 0, none⟩ = some (.int .i64 (n0 : Int)) := kk0
  have t0 : ((n : Int) != (n0 : Int)) = true := by simp <;> omega
  clear kk0
  have HBg := Lib.hid (beginH gP n0 row.length n false (.pointer (some ⟨gB, 0, none⟩)) w q hn)
  go_enter Tryd.func13, Tryd.ntmps13
  go_upto_region 10 with (first | (go_at_call 51; refine C.out.mono ?_; rintro e w' ⟨rfl, rfl⟩) | (go_at_call 52; refine HBg.out.mono ?_; rintro e w1 ⟨rfl, q1, B1, kp1⟩))
  rw [← HN.out] at B1
  have kr1 : Kr w w1 P := ⟨kp1.os, kp1.tape, kp1.output, kp1.size, fun k hk hkb => kp1.block k hk (fun e => hkb (by rw [e]; exact h1)) (by simp)⟩
  obtain ⟨gB1, hgB1⟩ : ∃ g, g = w.heap.size := ⟨_, rfl⟩
  rw [← hgB1] at B1 q1
  rw [← HR1.out] at B1
  replace q1 : Blk w1 gP 89 (PR n row1.length false (.pointer (some ⟨gB1, 0, none⟩))) := by rw [← HL0.out]; exact q1
  have f1 : gB1 ≠ gP := by have := h2 gP h1; omega
  have f2 : (Value.slice none 0 0).ownBlock ≠ some gP := by simp [Value.ownBlock]
  have f3 : P gB1 ∨ w.heap.size ≤ gB1 := .inr (by omega)
  have f4 : ∀ k, (Value.slice none 0 0).ownBlock = some k → P k := fun k hk => by cases hk
  have f5 : row1.length ≤ 15 := by rw [← HL0.out]; omega
  have hr1 := hr.kr kr1 hb1
  have HG := Lib.hid hgB1
  clear hgB1 kp1 HBg
  have hbB : b ≠ gB1 := fun e => f3.elim (fun h => hb1 (by rw [e]; exact h)) (fun h => by omega)
  have hbS : ((Value.slice none 0 0)).ownBlock ≠ some b := fun e => hb1 (f4 b e)
  have HAd := Lib.hid (addC gB1 N v T c b off row1 p (Value.slice none 0 0) w1 B1 (by omega) (by omega) hv HT.out hr1 hp hbB (by have := kr1.size; omega) hbS)
  have k31 : w1.cell? ⟨gP, 3, none⟩ = some (.pointer (some ⟨gB1, 0, none⟩)) := q1.cell 3
  go_upto_region 11 with (go_at_call 40; refine HAd.out.mono ?_; rintro e w2 ⟨rfl, S2, B2, kp2, hS2⟩)
  have q2 : Blk w2 gP 89 (PR n row1.length false (.pointer (some ⟨gB1, 0, none⟩))) := kp2.blk q1 (Ne.symm f1) f2
  have hS2P : Hid (S2.ownBlock ≠ some gP) := by
    unfold Hid
    rcases hS2 with e | ⟨k, e, hk⟩
    · rw [e]; exact f2
    · rw [e]; intro e2; injection e2 with e2; have := q1.lt; omega
  have hS2b : Hid (∀ k, S2.ownBlock = some k → P k ∨ w.heap.size ≤ k) := fun k hk => by
    rcases hS2 with e | ⟨k2, e, hk2⟩
    · exact .inl (f4 k (by rw [← e]; exact hk))
    · rw [e] at hk; injection hk with hk; have := kr1.size; exact .inr (by omega)
  have kr2 : Hid (Kr w w2 P) := ⟨kp2.os.trans kr1.os, kp2.tape.trans kr1.tape, kp2.output.trans kr1.output, Nat.le_trans kr1.size kp2.size, fun k hk hkb => (kp2.block k (by have := kr1.size; omega) (fun e => f3.elim (fun h => hkb (by rw [e]; exact h)) (fun h => by omega)) (fun e => hkb (f4 k e))).trans (kr1.block k hk hkb)⟩
  obtain ⟨m, hm⟩ : ∃ m, m = row1.length := ⟨_, rfl⟩
  have hm2 : m ≤ 15 := by rw [hm]; exact f5
  rw [← hm] at q2
  have HM : Hid ((row1 ++ [(v, p)]).length = m + 1) := by unfold Hid; rw [hm]; simp
  have k12 : w2.cell? ⟨gP, 1, none⟩ = some (.int .i64 (m : Int)) := q2.cell 1
  have hgBb : Hid (P gB1 ∨ w.heap.size ≤ gB1) := f3
  have HF1 := Lib.hid f1
  clear k31 HAd hbB hbS q1 B1 kp2 hS2 kr1 f2 f3 f4 f5 hm hr1 f1
  generalize row1 ++ [(v, p)] = row' at *
  go_upto_region 12 with (refine at_cell rfl 3 _ _ rfl gP 1 (.int .i64 ((m : Int) + 1)) rfl rfl 89 (PR n m false (.pointer (some ⟨gB1, 0, none⟩))) q2 (show 1 < 4 by omega) info3one rfl ?_; intro w3 h3)
  have q3 : Blk w3 gP 89 (PR n (m + 1) false (.pointer (some ⟨gB1, 0, none⟩))) := by
    have := h3.row
    unfold PR
    rw [show ((m + 1 : Nat) : Int) = (m : Int) + 1 by omega]
    exact this
  have B3 : BufS w3 gB1 N row' S2 := B2.of_heap (h3.oth _ HF1.out) (fun k hk => h3.oth k (fun e => hS2P.out (by rw [← e]; exact hk)))
  have kr3 : Hid (Kr w w3 P) := ⟨h3.os.trans kr2.out.os, h3.tape.trans kr2.out.tape, h3.output.trans kr2.out.output, by rw [h3.size]; exact kr2.out.size, fun k hk hkb => (h3.oth k (fun e => hkb (by rw [e]; exact h1))).trans (kr2.out.block k hk hkb)⟩
  have hs3 := Lib.hid kr3.out.size
  have HRd := Lib.hid (readH gP gB1 n N (m + 1) v T c b off false row' p S2 w3 q3 B3 (by omega) (by rw [HM.out]; omega) hv HT.out (hr.kr kr3.out hb1) hp (hTp.kr kr3.out h0))
  clear h3 q2 k12 B2 kr2
  generalize rdx N row' v p = r at *
  go_upto_region 13 with (go_at_call 53; refine HRd.out.mono ?_; rintro e w4 ⟨ho, b4⟩; rcases ho with ⟨mm, ho1, A4, n4, c4, rfl, own4⟩ | ⟨ho1, rfl⟩)
  · have q4 := q3.after b4
    have HO := Lib.hid ho1
    clear ho1
    go_upto_region 16 with (refine at_cell rfl 4 _ _ rfl gP 2 (.bool true) rfl rfl 89 (PR n (m + 1) false (.pointer (some ⟨gB1, 0, none⟩))) q4 (show 2 < 4 by omega) infoBo rfl ?_; intro w5 h5)
    have q5 : Blk w5 gP 89 (PR n (m + 1) true (.pointer (some ⟨gB1, 0, none⟩))) := h5.row
    go_wp2_with (refine at_cell rfl 68 _ _ rfl gP 3 (.pointer none) rfl rfl 89 (PR n (m + 1) true (.pointer (some ⟨gB1, 0, none⟩))) q5 (show 3 < 4 by omega) infoPB rfl ?_; intro w6 h6)
    have q6 : Blk w6 gP 89 (PR n (m + 1) true (.pointer none)) := h6.row
    have hs := hs3.out
    have hgl0 := h2 gP h1
    have own6 := (own4.upd h5 (by omega)).upd h6 (by omega)
    have l6 := q6.lt
    rw [← HM.out] at q6
    go_ret2
    rw [HO.out]
    refine ⟨⟨fun k => k = gP, fun k hk => .inl (by rw [hk]; exact h1), .pointer none, q6, rfl, fun k hk => by rw [hk]; exact l6, .inl ⟨rfl, rfl⟩⟩, ?_, .inl ⟨mm, rfl, A4, n4, c4, rfl, own6.down hs⟩⟩
    exact ⟨h6.os.trans (h5.os.trans (b4.os.trans kr3.out.os)), h6.tape.trans (h5.tape.trans (b4.tape.trans kr3.out.tape)), h6.output.trans (h5.output.trans (b4.output.trans kr3.out.output)), by rw [h6.size, h5.size]; exact Nat.le_trans hs b4.size, fun k hk hkb => (h6.oth k (fun e => hkb (by rw [e]; exact h1))).trans ((h5.oth k (fun e => hkb (by rw [e]; exact h1))).trans ((b4.block k (by omega)).trans (kr3.out.block k hk hkb)))⟩
  · have q4 := q3.after b4
    have B4 := B3.after b4
    have hs := hs3.out
    have HO := Lib.hid ho1
    clear ho1
    go_wp2
    go_ret2
    have l4 := q4.lt
    rw [← HM.out] at q4
    rw [HO.out]
    refine ⟨⟨fun k => k = gP ∨ k = gB1 ∨ S2.ownBlock = some k, fun k hk => by
      rcases hk with rfl | rfl | hk
      · exact .inl h1
      · exact hgBb.out
      · exact hS2b.out k hk, _, q4, .inl rfl, fun k hk => by
      rcases hk with rfl | rfl | hk
      · exact l4
      · exact B4.blk.lt
      · exact B4.lt k hk, .inr (.inr ⟨rfl, gB1, S2, rfl, .inr (.inl rfl), HF1.out, hS2P.out, fun k hk => .inr (.inr hk), by rw [← HN.out]; exact B4⟩)⟩, ?_, .inr ⟨rfl, rfl⟩⟩
    exact ⟨b4.os.trans kr3.out.os, b4.tape.trans kr3.out.tape, b4.output.trans kr3.out.output, Nat.le_trans hs b4.size, fun k hk hkb => (b4.block k (by omega)).trans (kr3.out.block k hk hkb)⟩
set_option maxHeartbeats 400000 in
theorem offerMany (w : World) (P : Nat → Prop) (gP n N T v c b off : Nat) (row : List (Nat × List Nat)) (p : List Nat) (row1 : List (Nat × List Nat)) (hr0 : row1 = []) (gB : Nat) (q : Blk w gP 89 (PR n row.length false (.pointer (some ⟨gB, 0, none⟩)))) (g7 : 16 ≤ row.length) (h1 : P gP) (h2 : ∀ k, P k → k < w.heap.size) (hn : n ≤ 64) (hN : N = 8 * (n + 4)) (hT : T = N + 6) (hv : v < 4) (hr : Rd w w.heap.size (some ⟨b, off, none⟩) T (U8 p)) (hp : ∀ x ∈ p, x ≤ 1) (hb1 : ¬ P b) (hb2 : b < w.heap.size) (h0 : ¬ P 0) (hTp : Taps w) :
    Calls Tryd.prog 13 #[.pointer (some ⟨gP, 0, none⟩), .int .i64 (n : Int), .int .i64 (v : Int), .slice (some ⟨b, off, none⟩) T c] w (OffO w P gP n (row1 ++ [(v, p)]) (rdx N (row1 ++ [(v, p)]) v p)) := by
  have HR1 := Lib.hid hr0
  have hl0 : row1.length = 0 := by rw [hr0]; rfl
  have HL0 := Lib.hid hl0.symm
  clear hr0 hl0
  have HL : lookX (n : Int) (v : Int) T p = 0 := by
    unfold lookX
    rw [if_neg (by omega), if_neg (by omega), Bm.isB_of hp, if_neg (by simp), if_neg (by rw [hT, hN]; simp)]
  have C := lookH (n : Int) (v : Int) (some ⟨b, off, none⟩) T c p w hr (bit256 hp) (by omega)
  rw [HL] at C
  replace C := Lib.hid C
  have kk := q.cell 2
  have k2 : w.cell? ⟨gP, 2, none⟩ = some (.bool false) := kk
  have kk3 := q.cell 3
  have k3 : w.cell? ⟨gP, 3, none⟩ = some (.pointer (some ⟨gB, 0, none⟩)) := kk3
  have HN := Lib.hid hN
  have HT := Lib.hid hT
  have hN2 : N ≤ 544 := by omega
  clear kk kk3 HL hN hT
  have kk0 := q.cell 0
  have k0 : w.cell? ⟨gP, 0, none⟩ = some (.int .i64 (n : Int)) := kk0
  have t0 : ((n : Int) != (n : Int)) = false := by simp
  have kk1 := q.cell 1
  have k1 : w.cell? ⟨gP, 1, none⟩ = some (.int .i64 ((row.length : Nat) : Int)) := kk1
  have t1 : decide ((16 : Int) ≤ ((row.length : Nat) : Int)) = true := by simp <;> omega
  clear kk0 kk1
  have HBg := Lib.hid (beginH gP n row.length n false (.pointer (some ⟨gB, 0, none⟩)) w q hn)
  go_enter Tryd.func13, Tryd.ntmps13
  go_upto_region 10 with (first | (go_at_call 51; refine C.out.mono ?_; rintro e w' ⟨rfl, rfl⟩) | (go_at_call 52; refine HBg.out.mono ?_; rintro e w1 ⟨rfl, q1, B1, kp1⟩))
  rw [← HN.out] at B1
  have kr1 : Kr w w1 P := ⟨kp1.os, kp1.tape, kp1.output, kp1.size, fun k hk hkb => kp1.block k hk (fun e => hkb (by rw [e]; exact h1)) (by simp)⟩
  obtain ⟨gB1, hgB1⟩ : ∃ g, g = w.heap.size := ⟨_, rfl⟩
  rw [← hgB1] at B1 q1
  rw [← HR1.out] at B1
  replace q1 : Blk w1 gP 89 (PR n row1.length false (.pointer (some ⟨gB1, 0, none⟩))) := by rw [← HL0.out]; exact q1
  have f1 : gB1 ≠ gP := by have := h2 gP h1; omega
  have f2 : (Value.slice none 0 0).ownBlock ≠ some gP := by simp [Value.ownBlock]
  have f3 : P gB1 ∨ w.heap.size ≤ gB1 := .inr (by omega)
  have f4 : ∀ k, (Value.slice none 0 0).ownBlock = some k → P k := fun k hk => by cases hk
  have f5 : row1.length ≤ 15 := by rw [← HL0.out]; omega
  have hr1 := hr.kr kr1 hb1
  have HG := Lib.hid hgB1
  clear hgB1 kp1 HBg
  have hbB : b ≠ gB1 := fun e => f3.elim (fun h => hb1 (by rw [e]; exact h)) (fun h => by omega)
  have hbS : ((Value.slice none 0 0)).ownBlock ≠ some b := fun e => hb1 (f4 b e)
  have HAd := Lib.hid (addC gB1 N v T c b off row1 p (Value.slice none 0 0) w1 B1 (by omega) (by omega) hv HT.out hr1 hp hbB (by have := kr1.size; omega) hbS)
  have k31 : w1.cell? ⟨gP, 3, none⟩ = some (.pointer (some ⟨gB1, 0, none⟩)) := q1.cell 3
  go_upto_region 11 with (go_at_call 40; refine HAd.out.mono ?_; rintro e w2 ⟨rfl, S2, B2, kp2, hS2⟩)
  have q2 : Blk w2 gP 89 (PR n row1.length false (.pointer (some ⟨gB1, 0, none⟩))) := kp2.blk q1 (Ne.symm f1) f2
  have hS2P : Hid (S2.ownBlock ≠ some gP) := by
    unfold Hid
    rcases hS2 with e | ⟨k, e, hk⟩
    · rw [e]; exact f2
    · rw [e]; intro e2; injection e2 with e2; have := q1.lt; omega
  have hS2b : Hid (∀ k, S2.ownBlock = some k → P k ∨ w.heap.size ≤ k) := fun k hk => by
    rcases hS2 with e | ⟨k2, e, hk2⟩
    · exact .inl (f4 k (by rw [← e]; exact hk))
    · rw [e] at hk; injection hk with hk; have := kr1.size; exact .inr (by omega)
  have kr2 : Hid (Kr w w2 P) := ⟨kp2.os.trans kr1.os, kp2.tape.trans kr1.tape, kp2.output.trans kr1.output, Nat.le_trans kr1.size kp2.size, fun k hk hkb => (kp2.block k (by have := kr1.size; omega) (fun e => f3.elim (fun h => hkb (by rw [e]; exact h)) (fun h => by omega)) (fun e => hkb (f4 k e))).trans (kr1.block k hk hkb)⟩
  obtain ⟨m, hm⟩ : ∃ m, m = row1.length := ⟨_, rfl⟩
  have hm2 : m ≤ 15 := by rw [hm]; exact f5
  rw [← hm] at q2
  have HM : Hid ((row1 ++ [(v, p)]).length = m + 1) := by unfold Hid; rw [hm]; simp
  have k12 : w2.cell? ⟨gP, 1, none⟩ = some (.int .i64 (m : Int)) := q2.cell 1
  have hgBb : Hid (P gB1 ∨ w.heap.size ≤ gB1) := f3
  have HF1 := Lib.hid f1
  clear k31 HAd hbB hbS q1 B1 kp2 hS2 kr1 f2 f3 f4 f5 hm hr1 f1
  generalize row1 ++ [(v, p)] = row' at *
  go_upto_region 12 with (refine at_cell rfl 3 _ _ rfl gP 1 (.int .i64 ((m : Int) + 1)) rfl rfl 89 (PR n m false (.pointer (some ⟨gB1, 0, none⟩))) q2 (show 1 < 4 by omega) info3one rfl ?_; intro w3 h3)
  have q3 : Blk w3 gP 89 (PR n (m + 1) false (.pointer (some ⟨gB1, 0, none⟩))) := by
    have := h3.row
    unfold PR
    rw [show ((m + 1 : Nat) : Int) = (m : Int) + 1 by omega]
    exact this
  have B3 : BufS w3 gB1 N row' S2 := B2.of_heap (h3.oth _ HF1.out) (fun k hk => h3.oth k (fun e => hS2P.out (by rw [← e]; exact hk)))
  have kr3 : Hid (Kr w w3 P) := ⟨h3.os.trans kr2.out.os, h3.tape.trans kr2.out.tape, h3.output.trans kr2.out.output, by rw [h3.size]; exact kr2.out.size, fun k hk hkb => (h3.oth k (fun e => hkb (by rw [e]; exact h1))).trans (kr2.out.block k hk hkb)⟩
  have hs3 := Lib.hid kr3.out.size
  have HRd := Lib.hid (readH gP gB1 n N (m + 1) v T c b off false row' p S2 w3 q3 B3 (by omega) (by rw [HM.out]; omega) hv HT.out (hr.kr kr3.out hb1) hp (hTp.kr kr3.out h0))
  clear h3 q2 k12 B2 kr2
  generalize rdx N row' v p = r at *
  go_upto_region 13 with (go_at_call 53; refine HRd.out.mono ?_; rintro e w4 ⟨ho, b4⟩; rcases ho with ⟨mm, ho1, A4, n4, c4, rfl, own4⟩ | ⟨ho1, rfl⟩)
  · have q4 := q3.after b4
    have HO := Lib.hid ho1
    clear ho1
    go_upto_region 16 with (refine at_cell rfl 4 _ _ rfl gP 2 (.bool true) rfl rfl 89 (PR n (m + 1) false (.pointer (some ⟨gB1, 0, none⟩))) q4 (show 2 < 4 by omega) infoBo rfl ?_; intro w5 h5)
    have q5 : Blk w5 gP 89 (PR n (m + 1) true (.pointer (some ⟨gB1, 0, none⟩))) := h5.row
    go_wp2_with (refine at_cell rfl 68 _ _ rfl gP 3 (.pointer none) rfl rfl 89 (PR n (m + 1) true (.pointer (some ⟨gB1, 0, none⟩))) q5 (show 3 < 4 by omega) infoPB rfl ?_; intro w6 h6)
    have q6 : Blk w6 gP 89 (PR n (m + 1) true (.pointer none)) := h6.row
    have hs := hs3.out
    have hgl0 := h2 gP h1
    have own6 := (own4.upd h5 (by omega)).upd h6 (by omega)
    have l6 := q6.lt
    rw [← HM.out] at q6
    go_ret2
    rw [HO.out]
    refine ⟨⟨fun k => k = gP, fun k hk => .inl (by rw [hk]; exact h1), .pointer none, q6, rfl, fun k hk => by rw [hk]; exact l6, .inl ⟨rfl, rfl⟩⟩, ?_, .inl ⟨mm, rfl, A4, n4, c4, rfl, own6.down hs⟩⟩
    exact ⟨h6.os.trans (h5.os.trans (b4.os.trans kr3.out.os)), h6.tape.trans (h5.tape.trans (b4.tape.trans kr3.out.tape)), h6.output.trans (h5.output.trans (b4.output.trans kr3.out.output)), by rw [h6.size, h5.size]; exact Nat.le_trans hs b4.size, fun k hk hkb => (h6.oth k (fun e => hkb (by rw [e]; exact h1))).trans ((h5.oth k (fun e => hkb (by rw [e]; exact h1))).trans ((b4.block k (by omega)).trans (kr3.out.block k hk hkb)))⟩
  · have q4 := q3.after b4
    have B4 := B3.after b4
    have hs := hs3.out
    have HO := Lib.hid ho1
    clear ho1
    go_wp2
    go_ret2
    have l4 := q4.lt
    rw [← HM.out] at q4
    rw [HO.out]
    refine ⟨⟨fun k => k = gP ∨ k = gB1 ∨ S2.ownBlock = some k, fun k hk => by
      rcases hk with rfl | rfl | hk
      · exact .inl h1
      · exact hgBb.out
      · exact hS2b.out k hk, _, q4, .inl rfl, fun k hk => by
      rcases hk with rfl | rfl | hk
      · exact l4
      · exact B4.blk.lt
      · exact B4.lt k hk, .inr (.inr ⟨rfl, gB1, S2, rfl, .inr (.inl rfl), HF1.out, hS2P.out, fun k hk => .inr (.inr hk), by rw [← HN.out]; exact B4⟩)⟩, ?_, .inr ⟨rfl, rfl⟩⟩
    exact ⟨b4.os.trans kr3.out.os, b4.tape.trans kr3.out.tape, b4.output.trans kr3.out.output, Nat.le_trans hs b4.size, fun k hk hkb => (b4.block k (by omega)).trans (kr3.out.block k hk hkb)⟩
/-- (*Process).Offer. -/
theorem offerC (w : World) (P : Nat → Prop) (gP n0 n N T v c b off : Nat) (row : List (Nat × List Nat)) (p : List Nat) (h : PrS w P gP n0 row false) (hn : n ≤ 64) (hN : N = 8 * (n + 4)) (hT : T = N + 6) (hv : v < 4) (hr : Rd w w.heap.size (some ⟨b, off, none⟩) T (U8 p)) (hp : ∀ x ∈ p, x ≤ 1) (hb1 : ¬ P b) (hb2 : b < w.heap.size) (h0 : ¬ P 0) (hTp : Taps w) :
    Calls Tryd.prog 13 #[.pointer (some ⟨gP, 0, none⟩), .int .i64 (n : Int), .int .i64 (v : Int), .slice (some ⟨b, off, none⟩) T c] w (OffO w P gP n (anew n0 row n ++ [(v, p)]) (rdx N (anew n0 row n ++ [(v, p)]) v p)) := by
  obtain ⟨B, q, h1, h2, h⟩ := h
  rcases h with ⟨h, _⟩ | ⟨_, rfl, rfl⟩ | ⟨_, gB, S, rfl, g1, g3, g4, g5, g6⟩
  · cases h
  · have e : anew n0 ([] : List (Nat × List Nat)) n = [] := by unfold anew; split <;> rfl
    rw [e]
    exact offerFirst w P gP n0 n N T v c b off p [] rfl q h1 h2 hn hN hT hv hr hp hb1 hb2 h0 hTp
  · by_cases h7 : n = n0
    · subst h7
      by_cases h8 : 16 ≤ row.length
      · have e : anew n row n = [] := by unfold anew; rw [if_pos (.inr h8)]
        rw [e]
        exact offerMany w P gP n N T v c b off row p [] rfl gB q h8 h1 h2 hn hN hT hv hr hp hb1 hb2 h0 hTp
      · have e : anew n row n = row := by unfold anew; rw [if_neg (by omega)]
        rw [e]
        exact offerKeep w P gP n N T v c b off row p gB S q g1 g3 g4 g5 g6 (by omega) h1 h2 hn hN hT hv hr hp hb1 hb2 h0 hTp
    · have e : anew n0 row n = [] := by unfold anew; rw [if_pos (.inl h7)]
      rw [e]
      exact offerOther w P gP n0 n N T v c b off row p [] rfl gB q h7 h1 h2 hn hN hT hv hr hp hb1 hb2 h0 hTp
end Go.Proofs.YtcmoedhpedlalaaDoor
