/-
  The reference of layer 17: New, DocOffer.
-/
import Derived.Test.YtcmoedhpedlalaaDoorHk
import Derived.Test.YtcmoedhpedlalaaDoorYe
import Derived.Test.YtcmoedhpedlalaaDoorHd
import Derived.Test.YtcmoedhpedlalaaDoorPe
import Derived.Test.YtcmoedhpedlalaaDoorVt
namespace Go.Proofs.YtcmoedhpedlalaaDoor
open Go.RowKit
set_option maxRecDepth 100000
set_option linter.unusedVariables false
set_option linter.unusedSimpArgs false

/-- The reference's Process, as cells. -/
def QR (n gR came : Nat) (done : Bool) : Array Value := #[.int .i64 (n : Int), .pointer (some ⟨gR, 0, none⟩), .int .i64 (came : Int), .bool done]
theorem infoPR : (Tryd.prog.info? 39).map (·.size) = some 1 := by kernel_rfl
/-- The reference's Process, all of whose blocks are among Q. -/
def QrS (w : World) (Q : Nat → Prop) (gQ n : Nat) (row : List (Nat × List Nat)) (done : Bool) : Prop :=
  ∃ gR gs, Blk w gQ 41 (QR n gR row.length done) ∧ Q gQ ∧ Q gR ∧ Q gs ∧ gR ≠ gQ ∧ gs ≠ gQ ∧ (∀ k, Q k → k < w.heap.size) ∧ RBufS w gR (8 * (n + 4)) row gs
theorem QrS.lt {w : World} {Q : Nat → Prop} {gQ n : Nat} {row : List (Nat × List Nat)} {d : Bool} (h : QrS w Q gQ n row d) : ∀ k, Q k → k < w.heap.size := by
  obtain ⟨gR, gs, q, h1, h2, h3, h4, h5, h6, h7⟩ := h
  exact h6
theorem QrS.of_heap {w w' : World} {Q : Nat → Prop} {gQ n : Nat} {row : List (Nat × List Nat)} {d : Bool} (h : QrS w Q gQ n row d) (hb : ∀ k, Q k → w'.heap[k]? = w.heap[k]?) (hs : w.heap.size ≤ w'.heap.size) : QrS w' Q gQ n row d := by
  obtain ⟨gR, gs, q, h1, h2, h3, h4, h5, h6, h7⟩ := h
  exact ⟨gR, gs, (hb gQ h1).trans q, h1, h2, h3, h4, h5, fun k hk => Nat.lt_of_lt_of_le (h6 k hk) hs, h7.of_heap (hb gR h2) (hb gs h3)⟩
theorem QrS.after {w w' : World} {Q : Nat → Prop} {gQ n : Nat} {row : List (Nat × List Nat)} {d : Bool} (h : QrS w Q gQ n row d) (hb : Below w.heap.size w w') : QrS w' Q gQ n row d := h.of_heap (fun k hk => hb.block k (h.lt k hk)) hb.size
/-- What DocOffer gives. -/
def OffR (w : World) (Q : Nat → Prop) (gQ n : Nat) (row : List (Nat × List Nat)) (r : Option (List Nat)) (e : Ending) (w' : World) : Prop :=
  (∃ Q' : Nat → Prop, (∀ k, Q' k → Q k ∨ w.heap.size ≤ k) ∧ QrS w' Q' gQ n row r.isSome) ∧ Kr w w' Q ∧ ((∃ m, r = some m ∧ ∃ A k c, e = .returned (.tuple #[.slice A k c, .int .i64 0]) ∧ Rd w' w'.heap.size A k (U8 m) ∧ (A = none → k = 0)) ∨ r = none ∧ e = .returned (.tuple #[.slice none 0 0, .int .i64 12]))
/-- What r4.Open of r1.Bytes gives, of a list. -/
def RopO (w : World) (base : Nat) (r : Option (List Nat)) (e : Ending) (w' : World) : Prop := Below w.heap.size w w' ∧ ((∃ m, r = some m ∧ ∃ A n c, e = .returned (.tuple #[.slice A n c, .bool true]) ∧ (∀ W, (∀ k, base ≤ k → k < w'.heap.size → W.heap[k]? = w'.heap[k]?) → w'.heap.size ≤ W.heap.size → Rd W W.heap.size A n (U8 m)) ∧ (A = none → n = 0)) ∨ r = none ∧ ∃ A n c, e = .returned (.tuple #[.slice A n c, .bool false]))
theorem opens_opn (x : List Nat) (hx : ∀ b ∈ x, b ≤ 1) (A : Option Addr) (n c : Nat) (W : World) (base : Nat) (own : Own W base 5 A n c (U8 (Bm.toBytes x))) (hxl : x.length ≤ 4000) : Calls Tryd.prog 57 #[.slice A n c] W (RopO W base (opn x)) := by
  have hn := own.rd.len8
  rw [Bm.toBytes_length] at hn
  obtain ⟨hc1, hc2⟩ := own.bounds
  refine (refOpenR A n c _ W own.rd (toBytes_lt x hx) hc1 (by omega) (by unfold maxLen at hc2; omega) (fun W' hW => own.convO W' hW)).mono ?_
  rintro e w' ⟨ho, b⟩
  refine ⟨b, ?_⟩
  rcases ho with ⟨h1, rfl⟩ | ⟨h1, rfl⟩
  · refine .inl ⟨_, by unfold opn; rw [if_pos h1], A, n - 4, c, rfl, fun W' hh hs => ?_, fun h => by have := own.none_ h; omega⟩
    have r := own.rd.cut8 (n - 4) (by omega)
    have hl := own.rd.len8
    rw [hl] at r ⊢
    refine ⟨r.len, fun hp => ?_⟩
    obtain ⟨b', off', e, hlt, hc⟩ := r.at_ hp
    have hbl : base ≤ b' := (own.block b' (by rw [e]; rfl)).1
    have hsz := b.size
    exact ⟨b', off', e, by omega, fun i u hu => ((cell_of_heap (hh b' hbl (by omega)) _).trans ((b.cell (p := ⟨b', off' + i, none⟩) hlt))).trans (hc i u hu)⟩
  · exact .inr ⟨by unfold opn; rw [if_neg (by rw [h1]; decide)], none, 0, 0, rfl⟩
set_option maxHeartbeats 400000 in
theorem rbits17 (n : Nat) (w : World) (h : n ≤ 65536) : Calls Tryd.prog 56 #[.int .i64 (n : Int)] w fun e w' => e = .returned (.int .i64 (8 * ((n : Int) + 4) + 6)) ∧ w = w' := by
  go_enter Tryd.func56, Tryd.ntmps56
  go_wp2
  go_ret
  exact ⟨rfl, rfl⟩
set_option maxHeartbeats 400000 in
/-- The reference's New. -/
theorem rNew17 (n : Nat) (w : World) (hn : n ≤ 64) : Calls Tryd.prog 19 #[.int .i64 (n : Int)] w fun e w' => ∃ gQ, e = .returned (.pointer (some ⟨gQ, 0, none⟩)) ∧ (∃ Q : Nat → Prop, QrS w' Q gQ n [] false ∧ ∀ k, Q k → w.heap.size ≤ k) ∧ Below w.heap.size w w' := by
  have C := rNew13 (8 * (n + 4)) w (by omega)
  rw [show ((8 * (n + 4) : Nat) : Int) = 8 * ((n : Int) + 4) by omega] at C
  replace C := Lib.hid C
  go_enter Tryd.func19, Tryd.ntmps19
  go_wp2_with (first
    | (go_at_call 45; refine C.out.mono ?_; rintro e w1 ⟨gR, gs, rfl, B1, b1, hg1, hg2⟩)
    | (refine at_box rfl 41 _ rfl (QR n gR 0 false) rfl ?_; intro w2 h2))
  go_ret
  have l1 := B1.blk.lt
  have l2 := B1.sums.lt
  have l3 := h2.row.lt
  refine ⟨w1.heap.size, rfl, ⟨fun k => k = w1.heap.size ∨ k = gR ∨ k = gs, ⟨gR, gs, h2.row, .inl rfl, .inr (.inl rfl), .inr (.inr rfl), by omega, by omega, fun k hk => by omega, B1.after h2.bel⟩, fun k hk => ?_⟩, Below.then_ b1 h2.bel⟩
  have := b1.size
  omega
set_option maxHeartbeats 400000 in
/-- DocOffer to one that was read. -/
theorem docOld (w : World) (Q : Nat → Prop) (gQ n0 : Nat) (row : List (Nat × List Nat)) (n v : Int) (A : Option Addr) (k c : Nat) (h : QrS w Q gQ n0 row true) : Calls Tryd.prog 21 #[.pointer (some ⟨gQ, 0, none⟩), .int .i64 n, .int .i64 v, .slice A k c] w fun e w' => e = .returned (.tuple #[.slice none 0 0, .int .i64 10]) ∧ w = w' := by
  obtain ⟨gR, gs, q, _⟩ := h
  have k := q.cell 3
  have k2 : w.cell? ⟨gQ, 3, none⟩ = some (.bool true) := k
  clear q k
  go_enter Tryd.func21, Tryd.ntmps21
  go_wp2
  go_ret2
  exact ⟨rfl, rfl⟩
set_option maxHeartbeats 1000000 in
/-- DocOffer of what can be no version. -/
theorem docNo (w : World) (Q : Nat → Prop) (gQ n0 : Nat) (row : List (Nat × List Nat)) (n v : Int) (A : Option Addr) (k c : Nat) (bs : List Nat) (h : QrS w Q gQ n0 row false) (hr : Rd w w.heap.size A k (U8 bs)) (hb : ∀ b ∈ bs, b < 256) (hk : k ≤ 65536) (hX : lookX n v k bs ≠ 0) :
    Calls Tryd.prog 21 #[.pointer (some ⟨gQ, 0, none⟩), .int .i64 n, .int .i64 v, .slice A k c] w fun e w' => e = .returned (.tuple #[.slice none 0 0, .int .i64 (lookX n v k bs)]) ∧ w = w' := by
  obtain ⟨gR, gs, q, _⟩ := h
  have kk := q.cell 3
  have k2 : w.cell? ⟨gQ, 3, none⟩ = some (.bool false) := kk
  clear q kk
  have CR := Lib.hid (refRight A k c bs w hr hb hk)
  by_cases h1 : 0 ≤ n ∧ n ≤ 64
  · obtain ⟨m, rfl⟩ : ∃ m : Nat, n = (m : Int) := ⟨n.toNat, by omega⟩
    have hm : m ≤ 64 := by omega
    have CB := Lib.hid (rbits17 m w (by omega))
    have HX : Hid (lookX (m : Int) v k bs = if v < 0 ∨ 4 ≤ v then 1 else if Bm.isB bs = false then 5 else if (k : Int) ≠ 8 * ((m : Int) + 4) + 6 then 13 else 0) := by
      unfold Hid lookX; rw [if_neg (by omega)]
    generalize lookX (m : Int) v k bs = X at *
    obtain ⟨t, ht⟩ : ∃ t, t = 8 * (m + 4) + 6 := ⟨_, rfl⟩
    have HE : Hid (8 * ((m : Int) + 4) + 6 = (t : Int)) := by unfold Hid; omega
    rw [HE.out] at HX CB
    clear h1 ht hr hb
    generalize Bm.isB bs = qq at *
    by_cases hv1 : v < 0
    · have hE := HX.out
      rw [if_pos (.inl hv1)] at hE
      subst hE
      go_enter Tryd.func21, Tryd.ntmps21
      go_wp2
      go_ret2
      exact ⟨rfl, rfl⟩
    · by_cases hv2 : 4 ≤ v
      · have hE := HX.out
        rw [if_pos (.inr hv2)] at hE
        subst hE
        go_enter Tryd.func21, Tryd.ntmps21
        go_wp2
        go_ret2
        exact ⟨rfl, rfl⟩
      · have hE := HX.out
        rw [if_neg (by omega)] at hE
        cases qq with
        | false =>
          rw [if_pos rfl] at hE
          subst hE
          go_enter Tryd.func21, Tryd.ntmps21
          go_wp2_with (go_at_call 47; refine CR.out.mono ?_; rintro e w' ⟨rfl, rfl⟩)
          go_ret2
          exact ⟨rfl, rfl⟩
        | true =>
          rw [if_neg (by simp)] at hE
          by_cases hkt : (k : Int) = (t : Int)
          · rw [if_neg (by simp [hkt])] at hE
            exact absurd hE hX
          · rw [if_pos hkt] at hE
            subst hE
            have n0 : ((k : Int) != (t : Int)) = true := by simp <;> omega
            go_enter Tryd.func21, Tryd.ntmps21
            go_wp2_with (first | (go_at_call 47; refine CR.out.mono ?_; rintro e w' ⟨rfl, rfl⟩) | (go_at_call 56; refine CB.out.mono ?_; rintro e w' ⟨rfl, rfl⟩))
            go_ret2
            exact ⟨rfl, rfl⟩
  · have HX : lookX n v k bs = 7 := by unfold lookX; rw [if_pos h1]
    rw [HX]
    clear HX hr hb hX
    by_cases h2 : n < 0
    · go_enter Tryd.func21, Tryd.ntmps21
      clear h1
      go_wp2
      go_ret2
      exact ⟨rfl, rfl⟩
    · have h3 : 64 < n := by omega
      clear h1
      go_enter Tryd.func21, Tryd.ntmps21
      go_wp2
      go_ret2
      exact ⟨rfl, rfl⟩
set_option maxHeartbeats 600000 in
theorem docKeep (w : World) (Q : Nat → Prop) (gQ n0 n N T v c b off gR gs : Nat) (row row1 : List (Nat × List Nat)) (p : List Nat) (q : Blk w gQ 41 (QR n0 gR row.length false)) (h1 : Q gQ) (h2 : Q gR) (h3 : Q gs) (h4 : gR ≠ gQ) (h5 : gs ≠ gQ) (h6 : ∀ k, Q k → k < w.heap.size) (h7 : RBufS w gR (8 * (n0 + 4)) row gs) (h8 : row1 = row) (h9 : n = n0) (h10 : row.length ≤ 15) (hn : n ≤ 64) (hN : N = 8 * (n + 4)) (hT : T = N + 6) (hv : v < 4) (hr : Rd w w.heap.size (some ⟨b, off, none⟩) T (U8 p)) (hp : ∀ x ∈ p, x ≤ 1) (hb1 : ¬ Q b) (hb2 : b < w.heap.size) :
    Calls Tryd.prog 21 #[.pointer (some ⟨gQ, 0, none⟩), .int .i64 (n : Int), .int .i64 (v : Int), .slice (some ⟨b, off, none⟩) T c] w (OffR w Q gQ n (row1 ++ [(v, p)]) (rdx N (row1 ++ [(v, p)]) v p)) := by
  subst h8 h9
  have CR := refRight (some ⟨b, off, none⟩) T c p w hr (bit256 hp) (by omega)
  rw [Bm.isB_of hp] at CR
  replace CR := Lib.hid CR
  have CB := rbits17 n w (by omega)
  rw [show 8 * ((n : Int) + 4) + 6 = (T : Int) by omega] at CB
  replace CB := Lib.hid CB
  have kk := q.cell 3
  have k3 : w.cell? ⟨gQ, 3, none⟩ = some (.bool false) := kk
  have kk0 := q.cell 0
  have k0 : w.cell? ⟨gQ, 0, none⟩ = some (.int .i64 (n : Int)) := kk0
  have kk2 := q.cell 2
  have k2 : w.cell? ⟨gQ, 2, none⟩ = some (.int .i64 ((row1.length : Nat) : Int)) := kk2
  have tT : ((T : Int) != (T : Int)) = false := by simp
  have HN := Lib.hid hN
  have HT := Lib.hid hT
  have hN2 : N ≤ 544 := by omega
  clear kk kk0 kk2 hN hT
  have t0 : ((n : Int) != (n : Int)) = false := by simp
  have t1 : (((row1.length : Nat) : Int) == 16) = false := by simp <;> omega
  have q1 := q
  have B1 : RBufS w gR N row1 gs := by rw [HN.out]; exact h7
  have kr1 : Kr w w Q := Kr.of_below (Below.refl _ _)
  have f1 := h4
  have f2 := h5
  have f3 : Q gR ∨ w.heap.size ≤ gR := .inl h2
  have f4 : Q gs ∨ w.heap.size ≤ gs := .inl h3
  have f5 := h10
  have hr1 := hr
  clear h2 h3 h4 h5 h7 h10
  go_enter Tryd.func21, Tryd.ntmps21
  have hbR : b ≠ gR := fun e => f3.elim (fun h => hb1 (by rw [e]; exact h)) (fun h => by omega)
  have hbG : b ≠ gs := fun e => f4.elim (fun h => hb1 (by rw [e]; exact h)) (fun h => by omega)
  have HAd := Lib.hid (docAdd gR N v T c gs b off row1 p w B1 (by omega) (by omega) hv HT.out hr1 hp hbR hbG (by have := kr1.size; omega))
  have k11 : w.cell? ⟨gQ, 1, none⟩ = some (.pointer (some ⟨gR, 0, none⟩)) := q1.cell 1
  go_upto_region 14 with (first | (go_at_call 47; refine CR.out.mono ?_; rintro e w' ⟨rfl, rfl⟩) | (go_at_call 56; refine CB.out.mono ?_; rintro e w' ⟨rfl, rfl⟩) | (go_at_call 48; refine HAd.out.mono ?_; rintro e w2 ⟨rfl, B2, kp2⟩))
  have q2 : Blk w2 gQ 41 (QR n gR row1.length false) := kp2.blk q1 (Ne.symm f1) (fun e => f2 (Option.some.inj e))
  have kr2 : Hid (Kr w w2 Q) := ⟨kp2.os.trans kr1.os, kp2.tape.trans kr1.tape, kp2.output.trans kr1.output, Nat.le_trans kr1.size kp2.size, fun k hk hkb => (kp2.block k (by have := kr1.size; omega) (fun e => f3.elim (fun h => hkb (by rw [e]; exact h)) (fun h => by omega)) (fun e => f4.elim (fun h => hkb (by rw [← Option.some.inj e]; exact h)) (fun h => by have := Option.some.inj e; omega))).trans (kr1.block k hk hkb)⟩
  obtain ⟨m, hm⟩ : ∃ m, m = row1.length := ⟨_, rfl⟩
  have hm2 : m ≤ 15 := by rw [hm]; exact f5
  rw [← hm] at q2
  have HM : Hid ((row1 ++ [(v, p)]).length = m + 1) := by unfold Hid; rw [hm]; simp
  have k22 : w2.cell? ⟨gQ, 2, none⟩ = some (.int .i64 (m : Int)) := q2.cell 2
  have HF1 := Lib.hid f1
  have HF2 := Lib.hid f2
  have HF3 := Lib.hid f3
  have HF4 := Lib.hid f4
  clear k11 HAd hbR hbG q1 B1 kp2 kr1 f2 f3 f4 f5 hm hr1 f1
  generalize row1 ++ [(v, p)] = row' at *
  go_upto_region 15 with (refine at_cell rfl 3 _ _ rfl gQ 2 (.int .i64 ((m : Int) + 1)) rfl rfl 41 (QR n gR m false) q2 (show 2 < 4 by omega) info3one rfl ?_; intro w3 h3)
  have q3 : Blk w3 gQ 41 (QR n gR (m + 1) false) := by
    have := h3.row
    unfold QR
    rw [show ((m + 1 : Nat) : Int) = (m : Int) + 1 by omega]
    exact this
  have B3 : RBufS w3 gR N row' gs := B2.of_heap (h3.oth _ HF1.out) (h3.oth _ HF2.out)
  have kr3 : Hid (Kr w w3 Q) := ⟨h3.os.trans kr2.out.os, h3.tape.trans kr2.out.tape, h3.output.trans kr2.out.output, by rw [h3.size]; exact kr2.out.size, fun k hk hkb => (h3.oth k (fun e => hkb (by rw [e]; exact h1))).trans (kr2.out.block k hk hkb)⟩
  have hs3 := Lib.hid kr3.out.size
  clear h3 q2 k22 B2 kr2
  have k13 : w3.cell? ⟨gQ, 1, none⟩ = some (.pointer (some ⟨gR, 0, none⟩)) := q3.cell 1
  obtain ⟨NN, hNN⟩ : ∃ NN, NN = 4 * (N + 6) := ⟨_, rfl⟩
  have kR3 : w3.cell? ⟨gR, 1, none⟩ = some (.slice (some ⟨gs, 0, none⟩) NN NN) := by rw [hNN]; exact B3.blk.cell 1
  have HIN : Hid (∀ z ∈ Cv.softs (N + 6) row', -31 ≤ z ∧ z ≤ 31) := fun z hz => by have := Cv.softs_in (N + 6) row' z hz; rw [HM.out] at this; omega
  have CDe := Lib.hid (refDecode gs 0 NN N NN (Cv.softs (N + 6) row') w3 (W4_rd B3.sums (by rw [Cv.softs_length, hNN])) HIN.out hNN (by omega) (Nat.le_refl _) (by omega))
  have hNN2 : NN ≤ 4000 := by omega
  have HX : Hid (rdx N row' v p = match opn (Cv.rb (Cv.softs (N + 6) row') N 0 0) with | some m => some m | none => alo p v N) := rfl
  have HB1 := Lib.hid (Cv.rb_bit (Cv.softs (N + 6) row') N 0 0)
  have HL1 := Lib.hid (Cv.rb_length (Cv.softs (N + 6) row') N 0 0)
  have HA1 : Hid ((∀ j, N ≤ j → j < (Cv.al p v (N + 6)).length → (Cv.al p v (N + 6)).getD j 0 = 0) → alo p v N = opn ((Cv.al p v (N + 6)).take N)) := fun h => if_pos h
  have HA2 : Hid ((∃ j, N ≤ j ∧ j < (Cv.al p v (N + 6)).length ∧ (Cv.al p v (N + 6)).getD j 0 ≠ 0) → alo p v N = none) := fun ⟨j, h1, h2, h3⟩ => if_neg fun h => h3 (h j h1 h2)
  have HB2 : Hid (∀ x ∈ (Cv.al p v (N + 6)).take N, x ≤ 1) := fun x hx => Cv.al_bit p hp v (N + 6) x (List.mem_of_mem_take hx)
  have HL2 : Hid (((Cv.al p v (N + 6)).take N).length = N) := by unfold Hid; rw [List.length_take, Cv.al_length]; omega
  have CAl : Hid (∀ W, Below w3.heap.size w3 W → Calls Tryd.prog 59 #[.slice (some ⟨b, off, none⟩) T c, .int .i64 (v : Int)] W (AlR W (Cv.al p v (N + 6)) N)) := fun W h => by
    have hA := refAlone (some ⟨b, off, none⟩) T c v p W (((hr.kr kr3.out hb1).below h).up h.size) hp (by have := HT.out; omega) (by have := HT.out; omega) hv
    rw [show T - 6 = N by have := HT.out; omega, show Cv.al p v T = Cv.al p v (N + 6) by rw [HT.out]] at hA
    exact hA
  generalize Cv.rb (Cv.softs (N + 6) row') N 0 0 = l at *
  generalize Cv.al p v (N + 6) = la at *
  generalize alo p v N = r2 at *
  generalize rdx N row' v p = r at *
  have CBy := Lib.hid (fun (x : List Nat) (hx : ∀ b ∈ x, b ≤ 1) (A : Option Addr) (n c : Nat) (W : World) (h : Rd W W.heap.size A n (U8 x)) (hn : n ≤ 65536) => refBytes A n c x W h hx hn)
  have COp := Lib.hid (fun (x : List Nat) (hx : ∀ b ∈ x, b ≤ 1) (A : Option Addr) (n c : Nat) (W W0 : World) (base : Nat) (own : Own W base 5 A n c (U8 (Bm.toBytes x))) (hxl : x.length = N) => opens_opn x hx A n c W base own (by rw [hxl]; omega))
  clear hNN
  go_upto_region 16 with (go_at_call 49; refine CDe.out.mono ?_; rintro e w4 ⟨A4, n4, c4, rfl, own4, b4⟩)
  have hn4 : n4 ≤ 4000 := by rw [own4.rd.len8, HL1.out]; omega
  have K1 := Lib.hid (CBy.out l HB1.out A4 n4 c4 w4 own4.rd (by omega))
  clear CDe k13 kR3
  go_upto_region 17 with (first
    | (go_at_call 58; refine K1.out.mono ?_; rintro e w5 ⟨A5, n5, c5, rfl, own5, b5⟩)
    | (go_at_call 57; refine (COp.out l HB1.out A5 n5 c5 w5 w5 _ own5 HL1.out).mono ?_; rintro e w6 ⟨b6, ho⟩; rcases ho with ⟨mm, ho1, A6, n6, c6, rfl, cv6, cn6⟩ | ⟨ho1, A6, n6, c6, rfl⟩))
  · have b36 := Below.then_ (Below.then_ b4 b5) b6
    have q6 := q3.after b36
    have B6 := B3.after b36
    have HX2 := HX.out
    rw [ho1] at HX2
    have HO : Hid (r = some mm) := HX2
    have HS := Lib.hid hs3.out
    clear HX2 ho1 own4 own5 hn4
    go_wp2_with (refine at_cell rfl 4 _ _ rfl gQ 3 (.bool true) rfl rfl 41 (QR n gR (m + 1) false) q6 (show 3 < 4 by omega) infoBo rfl ?_; intro w10 h10)
    have q10 : Blk w10 gQ 41 (QR n gR (m + 1) true) := h10.row
    have B10 := B6.of_heap (h10.oth _ HF1.out) (h10.oth _ HF2.out)
    have hs := hs3.out
    have hsb := b36.size
    rw [← HM.out] at q10
    have hgq := h6 gQ h1
    have hb4 := b4.size
    have hgl := B10.blk.lt
    have hgl2 := B10.sums.lt
    have hgl3 := q10.lt
    go_ret2
    rw [HO.out]
    refine ⟨⟨fun k => k = gQ ∨ k = gR ∨ k = gs, fun k hk => by
      rcases hk with rfl | rfl | rfl
      · exact .inl h1
      · exact HF3.out
      · exact HF4.out, gR, gs, q10, .inl rfl, .inr (.inl rfl), .inr (.inr rfl), HF1.out, HF2.out, fun k hk => by omega, by rw [← HN.out]; exact B10⟩, ?_, .inl ⟨mm, rfl, A6, n6, c6, rfl, cv6 w10 (fun k hk _ => h10.oth k (by omega)) (by rw [h10.size]; exact Nat.le_refl _), cn6⟩⟩
    · exact ⟨h10.os.trans (b36.os.trans kr3.out.os), h10.tape.trans (b36.tape.trans kr3.out.tape), h10.output.trans (b36.output.trans kr3.out.output), by rw [h10.size]; exact Nat.le_trans hs hsb, fun k hk hkb => (h10.oth k (fun e => hkb (by rw [e]; exact h1))).trans ((b36.block k (by omega)).trans (kr3.out.block k hk hkb))⟩
  · have b36 := Below.then_ (Below.then_ b4 b5) b6
    have HX2 := HX.out
    rw [ho1] at HX2
    have HO2 : Hid (r = r2) := HX2
    have K2 := Lib.hid (CAl.out w6 b36)
    clear HX2 ho1 own4 own5 hn4
    go_upto_region 21 with (go_at_call 59; refine K2.out.mono ?_; rintro e w7 ⟨ha, b7⟩; rcases ha with ⟨ha1, A7, c7, rfl, rd7, hn7⟩ | ⟨ha1, rfl⟩)
    · have HE : Hid (r = opn (la.take N)) := HO2.out.trans (HA1.out ha1)
      have K3 := Lib.hid (CBy.out (la.take N) HB2.out A7 N c7 w7 rd7 (by omega))
      have b37 := Below.then_ b36 b7
      clear ha1
      go_upto_region 23 with (first
        | (go_at_call 58; refine K3.out.mono ?_; rintro e w8 ⟨A8, n8, c8, rfl, own8, b8⟩)
        | (go_at_call 57; refine (COp.out (la.take N) HB2.out A8 n8 c8 w8 w8 _ own8 HL2.out).mono ?_; rintro e w9 ⟨b9, ho⟩; rcases ho with ⟨mm, ho1, A6, n6, c6, rfl, cv6, cn6⟩ | ⟨ho1, A6, n6, c6, rfl⟩))
      · have b39 := Below.then_ (Below.then_ b37 b8) b9
        have q6 := q3.after b39
        have B6 := B3.after b39
        have HO : Hid (r = some mm) := HE.out.trans ho1
        clear ho1 own8
        go_wp2_with (refine at_cell rfl 4 _ _ rfl gQ 3 (.bool true) rfl rfl 41 (QR n gR (m + 1) false) q6 (show 3 < 4 by omega) infoBo rfl ?_; intro w10 h10)
        have q10 : Blk w10 gQ 41 (QR n gR (m + 1) true) := h10.row
        have B10 := B6.of_heap (h10.oth _ HF1.out) (h10.oth _ HF2.out)
        have hs := hs3.out
        have hsb := b39.size
        rw [← HM.out] at q10
        have hgq := h6 gQ h1
        have hb4 := b37.size
        have hgl := B10.blk.lt
        have hgl2 := B10.sums.lt
        have hgl3 := q10.lt
        go_ret2
        rw [HO.out]
        refine ⟨⟨fun k => k = gQ ∨ k = gR ∨ k = gs, fun k hk => by
          rcases hk with rfl | rfl | rfl
          · exact .inl h1
          · exact HF3.out
          · exact HF4.out, gR, gs, q10, .inl rfl, .inr (.inl rfl), .inr (.inr rfl), HF1.out, HF2.out, fun k hk => by omega, by rw [← HN.out]; exact B10⟩, ?_, .inl ⟨mm, rfl, A6, n6, c6, rfl, cv6 w10 (fun k hk _ => h10.oth k (by omega)) (by rw [h10.size]; exact Nat.le_refl _), cn6⟩⟩
        · exact ⟨h10.os.trans (b39.os.trans kr3.out.os), h10.tape.trans (b39.tape.trans kr3.out.tape), h10.output.trans (b39.output.trans kr3.out.output), by rw [h10.size]; exact Nat.le_trans hs hsb, fun k hk hkb => (h10.oth k (fun e => hkb (by rw [e]; exact h1))).trans ((b39.block k (by omega)).trans (kr3.out.block k hk hkb))⟩
      · have b39 := Below.then_ (Below.then_ b37 b8) b9
        have HO : Hid (r = none) := HE.out.trans ho1
        clear ho1 own8
        have q6 := q3.after b39
        have B6 := B3.after b39
        have hs := hs3.out
        have hsb := b39.size
        rw [← HM.out] at q6
        have hgl := B6.blk.lt
        have hgl2 := B6.sums.lt
        have hgl3 := q6.lt
        go_wp2
        go_ret2
        rw [HO.out]
        refine ⟨⟨fun k => k = gQ ∨ k = gR ∨ k = gs, fun k hk => by
          rcases hk with rfl | rfl | rfl
          · exact .inl h1
          · exact HF3.out
          · exact HF4.out, gR, gs, q6, .inl rfl, .inr (.inl rfl), .inr (.inr rfl), HF1.out, HF2.out, fun k hk => by omega, by rw [← HN.out]; exact B6⟩, ?_, .inr ⟨rfl, rfl⟩⟩
        exact ⟨b39.os.trans kr3.out.os, b39.tape.trans kr3.out.tape, b39.output.trans kr3.out.output, Nat.le_trans hs hsb, fun k hk hkb => (b39.block k (by omega)).trans (kr3.out.block k hk hkb)⟩
    · have HO : Hid (r = none) := HO2.out.trans (HA2.out ha1)
      have b39 := Below.then_ b36 b7
      clear ha1
      have q6 := q3.after b39
      have B6 := B3.after b39
      have hs := hs3.out
      have hsb := b39.size
      rw [← HM.out] at q6
      have hgl := B6.blk.lt
      have hgl2 := B6.sums.lt
      have hgl3 := q6.lt
      go_wp2
      go_ret2
      rw [HO.out]
      refine ⟨⟨fun k => k = gQ ∨ k = gR ∨ k = gs, fun k hk => by
        rcases hk with rfl | rfl | rfl
        · exact .inl h1
        · exact HF3.out
        · exact HF4.out, gR, gs, q6, .inl rfl, .inr (.inl rfl), .inr (.inr rfl), HF1.out, HF2.out, fun k hk => by omega, by rw [← HN.out]; exact B6⟩, ?_, .inr ⟨rfl, rfl⟩⟩
      exact ⟨b39.os.trans kr3.out.os, b39.tape.trans kr3.out.tape, b39.output.trans kr3.out.output, Nat.le_trans hs hsb, fun k hk hkb => (b39.block k (by omega)).trans (kr3.out.block k hk hkb)⟩
set_option maxHeartbeats 600000 in
theorem docOther (w : World) (Q : Nat → Prop) (gQ n0 n N T v c b off gR gs : Nat) (row row1 : List (Nat × List Nat)) (p : List Nat) (q : Blk w gQ 41 (QR n0 gR row.length false)) (h1 : Q gQ) (h2 : Q gR) (h3 : Q gs) (h4 : gR ≠ gQ) (h5 : gs ≠ gQ) (h6 : ∀ k, Q k → k < w.heap.size) (h7 : RBufS w gR (8 * (n0 + 4)) row gs) (h8 : row1 = []) (h9 : n ≠ n0) (hn : n ≤ 64) (hN : N = 8 * (n + 4)) (hT : T = N + 6) (hv : v < 4) (hr : Rd w w.heap.size (some ⟨b, off, none⟩) T (U8 p)) (hp : ∀ x ∈ p, x ≤ 1) (hb1 : ¬ Q b) (hb2 : b < w.heap.size) :
    Calls Tryd.prog 21 #[.pointer (some ⟨gQ, 0, none⟩), .int .i64 (n : Int), .int .i64 (v : Int), .slice (some ⟨b, off, none⟩) T c] w (OffR w Q gQ n (row1 ++ [(v, p)]) (rdx N (row1 ++ [(v, p)]) v p)) := by
  have CR := refRight (some ⟨b, off, none⟩) T c p w hr (bit256 hp) (by omega)
  rw [Bm.isB_of hp] at CR
  replace CR := Lib.hid CR
  have CB := rbits17 n w (by omega)
  rw [show 8 * ((n : Int) + 4) + 6 = (T : Int) by omega] at CB
  replace CB := Lib.hid CB
  have kk := q.cell 3
  have k3 : w.cell? ⟨gQ, 3, none⟩ = some (.bool false) := kk
  have kk0 := q.cell 0
  have k0 : w.cell? ⟨gQ, 0, none⟩ = some (.int .i64 (n0 : Int)) := kk0
  have kk2 := q.cell 2
  have k2 : w.cell? ⟨gQ, 2, none⟩ = some (.int .i64 ((row.length : Nat) : Int)) := kk2
  have tT : ((T : Int) != (T : Int)) = false := by simp
  have HN := Lib.hid hN
  have HT := Lib.hid hT
  have hN2 : N ≤ 544 := by omega
  clear kk kk0 kk2 hN hT
  have t0 : ((n : Int) != (n0 : Int)) = true := by simp <;> omega
  have HR1 := Lib.hid h8
  have hl0 : row1.length = 0 := by rw [h8]; rfl
  have HL0 := Lib.hid hl0.symm
  clear h8 hl0
  have CN := rNew13 N w (by omega)
  rw [show (N : Int) = 8 * ((n : Int) + 4) by have := HN.out; omega] at CN
  replace CN := Lib.hid CN
  go_enter Tryd.func21, Tryd.ntmps21
  go_upto_region 12 with (first | (go_at_call 47; refine CR.out.mono ?_; rintro e w' ⟨rfl, rfl⟩) | (go_at_call 56; refine CB.out.mono ?_; rintro e w' ⟨rfl, rfl⟩))
  go_upto_region 13 with (first | (go_at_call 45; refine CN.out.mono ?_; rintro e w0 ⟨gR1, gs1, rfl, B0, b0, hg1, hg2⟩; have q0 := q.after b0) | (refine at_cell rfl 3 _ _ rfl gQ 2 (.int .i64 0) rfl rfl 41 (QR n gR1 row.length false) qb (show 2 < 4 by omega) info3one rfl ?_; intro w1 hc) | (refine at_cell rfl 39 _ _ rfl gQ 1 (.pointer (some ⟨gR1, 0, none⟩)) rfl rfl 41 (QR n gR row.length false) qa (show 1 < 4 by omega) infoPR rfl ?_; intro wb hb; have qb : Blk wb gQ 41 (QR n gR1 row.length false) := hb.row) | (refine at_cell rfl 3 _ _ rfl gQ 0 (.int .i64 (n : Int)) rfl rfl 41 (QR n0 gR row.length false) q0 (show 0 < 4 by omega) info3one rfl ?_; intro wa ha; have qa : Blk wa gQ 41 (QR n gR row.length false) := ha.row))
  have q1 : Blk w1 gQ 41 (QR n gR1 row1.length false) := by rw [← HL0.out]; exact hc.row
  have lQ := h6 gQ h1
  have f1 : gR1 ≠ gQ := by omega
  have f2 : gs1 ≠ gQ := by omega
  have B1 : RBufS w1 gR1 N row1 gs1 := by
    rw [HR1.out]
    exact ((B0.of_heap (ha.oth _ f1) (ha.oth _ f2)).of_heap (hb.oth _ f1) (hb.oth _ f2)).of_heap (hc.oth _ f1) (hc.oth _ f2)
  have kr1 : Kr w w1 Q := ⟨hc.os.trans (hb.os.trans (ha.os.trans b0.os)), hc.tape.trans (hb.tape.trans (ha.tape.trans b0.tape)), hc.output.trans (hb.output.trans (ha.output.trans b0.output)), by rw [hc.size, hb.size, ha.size]; exact b0.size, fun k hk hkb => (hc.oth k (fun e => hkb (by rw [e]; exact h1))).trans ((hb.oth k (fun e => hkb (by rw [e]; exact h1))).trans ((ha.oth k (fun e => hkb (by rw [e]; exact h1))).trans (b0.block k hk)))⟩
  have f3 : Q gR1 ∨ w.heap.size ≤ gR1 := .inr hg1
  have f4 : Q gs1 ∨ w.heap.size ≤ gs1 := .inr hg2
  have f5 : row1.length ≤ 15 := by rw [← HL0.out]; omega
  have hr1 := hr.kr kr1 hb1
  clear CN q0 qa qb ha hb hc B0 b0 h2 h3 h4 h5 h7 q
  have hbR : b ≠ gR1 := fun e => f3.elim (fun h => hb1 (by rw [e]; exact h)) (fun h => by omega)
  have hbG : b ≠ gs1 := fun e => f4.elim (fun h => hb1 (by rw [e]; exact h)) (fun h => by omega)
  have HAd := Lib.hid (docAdd gR1 N v T c gs1 b off row1 p w1 B1 (by omega) (by omega) hv HT.out hr1 hp hbR hbG (by have := kr1.size; omega))
  have k11 : w1.cell? ⟨gQ, 1, none⟩ = some (.pointer (some ⟨gR1, 0, none⟩)) := q1.cell 1
  go_upto_region 14 with (go_at_call 48; refine HAd.out.mono ?_; rintro e w2 ⟨rfl, B2, kp2⟩)
  have q2 : Blk w2 gQ 41 (QR n gR1 row1.length false) := kp2.blk q1 (Ne.symm f1) (fun e => f2 (Option.some.inj e))
  have kr2 : Hid (Kr w w2 Q) := ⟨kp2.os.trans kr1.os, kp2.tape.trans kr1.tape, kp2.output.trans kr1.output, Nat.le_trans kr1.size kp2.size, fun k hk hkb => (kp2.block k (by have := kr1.size; omega) (fun e => f3.elim (fun h => hkb (by rw [e]; exact h)) (fun h => by omega)) (fun e => f4.elim (fun h => hkb (by rw [← Option.some.inj e]; exact h)) (fun h => by have := Option.some.inj e; omega))).trans (kr1.block k hk hkb)⟩
  obtain ⟨m, hm⟩ : ∃ m, m = row1.length := ⟨_, rfl⟩
  have hm2 : m ≤ 15 := by rw [hm]; exact f5
  rw [← hm] at q2
  have HM : Hid ((row1 ++ [(v, p)]).length = m + 1) := by unfold Hid; rw [hm]; simp
  have k22 : w2.cell? ⟨gQ, 2, none⟩ = some (.int .i64 (m : Int)) := q2.cell 2
  have HF1 := Lib.hid f1
  have HF2 := Lib.hid f2
  have HF3 := Lib.hid f3
  have HF4 := Lib.hid f4
  clear k11 HAd hbR hbG q1 B1 kp2 kr1 f2 f3 f4 f5 hm hr1 f1
  generalize row1 ++ [(v, p)] = row' at *
  go_upto_region 15 with (refine at_cell rfl 3 _ _ rfl gQ 2 (.int .i64 ((m : Int) + 1)) rfl rfl 41 (QR n gR1 m false) q2 (show 2 < 4 by omega) info3one rfl ?_; intro w3 h3)
  have q3 : Blk w3 gQ 41 (QR n gR1 (m + 1) false) := by
    have := h3.row
    unfold QR
    rw [show ((m + 1 : Nat) : Int) = (m : Int) + 1 by omega]
    exact this
  have B3 : RBufS w3 gR1 N row' gs1 := B2.of_heap (h3.oth _ HF1.out) (h3.oth _ HF2.out)
  have kr3 : Hid (Kr w w3 Q) := ⟨h3.os.trans kr2.out.os, h3.tape.trans kr2.out.tape, h3.output.trans kr2.out.output, by rw [h3.size]; exact kr2.out.size, fun k hk hkb => (h3.oth k (fun e => hkb (by rw [e]; exact h1))).trans (kr2.out.block k hk hkb)⟩
  have hs3 := Lib.hid kr3.out.size
  clear h3 q2 k22 B2 kr2
  have k13 : w3.cell? ⟨gQ, 1, none⟩ = some (.pointer (some ⟨gR1, 0, none⟩)) := q3.cell 1
  obtain ⟨NN, hNN⟩ : ∃ NN, NN = 4 * (N + 6) := ⟨_, rfl⟩
  have kR3 : w3.cell? ⟨gR1, 1, none⟩ = some (.slice (some ⟨gs1, 0, none⟩) NN NN) := by rw [hNN]; exact B3.blk.cell 1
  have HIN : Hid (∀ z ∈ Cv.softs (N + 6) row', -31 ≤ z ∧ z ≤ 31) := fun z hz => by have := Cv.softs_in (N + 6) row' z hz; rw [HM.out] at this; omega
  have CDe := Lib.hid (refDecode gs1 0 NN N NN (Cv.softs (N + 6) row') w3 (W4_rd B3.sums (by rw [Cv.softs_length, hNN])) HIN.out hNN (by omega) (Nat.le_refl _) (by omega))
  have hNN2 : NN ≤ 4000 := by omega
  have HX : Hid (rdx N row' v p = match opn (Cv.rb (Cv.softs (N + 6) row') N 0 0) with | some m => some m | none => alo p v N) := rfl
  have HB1 := Lib.hid (Cv.rb_bit (Cv.softs (N + 6) row') N 0 0)
  have HL1 := Lib.hid (Cv.rb_length (Cv.softs (N + 6) row') N 0 0)
  have HA1 : Hid ((∀ j, N ≤ j → j < (Cv.al p v (N + 6)).length → (Cv.al p v (N + 6)).getD j 0 = 0) → alo p v N = opn ((Cv.al p v (N + 6)).take N)) := fun h => if_pos h
  have HA2 : Hid ((∃ j, N ≤ j ∧ j < (Cv.al p v (N + 6)).length ∧ (Cv.al p v (N + 6)).getD j 0 ≠ 0) → alo p v N = none) := fun ⟨j, h1, h2, h3⟩ => if_neg fun h => h3 (h j h1 h2)
  have HB2 : Hid (∀ x ∈ (Cv.al p v (N + 6)).take N, x ≤ 1) := fun x hx => Cv.al_bit p hp v (N + 6) x (List.mem_of_mem_take hx)
  have HL2 : Hid (((Cv.al p v (N + 6)).take N).length = N) := by unfold Hid; rw [List.length_take, Cv.al_length]; omega
  have CAl : Hid (∀ W, Below w3.heap.size w3 W → Calls Tryd.prog 59 #[.slice (some ⟨b, off, none⟩) T c, .int .i64 (v : Int)] W (AlR W (Cv.al p v (N + 6)) N)) := fun W h => by
    have hA := refAlone (some ⟨b, off, none⟩) T c v p W (((hr.kr kr3.out hb1).below h).up h.size) hp (by have := HT.out; omega) (by have := HT.out; omega) hv
    rw [show T - 6 = N by have := HT.out; omega, show Cv.al p v T = Cv.al p v (N + 6) by rw [HT.out]] at hA
    exact hA
  generalize Cv.rb (Cv.softs (N + 6) row') N 0 0 = l at *
  generalize Cv.al p v (N + 6) = la at *
  generalize alo p v N = r2 at *
  generalize rdx N row' v p = r at *
  have CBy := Lib.hid (fun (x : List Nat) (hx : ∀ b ∈ x, b ≤ 1) (A : Option Addr) (n c : Nat) (W : World) (h : Rd W W.heap.size A n (U8 x)) (hn : n ≤ 65536) => refBytes A n c x W h hx hn)
  have COp := Lib.hid (fun (x : List Nat) (hx : ∀ b ∈ x, b ≤ 1) (A : Option Addr) (n c : Nat) (W W0 : World) (base : Nat) (own : Own W base 5 A n c (U8 (Bm.toBytes x))) (hxl : x.length = N) => opens_opn x hx A n c W base own (by rw [hxl]; omega))
  clear hNN
  go_upto_region 16 with (go_at_call 49; refine CDe.out.mono ?_; rintro e w4 ⟨A4, n4, c4, rfl, own4, b4⟩)
  have hn4 : n4 ≤ 4000 := by rw [own4.rd.len8, HL1.out]; omega
  have K1 := Lib.hid (CBy.out l HB1.out A4 n4 c4 w4 own4.rd (by omega))
  clear CDe k13 kR3
  go_upto_region 17 with (first
    | (go_at_call 58; refine K1.out.mono ?_; rintro e w5 ⟨A5, n5, c5, rfl, own5, b5⟩)
    | (go_at_call 57; refine (COp.out l HB1.out A5 n5 c5 w5 w5 _ own5 HL1.out).mono ?_; rintro e w6 ⟨b6, ho⟩; rcases ho with ⟨mm, ho1, A6, n6, c6, rfl, cv6, cn6⟩ | ⟨ho1, A6, n6, c6, rfl⟩))
  · have b36 := Below.then_ (Below.then_ b4 b5) b6
    have q6 := q3.after b36
    have B6 := B3.after b36
    have HX2 := HX.out
    rw [ho1] at HX2
    have HO : Hid (r = some mm) := HX2
    have HS := Lib.hid hs3.out
    clear HX2 ho1 own4 own5 hn4
    go_wp2_with (refine at_cell rfl 4 _ _ rfl gQ 3 (.bool true) rfl rfl 41 (QR n gR1 (m + 1) false) q6 (show 3 < 4 by omega) infoBo rfl ?_; intro w10 h10)
    have q10 : Blk w10 gQ 41 (QR n gR1 (m + 1) true) := h10.row
    have B10 := B6.of_heap (h10.oth _ HF1.out) (h10.oth _ HF2.out)
    have hs := hs3.out
    have hsb := b36.size
    rw [← HM.out] at q10
    have hgq := h6 gQ h1
    have hb4 := b4.size
    have hgl := B10.blk.lt
    have hgl2 := B10.sums.lt
    have hgl3 := q10.lt
    go_ret2
    rw [HO.out]
    refine ⟨⟨fun k => k = gQ ∨ k = gR1 ∨ k = gs1, fun k hk => by
      rcases hk with rfl | rfl | rfl
      · exact .inl h1
      · exact HF3.out
      · exact HF4.out, gR1, gs1, q10, .inl rfl, .inr (.inl rfl), .inr (.inr rfl), HF1.out, HF2.out, fun k hk => by omega, by rw [← HN.out]; exact B10⟩, ?_, .inl ⟨mm, rfl, A6, n6, c6, rfl, cv6 w10 (fun k hk _ => h10.oth k (by omega)) (by rw [h10.size]; exact Nat.le_refl _), cn6⟩⟩
    · exact ⟨h10.os.trans (b36.os.trans kr3.out.os), h10.tape.trans (b36.tape.trans kr3.out.tape), h10.output.trans (b36.output.trans kr3.out.output), by rw [h10.size]; exact Nat.le_trans hs hsb, fun k hk hkb => (h10.oth k (fun e => hkb (by rw [e]; exact h1))).trans ((b36.block k (by omega)).trans (kr3.out.block k hk hkb))⟩
  · have b36 := Below.then_ (Below.then_ b4 b5) b6
    have HX2 := HX.out
    rw [ho1] at HX2
    have HO2 : Hid (r = r2) := HX2
    have K2 := Lib.hid (CAl.out w6 b36)
    clear HX2 ho1 own4 own5 hn4
    go_upto_region 21 with (go_at_call 59; refine K2.out.mono ?_; rintro e w7 ⟨ha, b7⟩; rcases ha with ⟨ha1, A7, c7, rfl, rd7, hn7⟩ | ⟨ha1, rfl⟩)
    · have HE : Hid (r = opn (la.take N)) := HO2.out.trans (HA1.out ha1)
      have K3 := Lib.hid (CBy.out (la.take N) HB2.out A7 N c7 w7 rd7 (by omega))
      have b37 := Below.then_ b36 b7
      clear ha1
      go_upto_region 23 with (first
        | (go_at_call 58; refine K3.out.mono ?_; rintro e w8 ⟨A8, n8, c8, rfl, own8, b8⟩)
        | (go_at_call 57; refine (COp.out (la.take N) HB2.out A8 n8 c8 w8 w8 _ own8 HL2.out).mono ?_; rintro e w9 ⟨b9, ho⟩; rcases ho with ⟨mm, ho1, A6, n6, c6, rfl, cv6, cn6⟩ | ⟨ho1, A6, n6, c6, rfl⟩))
      · have b39 := Below.then_ (Below.then_ b37 b8) b9
        have q6 := q3.after b39
        have B6 := B3.after b39
        have HO : Hid (r = some mm) := HE.out.trans ho1
        clear ho1 own8
        go_wp2_with (refine at_cell rfl 4 _ _ rfl gQ 3 (.bool true) rfl rfl 41 (QR n gR1 (m + 1) false) q6 (show 3 < 4 by omega) infoBo rfl ?_; intro w10 h10)
        have q10 : Blk w10 gQ 41 (QR n gR1 (m + 1) true) := h10.row
        have B10 := B6.of_heap (h10.oth _ HF1.out) (h10.oth _ HF2.out)
        have hs := hs3.out
        have hsb := b39.size
        rw [← HM.out] at q10
        have hgq := h6 gQ h1
        have hb4 := b37.size
        have hgl := B10.blk.lt
        have hgl2 := B10.sums.lt
        have hgl3 := q10.lt
        go_ret2
        rw [HO.out]
        refine ⟨⟨fun k => k = gQ ∨ k = gR1 ∨ k = gs1, fun k hk => by
          rcases hk with rfl | rfl | rfl
          · exact .inl h1
          · exact HF3.out
          · exact HF4.out, gR1, gs1, q10, .inl rfl, .inr (.inl rfl), .inr (.inr rfl), HF1.out, HF2.out, fun k hk => by omega, by rw [← HN.out]; exact B10⟩, ?_, .inl ⟨mm, rfl, A6, n6, c6, rfl, cv6 w10 (fun k hk _ => h10.oth k (by omega)) (by rw [h10.size]; exact Nat.le_refl _), cn6⟩⟩
        · exact ⟨h10.os.trans (b39.os.trans kr3.out.os), h10.tape.trans (b39.tape.trans kr3.out.tape), h10.output.trans (b39.output.trans kr3.out.output), by rw [h10.size]; exact Nat.le_trans hs hsb, fun k hk hkb => (h10.oth k (fun e => hkb (by rw [e]; exact h1))).trans ((b39.block k (by omega)).trans (kr3.out.block k hk hkb))⟩
      · have b39 := Below.then_ (Below.then_ b37 b8) b9
        have HO : Hid (r = none) := HE.out.trans ho1
        clear ho1 own8
        have q6 := q3.after b39
        have B6 := B3.after b39
        have hs := hs3.out
        have hsb := b39.size
        rw [← HM.out] at q6
        have hgl := B6.blk.lt
        have hgl2 := B6.sums.lt
        have hgl3 := q6.lt
        go_wp2
        go_ret2
        rw [HO.out]
        refine ⟨⟨fun k => k = gQ ∨ k = gR1 ∨ k = gs1, fun k hk => by
          rcases hk with rfl | rfl | rfl
          · exact .inl h1
          · exact HF3.out
          · exact HF4.out, gR1, gs1, q6, .inl rfl, .inr (.inl rfl), .inr (.inr rfl), HF1.out, HF2.out, fun k hk => by omega, by rw [← HN.out]; exact B6⟩, ?_, .inr ⟨rfl, rfl⟩⟩
        exact ⟨b39.os.trans kr3.out.os, b39.tape.trans kr3.out.tape, b39.output.trans kr3.out.output, Nat.le_trans hs hsb, fun k hk hkb => (b39.block k (by omega)).trans (kr3.out.block k hk hkb)⟩
    · have HO : Hid (r = none) := HO2.out.trans (HA2.out ha1)
      have b39 := Below.then_ b36 b7
      clear ha1
      have q6 := q3.after b39
      have B6 := B3.after b39
      have hs := hs3.out
      have hsb := b39.size
      rw [← HM.out] at q6
      have hgl := B6.blk.lt
      have hgl2 := B6.sums.lt
      have hgl3 := q6.lt
      go_wp2
      go_ret2
      rw [HO.out]
      refine ⟨⟨fun k => k = gQ ∨ k = gR1 ∨ k = gs1, fun k hk => by
        rcases hk with rfl | rfl | rfl
        · exact .inl h1
        · exact HF3.out
        · exact HF4.out, gR1, gs1, q6, .inl rfl, .inr (.inl rfl), .inr (.inr rfl), HF1.out, HF2.out, fun k hk => by omega, by rw [← HN.out]; exact B6⟩, ?_, .inr ⟨rfl, rfl⟩⟩
      exact ⟨b39.os.trans kr3.out.os, b39.tape.trans kr3.out.tape, b39.output.trans kr3.out.output, Nat.le_trans hs hsb, fun k hk hkb => (b39.block k (by omega)).trans (kr3.out.block k hk hkb)⟩
set_option maxHeartbeats 600000 in
theorem docMany (w : World) (Q : Nat → Prop) (gQ n0 n N T v c b off gR gs : Nat) (row row1 : List (Nat × List Nat)) (p : List Nat) (q : Blk w gQ 41 (QR n0 gR row.length false)) (h1 : Q gQ) (h2 : Q gR) (h3 : Q gs) (h4 : gR ≠ gQ) (h5 : gs ≠ gQ) (h6 : ∀ k, Q k → k < w.heap.size) (h7 : RBufS w gR (8 * (n0 + 4)) row gs) (h8 : row1 = []) (h9 : n = n0) (h10 : row.length = 16) (hn : n ≤ 64) (hN : N = 8 * (n + 4)) (hT : T = N + 6) (hv : v < 4) (hr : Rd w w.heap.size (some ⟨b, off, none⟩) T (U8 p)) (hp : ∀ x ∈ p, x ≤ 1) (hb1 : ¬ Q b) (hb2 : b < w.heap.size) :
    Calls Tryd.prog 21 #[.pointer (some ⟨gQ, 0, none⟩), .int .i64 (n : Int), .int .i64 (v : Int), .slice (some ⟨b, off, none⟩) T c] w (OffR w Q gQ n (row1 ++ [(v, p)]) (rdx N (row1 ++ [(v, p)]) v p)) := by
  subst h9
  have CR := refRight (some ⟨b, off, none⟩) T c p w hr (bit256 hp) (by omega)
  rw [Bm.isB_of hp] at CR
  replace CR := Lib.hid CR
  have CB := rbits17 n w (by omega)
  rw [show 8 * ((n : Int) + 4) + 6 = (T : Int) by omega] at CB
  replace CB := Lib.hid CB
  have kk := q.cell 3
  have k3 : w.cell? ⟨gQ, 3, none⟩ = some (.bool false) := kk
  have kk0 := q.cell 0
  have k0 : w.cell? ⟨gQ, 0, none⟩ = some (.int .i64 (n : Int)) := kk0
  have kk2 := q.cell 2
  have k2 : w.cell? ⟨gQ, 2, none⟩ = some (.int .i64 ((row.length : Nat) : Int)) := kk2
  have tT : ((T : Int) != (T : Int)) = false := by simp
  have HN := Lib.hid hN
  have HT := Lib.hid hT
  have hN2 : N ≤ 544 := by omega
  clear kk kk0 kk2 hN hT
  have t1 : (((row.length : Nat) : Int) == 16) = true := by rw [h10]; rfl
  have t0 : ((n : Int) != (n : Int)) = false := by simp
  clear h10
  have HR1 := Lib.hid h8
  have hl0 : row1.length = 0 := by rw [h8]; rfl
  have HL0 := Lib.hid hl0.symm
  clear h8 hl0
  have CN := rNew13 N w (by omega)
  rw [show (N : Int) = 8 * ((n : Int) + 4) by have := HN.out; omega] at CN
  replace CN := Lib.hid CN
  go_enter Tryd.func21, Tryd.ntmps21
  go_upto_region 12 with (first | (go_at_call 47; refine CR.out.mono ?_; rintro e w' ⟨rfl, rfl⟩) | (go_at_call 56; refine CB.out.mono ?_; rintro e w' ⟨rfl, rfl⟩))
  go_upto_region 13 with (first | (go_at_call 45; refine CN.out.mono ?_; rintro e w0 ⟨gR1, gs1, rfl, B0, b0, hg1, hg2⟩; have q0 := q.after b0) | (refine at_cell rfl 3 _ _ rfl gQ 2 (.int .i64 0) rfl rfl 41 (QR n gR1 row.length false) qb (show 2 < 4 by omega) info3one rfl ?_; intro w1 hc) | (refine at_cell rfl 39 _ _ rfl gQ 1 (.pointer (some ⟨gR1, 0, none⟩)) rfl rfl 41 (QR n gR row.length false) qa (show 1 < 4 by omega) infoPR rfl ?_; intro wb hb; have qb : Blk wb gQ 41 (QR n gR1 row.length false) := hb.row) | (refine at_cell rfl 3 _ _ rfl gQ 0 (.int .i64 (n : Int)) rfl rfl 41 (QR n gR row.length false) q0 (show 0 < 4 by omega) info3one rfl ?_; intro wa ha; have qa : Blk wa gQ 41 (QR n gR row.length false) := ha.row))
  have q1 : Blk w1 gQ 41 (QR n gR1 row1.length false) := by rw [← HL0.out]; exact hc.row
  have lQ := h6 gQ h1
  have f1 : gR1 ≠ gQ := by omega
  have f2 : gs1 ≠ gQ := by omega
  have B1 : RBufS w1 gR1 N row1 gs1 := by
    rw [HR1.out]
    exact ((B0.of_heap (ha.oth _ f1) (ha.oth _ f2)).of_heap (hb.oth _ f1) (hb.oth _ f2)).of_heap (hc.oth _ f1) (hc.oth _ f2)
  have kr1 : Kr w w1 Q := ⟨hc.os.trans (hb.os.trans (ha.os.trans b0.os)), hc.tape.trans (hb.tape.trans (ha.tape.trans b0.tape)), hc.output.trans (hb.output.trans (ha.output.trans b0.output)), by rw [hc.size, hb.size, ha.size]; exact b0.size, fun k hk hkb => (hc.oth k (fun e => hkb (by rw [e]; exact h1))).trans ((hb.oth k (fun e => hkb (by rw [e]; exact h1))).trans ((ha.oth k (fun e => hkb (by rw [e]; exact h1))).trans (b0.block k hk)))⟩
  have f3 : Q gR1 ∨ w.heap.size ≤ gR1 := .inr hg1
  have f4 : Q gs1 ∨ w.heap.size ≤ gs1 := .inr hg2
  have f5 : row1.length ≤ 15 := by rw [← HL0.out]; omega
  have hr1 := hr.kr kr1 hb1
  clear CN q0 qa qb ha hb hc B0 b0 h2 h3 h4 h5 h7 q
  have hbR : b ≠ gR1 := fun e => f3.elim (fun h => hb1 (by rw [e]; exact h)) (fun h => by omega)
  have hbG : b ≠ gs1 := fun e => f4.elim (fun h => hb1 (by rw [e]; exact h)) (fun h => by omega)
  have HAd := Lib.hid (docAdd gR1 N v T c gs1 b off row1 p w1 B1 (by omega) (by omega) hv HT.out hr1 hp hbR hbG (by have := kr1.size; omega))
  have k11 : w1.cell? ⟨gQ, 1, none⟩ = some (.pointer (some ⟨gR1, 0, none⟩)) := q1.cell 1
  go_upto_region 14 with (go_at_call 48; refine HAd.out.mono ?_; rintro e w2 ⟨rfl, B2, kp2⟩)
  have q2 : Blk w2 gQ 41 (QR n gR1 row1.length false) := kp2.blk q1 (Ne.symm f1) (fun e => f2 (Option.some.inj e))
  have kr2 : Hid (Kr w w2 Q) := ⟨kp2.os.trans kr1.os, kp2.tape.trans kr1.tape, kp2.output.trans kr1.output, Nat.le_trans kr1.size kp2.size, fun k hk hkb => (kp2.block k (by have := kr1.size; omega) (fun e => f3.elim (fun h => hkb (by rw [e]; exact h)) (fun h => by omega)) (fun e => f4.elim (fun h => hkb (by rw [← Option.some.inj e]; exact h)) (fun h => by have := Option.some.inj e; omega))).trans (kr1.block k hk hkb)⟩
  obtain ⟨m, hm⟩ : ∃ m, m = row1.length := ⟨_, rfl⟩
  have hm2 : m ≤ 15 := by rw [hm]; exact f5
  rw [← hm] at q2
  have HM : Hid ((row1 ++ [(v, p)]).length = m + 1) := by unfold Hid; rw [hm]; simp
  have k22 : w2.cell? ⟨gQ, 2, none⟩ = some (.int .i64 (m : Int)) := q2.cell 2
  have HF1 := Lib.hid f1
  have HF2 := Lib.hid f2
  have HF3 := Lib.hid f3
  have HF4 := Lib.hid f4
  clear k11 HAd hbR hbG q1 B1 kp2 kr1 f2 f3 f4 f5 hm hr1 f1
  generalize row1 ++ [(v, p)] = row' at *
  go_upto_region 15 with (refine at_cell rfl 3 _ _ rfl gQ 2 (.int .i64 ((m : Int) + 1)) rfl rfl 41 (QR n gR1 m false) q2 (show 2 < 4 by omega) info3one rfl ?_; intro w3 h3)
  have q3 : Blk w3 gQ 41 (QR n gR1 (m + 1) false) := by
    have := h3.row
    unfold QR
    rw [show ((m + 1 : Nat) : Int) = (m : Int) + 1 by omega]
    exact this
  have B3 : RBufS w3 gR1 N row' gs1 := B2.of_heap (h3.oth _ HF1.out) (h3.oth _ HF2.out)
  have kr3 : Hid (Kr w w3 Q) := ⟨h3.os.trans kr2.out.os, h3.tape.trans kr2.out.tape, h3.output.trans kr2.out.output, by rw [h3.size]; exact kr2.out.size, fun k hk hkb => (h3.oth k (fun e => hkb (by rw [e]; exact h1))).trans (kr2.out.block k hk hkb)⟩
  have hs3 := Lib.hid kr3.out.size
  clear h3 q2 k22 B2 kr2
  have k13 : w3.cell? ⟨gQ, 1, none⟩ = some (.pointer (some ⟨gR1, 0, none⟩)) := q3.cell 1
  obtain ⟨NN, hNN⟩ : ∃ NN, NN = 4 * (N + 6) := ⟨_, rfl⟩
  have kR3 : w3.cell? ⟨gR1, 1, none⟩ = some (.slice (some ⟨gs1, 0, none⟩) NN NN) := by rw [hNN]; exact B3.blk.cell 1
  have HIN : Hid (∀ z ∈ Cv.softs (N + 6) row', -31 ≤ z ∧ z ≤ 31) := fun z hz => by have := Cv.softs_in (N + 6) row' z hz; rw [HM.out] at this; omega
  have CDe := Lib.hid (refDecode gs1 0 NN N NN (Cv.softs (N + 6) row') w3 (W4_rd B3.sums (by rw [Cv.softs_length, hNN])) HIN.out hNN (by omega) (Nat.le_refl _) (by omega))
  have hNN2 : NN ≤ 4000 := by omega
  have HX : Hid (rdx N row' v p = match opn (Cv.rb (Cv.softs (N + 6) row') N 0 0) with | some m => some m | none => alo p v N) := rfl
  have HB1 := Lib.hid (Cv.rb_bit (Cv.softs (N + 6) row') N 0 0)
  have HL1 := Lib.hid (Cv.rb_length (Cv.softs (N + 6) row') N 0 0)
  have HA1 : Hid ((∀ j, N ≤ j → j < (Cv.al p v (N + 6)).length → (Cv.al p v (N + 6)).getD j 0 = 0) → alo p v N = opn ((Cv.al p v (N + 6)).take N)) := fun h => if_pos h
  have HA2 : Hid ((∃ j, N ≤ j ∧ j < (Cv.al p v (N + 6)).length ∧ (Cv.al p v (N + 6)).getD j 0 ≠ 0) → alo p v N = none) := fun ⟨j, h1, h2, h3⟩ => if_neg fun h => h3 (h j h1 h2)
  have HB2 : Hid (∀ x ∈ (Cv.al p v (N + 6)).take N, x ≤ 1) := fun x hx => Cv.al_bit p hp v (N + 6) x (List.mem_of_mem_take hx)
  have HL2 : Hid (((Cv.al p v (N + 6)).take N).length = N) := by unfold Hid; rw [List.length_take, Cv.al_length]; omega
  have CAl : Hid (∀ W, Below w3.heap.size w3 W → Calls Tryd.prog 59 #[.slice (some ⟨b, off, none⟩) T c, .int .i64 (v : Int)] W (AlR W (Cv.al p v (N + 6)) N)) := fun W h => by
    have hA := refAlone (some ⟨b, off, none⟩) T c v p W (((hr.kr kr3.out hb1).below h).up h.size) hp (by have := HT.out; omega) (by have := HT.out; omega) hv
    rw [show T - 6 = N by have := HT.out; omega, show Cv.al p v T = Cv.al p v (N + 6) by rw [HT.out]] at hA
    exact hA
  generalize Cv.rb (Cv.softs (N + 6) row') N 0 0 = l at *
  generalize Cv.al p v (N + 6) = la at *
  generalize alo p v N = r2 at *
  generalize rdx N row' v p = r at *
  have CBy := Lib.hid (fun (x : List Nat) (hx : ∀ b ∈ x, b ≤ 1) (A : Option Addr) (n c : Nat) (W : World) (h : Rd W W.heap.size A n (U8 x)) (hn : n ≤ 65536) => refBytes A n c x W h hx hn)
  have COp := Lib.hid (fun (x : List Nat) (hx : ∀ b ∈ x, b ≤ 1) (A : Option Addr) (n c : Nat) (W W0 : World) (base : Nat) (own : Own W base 5 A n c (U8 (Bm.toBytes x))) (hxl : x.length = N) => opens_opn x hx A n c W base own (by rw [hxl]; omega))
  clear hNN
  go_upto_region 16 with (go_at_call 49; refine CDe.out.mono ?_; rintro e w4 ⟨A4, n4, c4, rfl, own4, b4⟩)
  have hn4 : n4 ≤ 4000 := by rw [own4.rd.len8, HL1.out]; omega
  have K1 := Lib.hid (CBy.out l HB1.out A4 n4 c4 w4 own4.rd (by omega))
  clear CDe k13 kR3
  go_upto_region 17 with (first
    | (go_at_call 58; refine K1.out.mono ?_; rintro e w5 ⟨A5, n5, c5, rfl, own5, b5⟩)
    | (go_at_call 57; refine (COp.out l HB1.out A5 n5 c5 w5 w5 _ own5 HL1.out).mono ?_; rintro e w6 ⟨b6, ho⟩; rcases ho with ⟨mm, ho1, A6, n6, c6, rfl, cv6, cn6⟩ | ⟨ho1, A6, n6, c6, rfl⟩))
  · have b36 := Below.then_ (Below.then_ b4 b5) b6
    have q6 := q3.after b36
    have B6 := B3.after b36
    have HX2 := HX.out
    rw [ho1] at HX2
    have HO : Hid (r = some mm) := HX2
    have HS := Lib.hid hs3.out
    clear HX2 ho1 own4 own5 hn4
    go_wp2_with (refine at_cell rfl 4 _ _ rfl gQ 3 (.bool true) rfl rfl 41 (QR n gR1 (m + 1) false) q6 (show 3 < 4 by omega) infoBo rfl ?_; intro w10 h10)
    have q10 : Blk w10 gQ 41 (QR n gR1 (m + 1) true) := h10.row
    have B10 := B6.of_heap (h10.oth _ HF1.out) (h10.oth _ HF2.out)
    have hs := hs3.out
    have hsb := b36.size
    rw [← HM.out] at q10
    have hgq := h6 gQ h1
    have hb4 := b4.size
    have hgl := B10.blk.lt
    have hgl2 := B10.sums.lt
    have hgl3 := q10.lt
    go_ret2
    rw [HO.out]
    refine ⟨⟨fun k => k = gQ ∨ k = gR1 ∨ k = gs1, fun k hk => by
      rcases hk with rfl | rfl | rfl
      · exact .inl h1
      · exact HF3.out
      · exact HF4.out, gR1, gs1, q10, .inl rfl, .inr (.inl rfl), .inr (.inr rfl), HF1.out, HF2.out, fun k hk => by omega, by rw [← HN.out]; exact B10⟩, ?_, .inl ⟨mm, rfl, A6, n6, c6, rfl, cv6 w10 (fun k hk _ => h10.oth k (by omega)) (by rw [h10.size]; exact Nat.le_refl _), cn6⟩⟩
    · exact ⟨h10.os.trans (b36.os.trans kr3.out.os), h10.tape.trans (b36.tape.trans kr3.out.tape), h10.output.trans (b36.output.trans kr3.out.output), by rw [h10.size]; exact Nat.le_trans hs hsb, fun k hk hkb => (h10.oth k (fun e => hkb (by rw [e]; exact h1))).trans ((b36.block k (by omega)).trans (kr3.out.block k hk hkb))⟩
  · have b36 := Below.then_ (Below.then_ b4 b5) b6
    have HX2 := HX.out
    rw [ho1] at HX2
    have HO2 : Hid (r = r2) := HX2
    have K2 := Lib.hid (CAl.out w6 b36)
    clear HX2 ho1 own4 own5 hn4
    go_upto_region 21 with (go_at_call 59; refine K2.out.mono ?_; rintro e w7 ⟨ha, b7⟩; rcases ha with ⟨ha1, A7, c7, rfl, rd7, hn7⟩ | ⟨ha1, rfl⟩)
    · have HE : Hid (r = opn (la.take N)) := HO2.out.trans (HA1.out ha1)
      have K3 := Lib.hid (CBy.out (la.take N) HB2.out A7 N c7 w7 rd7 (by omega))
      have b37 := Below.then_ b36 b7
      clear ha1
      go_upto_region 23 with (first
        | (go_at_call 58; refine K3.out.mono ?_; rintro e w8 ⟨A8, n8, c8, rfl, own8, b8⟩)
        | (go_at_call 57; refine (COp.out (la.take N) HB2.out A8 n8 c8 w8 w8 _ own8 HL2.out).mono ?_; rintro e w9 ⟨b9, ho⟩; rcases ho with ⟨mm, ho1, A6, n6, c6, rfl, cv6, cn6⟩ | ⟨ho1, A6, n6, c6, rfl⟩))
      · have b39 := Below.then_ (Below.then_ b37 b8) b9
        have q6 := q3.after b39
        have B6 := B3.after b39
        have HO : Hid (r = some mm) := HE.out.trans ho1
        clear ho1 own8
        go_wp2_with (refine at_cell rfl 4 _ _ rfl gQ 3 (.bool true) rfl rfl 41 (QR n gR1 (m + 1) false) q6 (show 3 < 4 by omega) infoBo rfl ?_; intro w10 h10)
        have q10 : Blk w10 gQ 41 (QR n gR1 (m + 1) true) := h10.row
        have B10 := B6.of_heap (h10.oth _ HF1.out) (h10.oth _ HF2.out)
        have hs := hs3.out
        have hsb := b39.size
        rw [← HM.out] at q10
        have hgq := h6 gQ h1
        have hb4 := b37.size
        have hgl := B10.blk.lt
        have hgl2 := B10.sums.lt
        have hgl3 := q10.lt
        go_ret2
        rw [HO.out]
        refine ⟨⟨fun k => k = gQ ∨ k = gR1 ∨ k = gs1, fun k hk => by
          rcases hk with rfl | rfl | rfl
          · exact .inl h1
          · exact HF3.out
          · exact HF4.out, gR1, gs1, q10, .inl rfl, .inr (.inl rfl), .inr (.inr rfl), HF1.out, HF2.out, fun k hk => by omega, by rw [← HN.out]; exact B10⟩, ?_, .inl ⟨mm, rfl, A6, n6, c6, rfl, cv6 w10 (fun k hk _ => h10.oth k (by omega)) (by rw [h10.size]; exact Nat.le_refl _), cn6⟩⟩
        · exact ⟨h10.os.trans (b39.os.trans kr3.out.os), h10.tape.trans (b39.tape.trans kr3.out.tape), h10.output.trans (b39.output.trans kr3.out.output), by rw [h10.size]; exact Nat.le_trans hs hsb, fun k hk hkb => (h10.oth k (fun e => hkb (by rw [e]; exact h1))).trans ((b39.block k (by omega)).trans (kr3.out.block k hk hkb))⟩
      · have b39 := Below.then_ (Below.then_ b37 b8) b9
        have HO : Hid (r = none) := HE.out.trans ho1
        clear ho1 own8
        have q6 := q3.after b39
        have B6 := B3.after b39
        have hs := hs3.out
        have hsb := b39.size
        rw [← HM.out] at q6
        have hgl := B6.blk.lt
        have hgl2 := B6.sums.lt
        have hgl3 := q6.lt
        go_wp2
        go_ret2
        rw [HO.out]
        refine ⟨⟨fun k => k = gQ ∨ k = gR1 ∨ k = gs1, fun k hk => by
          rcases hk with rfl | rfl | rfl
          · exact .inl h1
          · exact HF3.out
          · exact HF4.out, gR1, gs1, q6, .inl rfl, .inr (.inl rfl), .inr (.inr rfl), HF1.out, HF2.out, fun k hk => by omega, by rw [← HN.out]; exact B6⟩, ?_, .inr ⟨rfl, rfl⟩⟩
        exact ⟨b39.os.trans kr3.out.os, b39.tape.trans kr3.out.tape, b39.output.trans kr3.out.output, Nat.le_trans hs hsb, fun k hk hkb => (b39.block k (by omega)).trans (kr3.out.block k hk hkb)⟩
    · have HO : Hid (r = none) := HO2.out.trans (HA2.out ha1)
      have b39 := Below.then_ b36 b7
      clear ha1
      have q6 := q3.after b39
      have B6 := B3.after b39
      have hs := hs3.out
      have hsb := b39.size
      rw [← HM.out] at q6
      have hgl := B6.blk.lt
      have hgl2 := B6.sums.lt
      have hgl3 := q6.lt
      go_wp2
      go_ret2
      rw [HO.out]
      refine ⟨⟨fun k => k = gQ ∨ k = gR1 ∨ k = gs1, fun k hk => by
        rcases hk with rfl | rfl | rfl
        · exact .inl h1
        · exact HF3.out
        · exact HF4.out, gR1, gs1, q6, .inl rfl, .inr (.inl rfl), .inr (.inr rfl), HF1.out, HF2.out, fun k hk => by omega, by rw [← HN.out]; exact B6⟩, ?_, .inr ⟨rfl, rfl⟩⟩
      exact ⟨b39.os.trans kr3.out.os, b39.tape.trans kr3.out.tape, b39.output.trans kr3.out.output, Nat.le_trans hs hsb, fun k hk hkb => (b39.block k (by omega)).trans (kr3.out.block k hk hkb)⟩
/-- DocOffer. -/
theorem docC (w : World) (Q : Nat → Prop) (gQ n0 n N T v c b off : Nat) (row : List (Nat × List Nat)) (p : List Nat) (h : QrS w Q gQ n0 row false) (hrl : row.length ≤ 16) (hn : n ≤ 64) (hN : N = 8 * (n + 4)) (hT : T = N + 6) (hv : v < 4) (hr : Rd w w.heap.size (some ⟨b, off, none⟩) T (U8 p)) (hp : ∀ x ∈ p, x ≤ 1) (hb1 : ¬ Q b) (hb2 : b < w.heap.size) :
    Calls Tryd.prog 21 #[.pointer (some ⟨gQ, 0, none⟩), .int .i64 (n : Int), .int .i64 (v : Int), .slice (some ⟨b, off, none⟩) T c] w (OffR w Q gQ n (anew n0 row n ++ [(v, p)]) (rdx N (anew n0 row n ++ [(v, p)]) v p)) := by
  obtain ⟨gR, gs, q, h1, h2, h3, h4, h5, h6, h7⟩ := h
  by_cases h9 : n = n0
  · by_cases h10 : 16 ≤ row.length
    · have e : anew n0 row n = [] := by unfold anew; rw [if_pos (.inr h10)]
      exact docMany w Q gQ n0 n N T v c b off gR gs row _ p q h1 h2 h3 h4 h5 h6 h7 e h9 (by omega) hn hN hT hv hr hp hb1 hb2
    · have e : anew n0 row n = row := by unfold anew; rw [if_neg (by omega)]
      exact docKeep w Q gQ n0 n N T v c b off gR gs row _ p q h1 h2 h3 h4 h5 h6 h7 e h9 (by omega) hn hN hT hv hr hp hb1 hb2
  · have e : anew n0 row n = [] := by unfold anew; rw [if_pos (.inl h9)]
    exact docOther w Q gQ n0 n N T v c b off gR gs row _ p q h1 h2 h3 h4 h5 h6 h7 e h9 hn hN hT hv hr hp hb1 hb2
end Go.Proofs.YtcmoedhpedlalaaDoor
