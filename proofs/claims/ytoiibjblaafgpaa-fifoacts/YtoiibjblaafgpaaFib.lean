/-
  Layer 28: a queue: New, Kept, Under, Waiting, Deliver, Ack, Poll; slices.Clone of bytes; the calls of none.
-/
import Derived.Test.YtoiibjblaafgpaaFia
namespace Go.Proofs.Ytoiibjblaafgpaa
open Go.RowKit
set_option maxRecDepth 100000
set_option linter.unusedVariables false
set_option linter.unusedSimpArgs false
set_option maxRecDepth 100000

theorem infoSl8' : (Try.prog.info? 26).map (fun i => (i.zero, i.size, i.bytes)) = some (some (.slice none 0 0), 1, 24) := by kernel_rfl
theorem infoSl8one : (Try.prog.info? 26).map (·.size) = some 1 := by kernel_rfl
theorem infoSls8one : (Try.prog.info? 61).map (·.size) = some 1 := by kernel_rfl
theorem info3s : (Try.prog.info? 3).map (·.size) = some 1 := by kernel_rfl
/-- A queue's cells. -/
def qf (most : Nat) (A : Option Addr) (n c waiting kept : Nat) : Array Value := #[.int .i64 (most : Int), .slice A n c, .int .i64 (waiting : Int), .int .i64 (kept : Int)]
theorem qf_set1 (most : Nat) (A A' : Option Addr) (n c n' c' w k : Nat) : (qf most A n c w k).setIfInBounds 1 (.slice A' n' c') = qf most A' n' c' w k := rfl
theorem qf_set2 (most : Nat) (A : Option Addr) (n c w w' k : Nat) : (qf most A n c w k).setIfInBounds 2 (.int .i64 (w' : Int)) = qf most A n c w' k := rfl
theorem qf_set3 (most : Nat) (A : Option Addr) (n c w k k' : Nat) : (qf most A n c w k).setIfInBounds 3 (.int .i64 (k' : Int)) = qf most A n c w k' := rfl
/-- A queue, its blocks among P. -/
structure QS (w : World) (P : Nat → Prop) (g most : Nat) (ms : List (List Nat)) (waiting kept : Nat) : Prop where
  blk : ∃ A c hs, Blk w g 93 (qf most A ms.length c waiting kept) ∧ OffR w 26 A ms.length c hs ∧ (∀ k, blk A = some k → P k) ∧ ∀ i, i < ms.length → Msg w P (hs.getD i undef) (ms.getD i [])
  mine : P g
  lt : ∀ k, P k → k < w.heap.size
theorem QS.of_heap {w w' : World} {P : Nat → Prop} {g most : Nat} {ms : List (List Nat)} {wt kp : Nat} (h : QS w P g most ms wt kp) (hb : ∀ k, P k → w'.heap[k]? = w.heap[k]?) (hs : w.heap.size ≤ w'.heap.size) : QS w' P g most ms wt kp := by
  obtain ⟨A, c, l, q, o, hA, hm⟩ := h.blk
  exact ⟨⟨A, c, l, (hb g h.mine).trans q, o.heap (fun k hk => hb k (hA k hk)), hA, fun i hi => (hm i hi).heap hb⟩, h.mine, fun k hk => Nat.lt_of_lt_of_le (h.lt k hk) hs⟩
theorem QS.after {w w' : World} {P : Nat → Prop} {g most : Nat} {ms : List (List Nat)} {wt kp : Nat} (h : QS w P g most ms wt kp) (hb : Below w.heap.size w w') : QS w' P g most ms wt kp := h.of_heap (fun k hk => hb.block k (h.lt k hk)) hb.size
theorem QS.kr {w w' : World} {P Q : Nat → Prop} {g most : Nat} {ms : List (List Nat)} {wt kp : Nat} (h : QS w P g most ms wt kp) (hk : Kr w w' Q) (hd : ∀ k, P k → ¬ Q k) : QS w' P g most ms wt kp := h.of_heap (fun k hp => hk.block k (h.lt k hp) (hd k hp)) hk.size
/-- One number of it is written. -/
theorem qs_upd {w w' : World} {P : Nat → Prop} {g most : Nat} {ms : List (List Nat)} {wt kp wt' kp' : Nat} {A : Option Addr} {c : Nat} {hs : List Value} (o : OffR w 26 A ms.length c hs) (q : Blk w g 93 (qf most A ms.length c wt kp)) (hA : ∀ k, blk A = some k → P k)
    (hm : ∀ i, i < ms.length → Msg w P (hs.getD i undef) (ms.getD i [])) (mine : P g) (lt : ∀ k, P k → k < w.heap.size) (u : Upd w w' g 93 (qf most A ms.length c wt' kp')) : QS w' P g most ms wt' kp' ∧ Kr w w' P := by
  refine ⟨⟨⟨A, c, hs, u.row, o.heap (fun k hk => u.oth k (fun e => o.ne_blk q (by decide) (by rw [← e]; exact hk))), hA, fun i hi => ?_⟩, mine, fun k hk => by rw [u.size]; exact lt k hk⟩, ⟨u.os, u.tape, u.output, by rw [u.size]; exact Nat.le_refl _, fun k _ hk => u.oth k (fun e => hk (by rw [e]; exact mine))⟩⟩
  obtain ⟨B, d, e, ob, hB⟩ := (hm i hi).at_
  exact ⟨⟨B, d, e, ob.heap (fun k hk => u.oth k (fun e2 => ob.ne_blk q (by decide) (by rw [← e2]; exact hk))), hB⟩⟩
set_option maxHeartbeats 400000 in
theorem fNew (w : World) (most : Nat) (h : 1 ≤ most ∧ most ≤ 64) : Calls Try.prog 34 #[.int .i64 (most : Int)] w fun e w' => e = .returned (.tuple #[.pointer (some ⟨w.heap.size, 0, none⟩), .int .i64 0]) ∧ QS w' (fun k => k = w.heap.size) w.heap.size most [] 0 0 ∧ Below w.heap.size w w' := by
  have d1 : decide ((most : Int) < 1) = false := by simp; omega
  have d2 : decide ((most : Int) > 64) = false := by simp; omega
  have d2' : decide ((64 : Int) < (most : Int)) = false := by simp; omega
  go_enter Try.func34, Try.ntmps34
  go_wp2_with (refine at_box rfl 93 _ rfl (qf most none 0 0 0 0) (by first | rfl | (go_simp; rfl)) ?_; intro w1 L1)
  go_ret2
  exact ⟨rfl, ⟨⟨none, 0, [], L1.row, OffR.nil _ _, (fun k hk => by cases hk), (fun i hi => absurd hi (Nat.not_lt_zero i))⟩, rfl, fun k hk => by rw [hk, L1.size]; omega⟩, L1.bel⟩
set_option maxHeartbeats 400000 in
theorem fNewNo (w : World) (most : Int) (h : most < 1 ∨ 64 < most) : Calls Try.prog 34 #[.int .i64 most] w fun e w' => e = .returned (.tuple #[.pointer none, .int .i64 1]) ∧ w = w' := by
  by_cases h1 : most < 1
  · go_enter Try.func34, Try.ntmps34
    go_wp2
    go_ret2
    exact ⟨rfl, rfl⟩
  · have h2 : 64 < most := by omega
    go_enter Try.func34, Try.ntmps34
    go_wp2
    go_ret2
    exact ⟨rfl, rfl⟩
set_option maxHeartbeats 400000 in
theorem fKept (w : World) (P : Nat → Prop) (g most : Nat) (ms : List (List Nat)) (wt kp : Nat) (h : QS w P g most ms wt kp) : Calls Try.prog 31 #[.pointer (some ⟨g, 0, none⟩)] w fun e w' => e = .returned (.int .i64 (kp : Int)) ∧ w = w' := by
  obtain ⟨A, c, hs, q, o, hA, hm⟩ := h.blk
  have c3 : w.cell? ⟨g, 3, none⟩ = some (.int .i64 (kp : Int)) := (q.cell 3).trans rfl
  clear q o hA hm h
  go_enter Try.func31, Try.ntmps31
  go_wp2
  go_ret
  exact ⟨rfl, rfl⟩
set_option maxHeartbeats 400000 in
theorem fWaiting (w : World) (P : Nat → Prop) (g most : Nat) (ms : List (List Nat)) (wt kp : Nat) (h : QS w P g most ms wt kp) : Calls Try.prog 33 #[.pointer (some ⟨g, 0, none⟩)] w fun e w' => e = .returned (.int .i64 (wt : Int)) ∧ w = w' := by
  obtain ⟨A, c, hs, q, o, hA, hm⟩ := h.blk
  have c2 : w.cell? ⟨g, 2, none⟩ = some (.int .i64 (wt : Int)) := (q.cell 2).trans rfl
  clear q o hA hm h
  go_enter Try.func33, Try.ntmps33
  go_wp2
  go_ret
  exact ⟨rfl, rfl⟩
set_option maxHeartbeats 400000 in
theorem fUnder (w : World) (P : Nat → Prop) (g most : Nat) (ms : List (List Nat)) (wt kp : Nat) (h : QS w P g most ms wt kp) (hw : wt ≤ ms.length) (hl : ms.length ≤ 1000000) : Calls Try.prog 32 #[.pointer (some ⟨g, 0, none⟩)] w fun e w' => e = .returned (.int .i64 ((ms.length - wt : Nat) : Int)) ∧ ∃ j, w' = w.drewN j := by
  obtain ⟨A, c, hs, q, o, hA, hm⟩ := h.blk
  have c1 : w.cell? ⟨g, 1, none⟩ = some (.slice A ms.length c) := (q.cell 1).trans rfl
  have c2 : w.cell? ⟨g, 2, none⟩ = some (.int .i64 (wt : Int)) := (q.cell 2).trans rfl
  obtain ⟨n, hn⟩ : ∃ n, n = ms.length := ⟨_, rfl⟩
  rw [← hn] at c1 hw hl ⊢
  have e1 : (n : Int) - (wt : Int) = ((n - wt : Nat) : Int) := by omega
  obtain ⟨d, hd⟩ : ∃ d, d = n - wt := ⟨_, rfl⟩
  rw [← hd] at e1 ⊢
  have w1 : IntKind.i64.wrap ((n : Int) - (wt : Int)) = (d : Int) := by rw [e1]; exact IntWalk.i64_in _ (by omega)
  clear q o hA hm h hn hd
  go_enter Try.func32, Try.ntmps32
  go_upto_region 3 with fail
  go_quiet (fail)
  go_wp2
  go_ret
  exact ⟨rfl, _, rfl⟩
set_option maxHeartbeats 1000000 in
theorem fDeliver (w : World) (P : Nat → Prop) (g most : Nat) (ms : List (List Nat)) (wt kp : Nat) (h : QS w P g most ms wt kp) (hw : wt < ms.length) (hl : ms.length ≤ 1000000) : Calls Try.prog 29 #[.pointer (some ⟨g, 0, none⟩)] w fun e w' => e = .returned (.int .i64 0) ∧ QS w' P g most ms (wt + 1) kp ∧ Kr w w' P := by
  have CU := Lib.hid (fUnder w P g most ms wt kp h (by omega) hl)
  obtain ⟨A, c, hs, q, o, hA, hm⟩ := h.blk
  have HMI := Lib.hid h.mine
  have HLT := Lib.hid h.lt
  have c2 : w.cell? ⟨g, 2, none⟩ = some (.int .i64 (wt : Int)) := (q.cell 2).trans rfl
  have HU := Lib.hid (fun (j : Nat) (w2 : World) (u : Upd (w.drewN j) w2 g 93 (qf most A ms.length c (wt + 1) kp)) => by
    have h1 := qs_upd (w := w.drewN j) (o.heap (fun k hk => rfl)) (show Blk (w.drewN j) g 93 (qf most A ms.length c wt kp) from q) hA (fun i hi => (hm i hi).heap (fun k hk => rfl)) h.mine (fun k hk => h.lt k hk) u
    exact (⟨h1.1, ⟨h1.2.os, h1.2.tape, h1.2.output, h1.2.size, fun k hk hp => h1.2.block k hk hp⟩⟩ : QS w2 P g most ms (wt + 1) kp ∧ Kr w w2 P))
  have HQ := Lib.hid q
  have d0 : (((ms.length - wt : Nat) : Int) == 0) = false := by simp; omega
  have hwb : wt + 1 ≤ 1000000 := by omega
  generalize ms.length - wt = du at *
  clear q o hA hm h hw hl
  obtain ⟨wt1, hwt⟩ : ∃ x, x = wt + 1 := ⟨_, rfl⟩
  have ew : (wt : Int) + 1 = (wt1 : Int) := by omega
  rw [← hwt] at HU hwb ⊢
  clear hwt
  generalize ms.length = n at *
  go_enter Try.func29, Try.ntmps29
  have hq := HQ.out
  go_upto_region 6 with (first | (go_at_call 32; refine CU.out.mono ?_; rintro e w1 ⟨rfl, jj, rfl⟩) | (refine at_cell rfl 3 _ _ rfl g 2 (.int .i64 (wt1 : Int)) rfl rfl 93 (qf most A n c wt kp) hq (show 2 < 4 by omega) info3s rfl ?_; intro w2 u2))
  rw [qf_set2] at u2
  have HF := Lib.hid (HU.out jj w2 u2)
  clear u2 c2
  go_wp2
  go_ret
  exact ⟨rfl, HF.out⟩
set_option maxHeartbeats 400000 in
theorem fDeliverNo (w : World) (P : Nat → Prop) (g most : Nat) (ms : List (List Nat)) (wt kp : Nat) (h : QS w P g most ms wt kp) (hw : wt = ms.length) (hl : ms.length ≤ 1000000) : Calls Try.prog 29 #[.pointer (some ⟨g, 0, none⟩)] w fun e w' => e = .returned (.int .i64 9) ∧ Below w.heap.size w w' := by
  have CU := fUnder w P g most ms wt kp h (by omega) hl
  rw [show ms.length - wt = 0 by omega] at CU
  have HC := Lib.hid CU
  clear CU h hw hl
  go_enter Try.func29, Try.ntmps29
  go_wp2_with (go_at_call 32; refine HC.out.mono ?_; rintro e w1 ⟨rfl, jj, rfl⟩)
  go_ret
  exact ⟨rfl, below_drawn _⟩
set_option maxHeartbeats 400000 in
theorem fAckArg (w : World) (g : Nat) (x : Int) (hx : x < 0) : Calls Try.prog 30 #[.pointer (some ⟨g, 0, none⟩), .int .i64 x] w fun e w' => e = .returned (.int .i64 1) ∧ w = w' := by
  go_enter Try.func30, Try.ntmps30
  go_wp2
  go_ret
  exact ⟨rfl, rfl⟩
set_option maxHeartbeats 1000000 in
theorem fAck (w : World) (P : Nat → Prop) (g most : Nat) (ms : List (List Nat)) (wt kp x : Nat) (h : QS w P g most ms wt kp) (hw : wt ≤ ms.length) (hl : ms.length ≤ 1000000) (hk : kp ≤ 1000000) (hx : x + (ms.length - wt) ≤ kp) : Calls Try.prog 30 #[.pointer (some ⟨g, 0, none⟩), .int .i64 (x : Int)] w fun e w' => e = .returned (.int .i64 0) ∧ QS w' P g most ms wt (kp - x) ∧ Kr w w' P := by
  have CU := Lib.hid (fun j => Calls.quiet_of (fUnder (w.drewN j) P g most ms wt kp (h.after (below_drawn _)) hw hl))
  obtain ⟨A, c, hs, q, o, hA, hm⟩ := h.blk
  have c3 : w.cell? ⟨g, 3, none⟩ = some (.int .i64 (kp : Int)) := (q.cell 3).trans rfl
  have HU := Lib.hid (fun (j : Nat) (w2 : World) (u : Upd (w.drewN j) w2 g 93 (qf most A ms.length c wt (kp - x))) => by
    have h1 := qs_upd (w := w.drewN j) (o.heap (fun k hk => rfl)) (show Blk (w.drewN j) g 93 (qf most A ms.length c wt kp) from q) hA (fun i hi => (hm i hi).heap (fun k hk => rfl)) h.mine (fun k hk => h.lt k hk) u
    exact (⟨h1.1, ⟨h1.2.os, h1.2.tape, h1.2.output, h1.2.size, fun k hk hp => h1.2.block k hk hp⟩⟩ : QS w2 P g most ms wt (kp - x) ∧ Kr w w2 P))
  have HQ := Lib.hid q
  obtain ⟨d, hd⟩ : ∃ d, d = ms.length - wt := ⟨_, rfl⟩
  rw [← hd] at CU hx
  obtain ⟨k2, hk2⟩ : ∃ k2, k2 = kp - x := ⟨_, rfl⟩
  rw [← hk2] at HU ⊢
  have e1 : (kp : Int) - (x : Int) = (k2 : Int) := by omega
  have w1 : IntKind.i64.wrap ((kp : Int) - (x : Int)) = (k2 : Int) := by rw [e1]; exact IntWalk.i64_in _ (by omega)
  obtain ⟨k3, hk3⟩ : ∃ k3, k3 = kp - d := ⟨_, rfl⟩
  have e2 : (kp : Int) - (d : Int) = (k3 : Int) := by omega
  have w2' : IntKind.i64.wrap ((kp : Int) - (d : Int)) = (k3 : Int) := by rw [e2]; exact IntWalk.i64_in _ (by omega)
  have d0 : decide ((x : Int) < 0) = false := by simp
  have d1 : decide ((x : Int) > (k3 : Int)) = false := by simp; omega
  have d1' : decide ((k3 : Int) < (x : Int)) = false := by simp; omega
  have d1'' : decide (k3 < x) = false := by simp; omega
  have hk3x : ¬ k3 < x := by omega
  clear q o hA hm h hw hl hd hk2 hk3 hx
  generalize ms.length = n at *
  go_enter Try.func30, Try.ntmps30
  go_upto_region 3 with fail
  go_quiet ((go_at_call 32; exact CU.out _))
  have hq := HQ.out
  go_wp2_with (refine at_cell rfl 3 _ _ rfl g 3 (.int .i64 (k2 : Int)) rfl rfl 93 (qf most A n c wt kp) hq (show 3 < 4 by omega) info3s rfl ?_; intro w2 u2)
  rw [qf_set3] at u2
  go_ret
  exact ⟨rfl, HU.out _ w2 u2⟩
set_option maxHeartbeats 1000000 in
theorem fAckMiss (w : World) (P : Nat → Prop) (g most : Nat) (ms : List (List Nat)) (wt kp : Nat) (x : Int) (h : QS w P g most ms wt kp) (hw : wt ≤ ms.length) (hl : ms.length ≤ 1000000) (hk : kp ≤ 1000000) (hx0 : 0 ≤ x) (hd2 : ms.length - wt ≤ kp) (hx : (kp : Int) < x + ((ms.length - wt : Nat) : Int)) : Calls Try.prog 30 #[.pointer (some ⟨g, 0, none⟩), .int .i64 x] w fun e w' => e = .returned (.int .i64 9) ∧ Below w.heap.size w w' := by
  have CU := Lib.hid (fun j => Calls.quiet_of (fUnder (w.drewN j) P g most ms wt kp (h.after (below_drawn _)) hw hl))
  obtain ⟨A, c, hs, q, o, hA, hm⟩ := h.blk
  have c3 : w.cell? ⟨g, 3, none⟩ = some (.int .i64 (kp : Int)) := (q.cell 3).trans rfl
  obtain ⟨d, hd⟩ : ∃ d, d = ms.length - wt := ⟨_, rfl⟩
  rw [← hd] at CU hx hd2
  obtain ⟨k3, hk3⟩ : ∃ k3, k3 = kp - d := ⟨_, rfl⟩
  have e2 : (kp : Int) - (d : Int) = (k3 : Int) := by omega
  have w2' : IntKind.i64.wrap ((kp : Int) - (d : Int)) = (k3 : Int) := by rw [e2]; exact IntWalk.i64_in _ (by omega)
  have d0 : decide (x < 0) = false := by simp; omega
  have d1 : decide (x > (k3 : Int)) = true := by simp; omega
  have d1' : decide ((k3 : Int) < x) = true := by simp; omega
  clear q o hA hm h hw hl hd hk3 hx
  generalize ms.length = n at *
  go_enter Try.func30, Try.ntmps30
  go_upto_region 3 with fail
  go_quiet ((go_at_call 32; exact CU.out _))
  go_wp2
  go_ret
  exact ⟨rfl, below_drawn _⟩
theorem tail_getD {α : Type} (l : List α) (d : α) (i : Nat) : l.tail.getD i d = l.getD (i + 1) d := by
  cases l with
  | nil => simp
  | cons x l => simp [List.getD]
set_option maxHeartbeats 2000000 in
/-- Poll, where one waits. -/
theorem fPoll (w : World) (P : Nat → Prop) (g most : Nat) (m : List Nat) (ms : List (List Nat)) (wt kp : Nat) (h : QS w P g most (m :: ms) (wt + 1) kp) (hl : wt ≤ 1000000) : Calls Try.prog 26 #[.pointer (some ⟨g, 0, none⟩)] w fun e w' => QS w' P g most ms wt kp ∧ Kr w w' P ∧ ∃ B d, e = .returned (.tuple #[.slice B m.length d, .bool true]) ∧ Own w' 0 5 B m.length d (U8 m) ∧ ∀ k, blk B = some k → P k := by
  obtain ⟨A, c, hs, q, o, hA, hm⟩ := h.blk
  have hhl := o.len
  rw [List.length_cons] at hhl
  obtain ⟨x, xs, rfl⟩ : ∃ x xs, hs = x :: xs := by
    match hs, hhl with
    | x :: xs, _ => exact ⟨x, xs, rfl⟩
  obtain ⟨b, off, cur, hAe, hb, hn0, hc0, hoff, k0⟩ := o.first
  subst hAe
  obtain ⟨B, d, hx, ob, hB⟩ := (hm 0 (by simp)).at_
  have hx' : x = .slice B m.length d := hx
  subst hx'
  have HOB : Hid (Own w 0 5 B m.length d (U8 m)) := ob
  have HB := Lib.hid hB
  have HO := Lib.hid o
  have HQ := Lib.hid q
  have HBK := Lib.hid hb
  have HMI := Lib.hid h.mine
  have HLT := Lib.hid h.lt
  have HPB : Hid (P b) := hA b rfl
  have HMS : Hid (∀ i, i < ms.length → Msg w P (xs.getD i undef) (ms.getD i [])) := fun i hi => by
    have := hm (i + 1) (by simp; omega)
    simpa [List.getD] using this
  have hbg : b ≠ g := fun e => o.ne_blk q (by decide) (by rw [← e]; rfl)
  have c1 : w.cell? ⟨g, 1, none⟩ = some (.slice (some ⟨b, off, none⟩) (ms.length + 1) c) := (q.cell 1).trans (by simp [qf])
  have c2 : w.cell? ⟨g, 2, none⟩ = some (.int .i64 ((wt + 1 : Nat) : Int)) := (q.cell 2).trans rfl
  obtain ⟨n, hn⟩ : ∃ n, n = ms.length + 1 := ⟨_, rfl⟩
  have HN := Lib.hid hn
  have q' : Blk w g 93 (qf most (some ⟨b, off, none⟩) n c (wt + 1) kp) := by rw [hn]; exact q
  rw [← hn] at c1
  obtain ⟨w1, hw1⟩ : ∃ w1, w1 = wt + 1 := ⟨_, rfl⟩
  have HW1 := Lib.hid hw1
  rw [← hw1] at c2 q'
  have d0 : ((w1 : Int) == 0) = false := by simp; omega
  have e1 : (w1 : Int) - 1 = (wt : Int) := by omega
  have ww : IntKind.i64.wrap ((w1 : Int) - 1) = (wt : Int) := by rw [e1]; exact IntWalk.i64_in _ (by omega)
  have hn1 : (0 : Int) < (n : Int) := by omega
  have hn1' : (1 : Int) ≤ (n : Int) := by omega
  have hnc : n ≤ c := by
    rcases o.at_ with ⟨h0, _⟩ | ⟨_, _, _, _, _, h1, _⟩
    · cases h0
    · rw [hn]; exact h1
  clear q o hA hm h hB hx ob hhl hn hw1 hb
  go_enter Try.func26, Try.ntmps26
  go_upto_region 4 with fail
  have hbk := HBK.out
  go_upto_region 5 with (refine at_cell rfl 26 _ _ rfl b off (.slice none 0 0) rfl rfl 26 cur hbk hoff infoSl8one rfl ?_; intro wa ua)
  have hod := Lib.hid (HO.out.drop1 HBK.out ua)
  obtain ⟨o2, hif⟩ : ∃ o2, (if c = 1 then some (⟨b, off, none⟩ : Addr) else some ⟨b, off + 1, none⟩) = some ⟨b, o2, none⟩ := by
    by_cases hc : c = 1
    · exact ⟨off, if_pos hc⟩
    · exact ⟨off + 1, if_neg hc⟩
  rw [hif] at hod
  have hif2 : (if c - 1 = 0 then some (⟨b, off, none⟩ : Addr) else some ⟨b, off + 1, none⟩) = some ⟨b, o2, none⟩ := by
    rw [← hif]
    by_cases hc : c = 1
    · rw [if_pos hc, if_pos (by omega)]
    · rw [if_neg hc, if_neg (by omega)]
  have HHIF := Lib.hid hif
  have qa : Blk wa g 93 (qf most (some ⟨b, off, none⟩) n c w1 kp) := ua.blk q' (fun e => hbg e.symm)
  have ca1 : wa.cell? ⟨g, 1, none⟩ = some (.slice (some ⟨b, off, none⟩) n c) := (qa.cell 1).trans rfl
  have ca2 : wa.cell? ⟨g, 2, none⟩ = some (.int .i64 (w1 : Int)) := (qa.cell 2).trans rfl
  obtain ⟨n1, hn1e⟩ : ∃ n1, n1 = n - 1 := ⟨_, rfl⟩
  obtain ⟨c1', hc1e⟩ : ∃ c1, c1 = c - 1 := ⟨_, rfl⟩
  have en1 : n - 1 = n1 := hn1e.symm
  have ec1 : c - 1 = c1' := hc1e.symm
  have HN1 : Hid (n1 = ms.length) := by have := HN.out; unfold Hid; omega
  rw [show (m :: ms).length - 1 = n1 by rw [HN1.out]; rfl, ec1] at hod
  have HUA := Lib.hid ua
  clear hn1e hc1e c1 c2 q' k0 hbk
  go_upto_region 6 with (refine at_cell rfl 61 _ _ rfl g 1 (.slice (some ⟨b, o2, none⟩) n1 c1') rfl rfl 93 _ qa (show 1 < 4 by omega) infoSls8one rfl ?_; intro wb ub)
  rw [qf_set1] at ub
  have qb := ub.row
  have cb2 : wb.cell? ⟨g, 2, none⟩ = some (.int .i64 (w1 : Int)) := (qb.cell 2).trans rfl
  go_wp2_with (refine at_cell rfl 3 _ _ rfl g 2 (.int .i64 (wt : Int)) rfl rfl 93 _ qb (show 2 < 4 by omega) info3s rfl ?_; intro wc uc)
  rw [qf_set2] at uc
  go_ret2
  have oth : ∀ k, k ≠ g → k ≠ b → wc.heap[k]? = w.heap[k]? := fun k h1 h2 => ((uc.oth k h1).trans (ub.oth k h1)).trans (HUA.out.oth k h2)
  have hsz : wc.heap.size = w.heap.size := by rw [uc.size, ub.size, HUA.out.size]
  have hbne : ∀ (bs : List Nat) (C : Option Addr) (e' : Nat), Own w 0 5 C bs.length e' (U8 bs) → ∀ k, blk C = some k → k ≠ g ∧ k ≠ b := fun bs C e' oc k hk => ⟨fun e2 => oc.ne_blk HQ.out (by decide) (by rw [← e2]; exact hk), fun e2 => oc.ne_blk HBK.out (by decide) (by rw [← e2]; exact hk)⟩
  refine ⟨⟨⟨some ⟨b, o2, none⟩, c1', xs, ?_, ?_, ?_, fun i hi => ?_⟩, HMI.out, fun k hk => by rw [hsz]; exact HLT.out k hk⟩, ⟨?_, ?_, ?_, by rw [hsz]; exact Nat.le_refl _, fun k _ hk => oth k (fun e => hk (by rw [e]; exact HMI.out)) (fun e => hk (by rw [e]; exact HPB.out))⟩, B, d, rfl, ?_, HB.out⟩
  · rw [← HN1.out]; exact uc.row
  · rw [← HN1.out]
    exact hod.out.heap (fun k hk => by
      have hkb : k = b := by injection hk with hk; exact hk.symm
      rw [hkb, uc.oth b hbg, ub.oth b hbg])
  · intro k hk
    have hkb : k = b := by injection hk with hk; exact hk.symm
    rw [hkb]; exact HPB.out
  · obtain ⟨C, e', he, oc, hC⟩ := (HMS.out i hi).at_
    exact ⟨⟨C, e', he, oc.heap (fun k hk => oth k (hbne _ C e' oc k hk).1 (hbne _ C e' oc k hk).2), hC⟩⟩
  · rw [uc.os, ub.os, HUA.out.os]
  · rw [uc.tape, ub.tape, HUA.out.tape]
  · rw [uc.output, ub.output, HUA.out.output]
  · exact HOB.out.heap (fun k hk => oth k (hbne _ B d HOB.out k hk).1 (hbne _ B d HOB.out k hk).2)
set_option maxHeartbeats 400000 in
theorem fPollNo (w : World) (P : Nat → Prop) (g most : Nat) (ms : List (List Nat)) (kp : Nat) (h : QS w P g most ms 0 kp) : Calls Try.prog 26 #[.pointer (some ⟨g, 0, none⟩)] w fun e w' => e = .returned (.tuple #[.slice none 0 0, .bool false]) ∧ w = w' := by
  obtain ⟨A, c, hs, q, o, hA, hm⟩ := h.blk
  have c2 : w.cell? ⟨g, 2, none⟩ = some (.int .i64 0) := (q.cell 2).trans rfl
  clear q o hA hm h
  go_enter Try.func26, Try.ntmps26
  go_wp2
  go_ret2
  exact ⟨rfl, rfl⟩
end Go.Proofs.Ytoiibjblaafgpaa
