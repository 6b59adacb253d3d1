/-
  Layer 28: the calls of no queue; the reference's queue: DocDeliver, DocPoll, DocAck, DocSend where it refuses.
-/
import Derived.Test.YtoiibjblaafgpaaFid
namespace Go.Proofs.Ytoiibjblaafgpaa
open Go.RowKit
set_option maxRecDepth 100000
set_option linter.unusedVariables false
set_option linter.unusedSimpArgs false
set_option maxRecDepth 100000

set_option maxHeartbeats 400000 in
theorem nilQSend (w : World) : Calls Try.prog 28 #[.pointer none, .slice none 0 0] w fun e w' => e = .returned (.int .i64 1) ∧ w = w' := by
  go_enter Try.func28, Try.ntmps28
  go_wp2
  go_ret
  exact ⟨rfl, rfl⟩
set_option maxHeartbeats 400000 in
theorem nilQDeliver (w : World) : Calls Try.prog 29 #[.pointer none] w fun e w' => e = .returned (.int .i64 1) ∧ w = w' := by
  go_enter Try.func29, Try.ntmps29
  go_wp2
  go_ret
  exact ⟨rfl, rfl⟩
set_option maxHeartbeats 400000 in
theorem nilQPoll (w : World) : Calls Try.prog 26 #[.pointer none] w fun e w' => e = .returned (.tuple #[.slice none 0 0, .bool false]) ∧ w = w' := by
  go_enter Try.func26, Try.ntmps26
  go_wp2
  go_ret2
  exact ⟨rfl, rfl⟩
set_option maxHeartbeats 400000 in
theorem nilQAck (w : World) (x : Int) : Calls Try.prog 30 #[.pointer none, .int .i64 x] w fun e w' => e = .returned (.int .i64 1) ∧ w = w' := by
  go_enter Try.func30, Try.ntmps30
  go_wp2
  go_ret
  exact ⟨rfl, rfl⟩
set_option maxHeartbeats 400000 in
theorem nilQKept (w : World) : Calls Try.prog 31 #[.pointer none] w fun e w' => e = .returned (.int .i64 0) ∧ w = w' := by
  go_enter Try.func31, Try.ntmps31
  go_wp2
  go_ret
  exact ⟨rfl, rfl⟩
set_option maxHeartbeats 400000 in
theorem nilQUnder (w : World) : Calls Try.prog 32 #[.pointer none] w fun e w' => e = .returned (.int .i64 0) ∧ w = w' := by
  go_enter Try.func32, Try.ntmps32
  go_wp2
  go_ret
  exact ⟨rfl, rfl⟩
set_option maxHeartbeats 400000 in
theorem nilQWaiting (w : World) : Calls Try.prog 33 #[.pointer none] w fun e w' => e = .returned (.int .i64 0) ∧ w = w' := by
  go_enter Try.func33, Try.ntmps33
  go_wp2
  go_ret
  exact ⟨rfl, rfl⟩
set_option maxHeartbeats 400000 in
theorem noneQ (w : World) : Calls Try.prog 25 #[] w fun e w' => e = .returned (.pointer none) ∧ w = w' := by
  go_enter Try.func25, Try.ntmps25
  go_wp2
  go_ret
  exact ⟨rfl, rfl⟩
theorem OffR.get_ {w : World} {e : TypeId} {A : Option Addr} {n c : Nat} {xs : List Value} (h : OffR w e A n c xs) (i : Nat) (hi : i < n) : ∃ b off, A = some ⟨b, off, none⟩ ∧ w.cell? ⟨b, off + i, none⟩ = some (xs.getD i undef) := by
  have hl := h.len
  rcases h.at_ with ⟨_, h1, _⟩ | ⟨b, off, cur, hA, hg, h1, h2, h3, h4⟩
  · omega
  · refine ⟨b, off, hA, ?_⟩
    have hb : Blk w b e cur := hg
    have h5 := h4 i hi
    rw [List.getElem?_eq_getElem (by omega)] at h5
    rw [hb.cell (off + i), h5, Bm.getD_lt xs undef i (by omega)]
/-- The reference's queue's cells. -/
def rf (most : Nat) (A : Option Addr) (n c d p a : Nat) : Array Value := #[.int .i64 (most : Int), .slice A n c, .int .i64 (d : Int), .int .i64 (p : Int), .int .i64 (a : Int)]
theorem rf_set1 (most : Nat) (A A' : Option Addr) (n c n' c' d p a : Nat) : (rf most A n c d p a).setIfInBounds 1 (.slice A' n' c') = rf most A' n' c' d p a := rfl
theorem rf_set2 (most : Nat) (A : Option Addr) (n c d d' p a : Nat) : (rf most A n c d p a).setIfInBounds 2 (.int .i64 (d' : Int)) = rf most A n c d' p a := rfl
theorem rf_set3 (most : Nat) (A : Option Addr) (n c d p p' a : Nat) : (rf most A n c d p a).setIfInBounds 3 (.int .i64 (p' : Int)) = rf most A n c d p' a := rfl
theorem rf_set4 (most : Nat) (A : Option Addr) (n c d p a a' : Nat) : (rf most A n c d p a).setIfInBounds 4 (.int .i64 (a' : Int)) = rf most A n c d p a' := rfl
/-- The reference's queue, its blocks among P. -/
structure RQ (w : World) (P : Nat → Prop) (g most : Nat) (L : List (List Nat)) (d p a : Nat) : Prop where
  blk : ∃ A c hs, Blk w g 63 (rf most A L.length c d p a) ∧ OffR w 26 A L.length c hs ∧ (∀ k, blk A = some k → P k) ∧ ∀ i, i < L.length → Msg w P (hs.getD i undef) (L.getD i [])
  mine : P g
  lt : ∀ k, P k → k < w.heap.size
theorem RQ.of_heap {w w' : World} {P : Nat → Prop} {g most : Nat} {L : List (List Nat)} {d p a : Nat} (h : RQ w P g most L d p a) (hb : ∀ k, P k → w'.heap[k]? = w.heap[k]?) (hs : w.heap.size ≤ w'.heap.size) : RQ w' P g most L d p a := by
  obtain ⟨A, c, l, q, o, hA, hm⟩ := h.blk
  exact ⟨⟨A, c, l, (hb g h.mine).trans q, o.heap (fun k hk => hb k (hA k hk)), hA, fun i hi => (hm i hi).heap hb⟩, h.mine, fun k hk => Nat.lt_of_lt_of_le (h.lt k hk) hs⟩
theorem RQ.after {w w' : World} {P : Nat → Prop} {g most : Nat} {L : List (List Nat)} {d p a : Nat} (h : RQ w P g most L d p a) (hb : Below w.heap.size w w') : RQ w' P g most L d p a := h.of_heap (fun k hk => hb.block k (h.lt k hk)) hb.size
theorem RQ.kr {w w' : World} {P Q : Nat → Prop} {g most : Nat} {L : List (List Nat)} {d p a : Nat} (h : RQ w P g most L d p a) (hk : Kr w w' Q) (hd : ∀ k, P k → ¬ Q k) : RQ w' P g most L d p a := h.of_heap (fun k hp => hk.block k (h.lt k hp) (hd k hp)) hk.size
theorem Kr.drawn_ {w w' : World} {P : Nat → Prop} {j : Nat} (h : Kr w w' P) : Kr w (w'.drewN j) P := ⟨h.os, h.tape, h.output, h.size, h.block⟩
/-- One number of it is written. -/
theorem rq_upd {w w0 w' : World} {P : Nat → Prop} {g most : Nat} {L : List (List Nat)} {d p a d' p' a' : Nat} {A : Option Addr} {c : Nat} {hs : List Value} (o : OffR w 26 A L.length c hs) (q : Blk w g 63 (rf most A L.length c d p a)) (hA : ∀ k, blk A = some k → P k)
    (hm : ∀ i, i < L.length → Msg w P (hs.getD i undef) (L.getD i [])) (mine : P g) (lt : ∀ k, P k → k < w.heap.size) (hd : w0.heap = w.heap ∧ w0.os = w.os ∧ w0.tape = w.tape ∧ w0.output = w.output) (u : Upd w0 w' g 63 (rf most A L.length c d' p' a')) : RQ w' P g most L d' p' a' ∧ Kr w w' P := by
  obtain ⟨e1, e2, e3, e4⟩ := hd
  have hoth : ∀ k, k ≠ g → w'.heap[k]? = w.heap[k]? := fun k hk => (u.oth k hk).trans (by rw [e1])
  have hsz : w'.heap.size = w.heap.size := u.size.trans (by rw [e1])
  refine ⟨⟨⟨A, c, hs, u.row, o.heap (fun k hk => hoth k (fun e => o.ne_blk q (by decide) (by rw [← e]; exact hk))), hA, fun i hi => ?_⟩, mine, fun k hk => by rw [hsz]; exact lt k hk⟩, ⟨u.os.trans e2, u.tape.trans e3, u.output.trans e4, by rw [hsz]; exact Nat.le_refl _, fun k _ hk => hoth k (fun e => hk (by rw [e]; exact mine))⟩⟩
  obtain ⟨B, d, e, ob, hB⟩ := (hm i hi).at_
  exact ⟨⟨B, d, e, ob.heap (fun k hk => hoth k (fun e2 => ob.ne_blk q (by decide) (by rw [← e2]; exact hk))), hB⟩⟩
set_option maxHeartbeats 1000000 in
theorem rDeliver (w : World) (P : Nat → Prop) (g most : Nat) (L : List (List Nat)) (d p a : Nat) (h : RQ w P g most L d p a) (hd : d < L.length) (hl : L.length ≤ 1000000) :
    Calls Try.prog 36 #[.pointer (some ⟨g, 0, none⟩)] w fun e w' => e = .returned (.int .i64 0) ∧ Kr w w' P ∧ RQ w' P g most L (d + 1) p a := by
  obtain ⟨A, c, hs, q, o, hA, hm⟩ := h.blk
  have c1 : w.cell? ⟨g, 1, none⟩ = some (.slice A L.length c) := (q.cell 1).trans rfl
  have c2 : w.cell? ⟨g, 2, none⟩ = some (.int .i64 (d : Int)) := (q.cell 2).trans rfl
  have HU := Lib.hid (fun (j : Nat) (w2 : World) (u : Upd (w.drewN j) w2 g 63 (rf most A L.length c (d + 1) p a)) => rq_upd (w0 := w.drewN j) o q hA hm h.mine h.lt ⟨rfl, rfl, rfl, rfl⟩ u)
  have HQ := Lib.hid q
  obtain ⟨d1, hd1⟩ : ∃ x, x = d + 1 := ⟨_, rfl⟩
  have ed : (d : Int) + 1 = (d1 : Int) := by omega
  have hdb : d1 ≤ 1000001 := by omega
  rw [← hd1] at HU ⊢
  obtain ⟨n, hn⟩ : ∃ n, n = L.length := ⟨_, rfl⟩
  have HN := Lib.hid hn
  rw [← hn] at c1
  have d0 : ((d : Int) == (n : Int)) = false := by simp; omega
  clear q o hA hm h hd hl hd1 hn
  go_enter Try.func36, Try.ntmps36
  go_upto_region 1 with fail
  go_quiet (fail)
  go_upto_region 4 with (refine at_cell rfl 3 _ _ rfl g 2 (.int .i64 (d1 : Int)) rfl rfl 63 (rf most A L.length c d p a) HQ.out (show 2 < 5 by omega) info3s rfl ?_; intro w2 u2)
  rw [rf_set2] at u2
  have HF := Lib.hid (HU.out _ w2 u2)
  clear u2 c2 c1
  go_wp2
  go_ret
  exact ⟨rfl, HF.out.2, HF.out.1⟩
set_option maxHeartbeats 400000 in
theorem rDeliverNo (w : World) (P : Nat → Prop) (g most : Nat) (L : List (List Nat)) (d p a : Nat) (h : RQ w P g most L d p a) (hd : d = L.length) :
    Calls Try.prog 36 #[.pointer (some ⟨g, 0, none⟩)] w fun e w' => e = .returned (.int .i64 9) ∧ Below w.heap.size w w' := by
  obtain ⟨A, c, hs, q, o, hA, hm⟩ := h.blk
  have c1 : w.cell? ⟨g, 1, none⟩ = some (.slice A d c) := by rw [hd]; exact (q.cell 1).trans rfl
  have c2 : w.cell? ⟨g, 2, none⟩ = some (.int .i64 (d : Int)) := (q.cell 2).trans rfl
  clear q o hA hm h hd
  go_enter Try.func36, Try.ntmps36
  go_upto_region 1 with fail
  go_quiet (fail)
  go_wp2
  go_ret
  exact ⟨rfl, below_drawn _⟩
set_option maxHeartbeats 1000000 in
theorem rPoll (w : World) (P : Nat → Prop) (g most : Nat) (L : List (List Nat)) (d p a : Nat) (h : RQ w P g most L d p a) (hp : p < d) (hd : d ≤ L.length) (hl : L.length ≤ 1000000) :
    Calls Try.prog 37 #[.pointer (some ⟨g, 0, none⟩)] w fun e w' => Kr w w' P ∧ RQ w' P g most L d (p + 1) a ∧ ∃ B c, e = .returned (.tuple #[.slice B (L.getD p []).length c, .bool true]) ∧ Own w' 0 5 B (L.getD p []).length c (U8 (L.getD p [])) := by
  obtain ⟨A, c, hs, q, o, hA, hm⟩ := h.blk
  have c2 : w.cell? ⟨g, 2, none⟩ = some (.int .i64 (d : Int)) := (q.cell 2).trans rfl
  have c3 : w.cell? ⟨g, 3, none⟩ = some (.int .i64 (p : Int)) := (q.cell 3).trans rfl
  have HU := Lib.hid (fun (j : Nat) (w2 : World) (u : Upd (w.drewN j) w2 g 63 (rf most A L.length c d (p + 1) a)) => rq_upd (w0 := w.drewN j) o q hA hm h.mine h.lt ⟨rfl, rfl, rfl, rfl⟩ u)
  have HQ := Lib.hid q
  obtain ⟨b, off, hAe, kx⟩ := o.get_ p (by omega)
  obtain ⟨B, cB, hx, ob, hB⟩ := (hm p (by omega)).at_
  rw [hx] at kx
  have HG : Hid (∀ (j : Nat) (w2 : World), Upd (w.drewN j) w2 g 63 (rf most A L.length c d (p + 1) a) → w2.cell? ⟨b, off + p, none⟩ = some (.slice B (L.getD p []).length cB) ∧ Own w2 0 5 B (L.getD p []).length cB (U8 (L.getD p []))) := fun j w2 u => by
    refine ⟨(World.cell?_of_block (w := w.drewN j) (a := ⟨b, off + p, none⟩) (u.oth b (fun e => o.ne_blk q (by decide) (by rw [hAe, ← e]; rfl)))).trans kx, ob.heap (fun k hk => u.oth k (fun e => ob.ne_blk q (by decide) (by rw [← e]; exact hk)))⟩
  obtain ⟨p1, hp1⟩ : ∃ x, x = p + 1 := ⟨_, rfl⟩
  have ep : (p : Int) + 1 = (p1 : Int) := by omega
  have em : (p1 : Int) - 1 = (p : Int) := by omega
  have hpb : p1 ≤ 1000001 := by omega
  have hpb0 : p ≤ 1000000 := by omega
  have wm : IntKind.i64.wrap (p : Int) = (p : Int) := IntWalk.i64_in _ (by omega)
  rw [← hp1] at HU HG ⊢
  obtain ⟨n, hn⟩ : ∃ n, n = L.length := ⟨_, rfl⟩
  have HN := Lib.hid hn
  have hpn : (p : Int) < (n : Int) := by omega
  have d0 : ((p : Int) == (d : Int)) = false := by simp; omega
  obtain ⟨m, hm'⟩ : ∃ m, m = L.getD p [] := ⟨_, rfl⟩
  rw [← hm'] at HG ⊢
  clear q o hA hm h hd hl hp1 hn hp hx ob hB kx hm'
  subst hAe
  go_enter Try.func37, Try.ntmps37
  go_upto_region 1 with fail
  go_quiet (fail)
  go_upto_region 4 with (refine at_cell rfl 3 _ _ rfl g 3 (.int .i64 (p1 : Int)) rfl rfl 63 (rf most (some ⟨b, off, none⟩) L.length c d p a) HQ.out (show 3 < 5 by omega) info3s rfl ?_; intro w2 u2)
  rw [rf_set3] at u2
  have HF := Lib.hid (HU.out _ w2 u2)
  have HG2 := Lib.hid (HG.out _ w2 u2)
  have c1 : w2.cell? ⟨g, 1, none⟩ = some (.slice (some ⟨b, off, none⟩) n c) := by rw [HN.out]; exact (u2.row.cell 1).trans rfl
  have c3' : w2.cell? ⟨g, 3, none⟩ = some (.int .i64 (p1 : Int)) := (u2.row.cell 3).trans rfl
  have kx := HG2.out.1
  clear u2 c2 c3
  go_quiet (fail)
  go_wp2
  go_ret2
  exact ⟨HF.out.2.drawn_, HF.out.1.after (below_drawn _), B, cB, rfl, HG2.out.2.heap (fun k hk => rfl)⟩
set_option maxHeartbeats 400000 in
theorem rPollNo (w : World) (P : Nat → Prop) (g most : Nat) (L : List (List Nat)) (d a : Nat) (h : RQ w P g most L d d a) :
    Calls Try.prog 37 #[.pointer (some ⟨g, 0, none⟩)] w fun e w' => e = .returned (.tuple #[.slice none 0 0, .bool false]) ∧ Below w.heap.size w w' := by
  obtain ⟨A, c, hs, q, o, hA, hm⟩ := h.blk
  have c2 : w.cell? ⟨g, 2, none⟩ = some (.int .i64 (d : Int)) := (q.cell 2).trans rfl
  have c3 : w.cell? ⟨g, 3, none⟩ = some (.int .i64 (d : Int)) := (q.cell 3).trans rfl
  clear q o hA hm h
  go_enter Try.func37, Try.ntmps37
  go_upto_region 1 with fail
  go_quiet (fail)
  go_wp2
  go_ret2
  exact ⟨rfl, below_drawn _⟩
set_option maxHeartbeats 400000 in
theorem rAckArg (w : World) (g : Nat) (x : Int) (hx : x < 0) : Calls Try.prog 38 #[.pointer (some ⟨g, 0, none⟩), .int .i64 x] w fun e w' => e = .returned (.int .i64 1) ∧ w = w' := by
  go_enter Try.func38, Try.ntmps38
  go_wp2
  go_ret
  exact ⟨rfl, rfl⟩
set_option maxHeartbeats 1000000 in
theorem rAck (w : World) (P : Nat → Prop) (g most : Nat) (L : List (List Nat)) (d p a x : Nat) (h : RQ w P g most L d p a) (hd : d ≤ 1000000) (hx : a + x ≤ d) :
    Calls Try.prog 38 #[.pointer (some ⟨g, 0, none⟩), .int .i64 (x : Int)] w fun e w' => e = .returned (.int .i64 0) ∧ Kr w w' P ∧ RQ w' P g most L d p (a + x) := by
  obtain ⟨A, c, hs, q, o, hA, hm⟩ := h.blk
  have c2 : w.cell? ⟨g, 2, none⟩ = some (.int .i64 (d : Int)) := (q.cell 2).trans rfl
  have c4 : w.cell? ⟨g, 4, none⟩ = some (.int .i64 (a : Int)) := (q.cell 4).trans rfl
  have HU := Lib.hid (fun (j : Nat) (w2 : World) (u : Upd (w.drewN j) w2 g 63 (rf most A L.length c d p (a + x))) => rq_upd (w0 := w.drewN j) o q hA hm h.mine h.lt ⟨rfl, rfl, rfl, rfl⟩ u)
  have HQ := Lib.hid q
  obtain ⟨a1, ha1⟩ : ∃ y, y = a + x := ⟨_, rfl⟩
  have ea : (a : Int) + (x : Int) = (a1 : Int) := by omega
  have hab : a1 ≤ 1000000 := by omega
  rw [← ha1] at HU ⊢
  obtain ⟨df, hdf⟩ : ∃ y, y = d - a := ⟨_, rfl⟩
  have e1 : (d : Int) - (a : Int) = (df : Int) := by omega
  have hdfb : df ≤ 1000000 := by omega
  have w1 : IntKind.i64.wrap ((d : Int) - (a : Int)) = (df : Int) := by rw [e1]; exact IntWalk.i64_in _ (by omega)
  have d0 : decide ((x : Int) < 0) = false := by simp
  have d1 : decide ((x : Int) > (df : Int)) = false := by simp; omega
  have d1' : decide ((df : Int) < (x : Int)) = false := by simp; omega
  have d1'' : decide (df < x) = false := by simp; omega
  have d1n : ¬ df < x := by omega
  clear q o hA hm h hd ha1 hdf hx
  go_enter Try.func38, Try.ntmps38
  go_upto_region 3 with fail
  go_quiet (fail)
  go_upto_region 6 with (refine at_cell rfl 3 _ _ rfl g 4 (.int .i64 (a1 : Int)) rfl rfl 63 (rf most A L.length c d p a) HQ.out (show 4 < 5 by omega) info3s rfl ?_; intro w2 u2)
  rw [rf_set4] at u2
  have HF := Lib.hid (HU.out _ w2 u2)
  clear u2 c2 c4
  go_wp2
  go_ret
  exact ⟨rfl, HF.out.2, HF.out.1⟩
set_option maxHeartbeats 400000 in
theorem rAckMiss (w : World) (P : Nat → Prop) (g most : Nat) (L : List (List Nat)) (d p a : Nat) (x : Int) (h : RQ w P g most L d p a) (hd : d ≤ 1000000) (ha : a ≤ d) (hx0 : 0 ≤ x) (hx : (d : Int) < a + x) :
    Calls Try.prog 38 #[.pointer (some ⟨g, 0, none⟩), .int .i64 x] w fun e w' => e = .returned (.int .i64 9) ∧ Below w.heap.size w w' := by
  obtain ⟨A, c, hs, q, o, hA, hm⟩ := h.blk
  have c2 : w.cell? ⟨g, 2, none⟩ = some (.int .i64 (d : Int)) := (q.cell 2).trans rfl
  have c4 : w.cell? ⟨g, 4, none⟩ = some (.int .i64 (a : Int)) := (q.cell 4).trans rfl
  obtain ⟨df, hdf⟩ : ∃ y, y = d - a := ⟨_, rfl⟩
  have e1 : (d : Int) - (a : Int) = (df : Int) := by omega
  have hdfb : df ≤ 1000000 := by omega
  have w1 : IntKind.i64.wrap ((d : Int) - (a : Int)) = (df : Int) := by rw [e1]; exact IntWalk.i64_in _ (by omega)
  have d0 : decide (x < 0) = false := by simp; omega
  have d1 : decide (x > (df : Int)) = true := by simp; omega
  have d1' : decide ((df : Int) < x) = true := by simp; omega
  have d1n : (df : Int) < x := by omega
  clear q o hA hm h hd hdf hx ha
  go_enter Try.func38, Try.ntmps38
  go_upto_region 3 with fail
  go_quiet (fail)
  go_wp2
  go_ret
  exact ⟨rfl, below_drawn _⟩
set_option maxHeartbeats 400000 in
theorem rSendLong (w : World) (g : Nat) (A : Option Addr) (n c : Nat) (hn : 64 < n) : Calls Try.prog 35 #[.pointer (some ⟨g, 0, none⟩), .slice A n c] w fun e w' => e = .returned (.int .i64 7) ∧ w = w' := by
  have d1 : decide ((n : Int) > 64) = true := by simp; omega
  have d1' : decide ((64 : Int) < (n : Int)) = true := by simp; omega
  go_enter Try.func35, Try.ntmps35
  go_wp2
  go_ret
  exact ⟨rfl, rfl⟩
set_option maxHeartbeats 400000 in
theorem rSendFull (w : World) (P : Nat → Prop) (g most : Nat) (L : List (List Nat)) (d p a : Nat) (A : Option Addr) (n c : Nat) (h : RQ w P g most L d p a) (hn : n ≤ 64) (ha : a ≤ L.length) (hl : L.length ≤ 1000000) (hk : most ≤ L.length - a) :
    Calls Try.prog 35 #[.pointer (some ⟨g, 0, none⟩), .slice A n c] w fun e w' => e = .returned (.int .i64 8) ∧ Below w.heap.size w w' := by
  obtain ⟨AL, cL, hs, q, o, hA, hm⟩ := h.blk
  have c0 : w.cell? ⟨g, 0, none⟩ = some (.int .i64 (most : Int)) := (q.cell 0).trans rfl
  have c1 : w.cell? ⟨g, 1, none⟩ = some (.slice AL L.length cL) := (q.cell 1).trans rfl
  have c4 : w.cell? ⟨g, 4, none⟩ = some (.int .i64 (a : Int)) := (q.cell 4).trans rfl
  have d1 : decide ((n : Int) > 64) = false := by simp; omega
  have d1' : decide ((64 : Int) < (n : Int)) = false := by simp; omega
  generalize L.length = nl at *
  obtain ⟨df, hdf⟩ : ∃ y, y = nl - a := ⟨_, rfl⟩
  have e1 : (nl : Int) - (a : Int) = (df : Int) := by omega
  have hdfb : df ≤ 1000000 := by omega
  have w1 : IntKind.i64.wrap ((nl : Int) - (a : Int)) = (df : Int) := by rw [e1]; exact IntWalk.i64_in _ (by omega)
  have d2 : decide ((df : Int) ≥ (most : Int)) = true := by simp; omega
  have d2' : decide ((most : Int) ≤ (df : Int)) = true := by simp; omega
  have d2'' : decide (most ≤ df) = true := by simp; omega
  have d2n : most ≤ df := by omega
  clear q o hA hm h ha hl hk hdf
  go_enter Try.func35, Try.ntmps35
  go_upto_region 3 with fail
  go_quiet (fail)
  go_wp2
  go_ret
  exact ⟨rfl, below_drawn _⟩
end Go.Proofs.Ytoiibjblaafgpaa
