/-
  Layer 2: Put, Bytes; Of, Take, Pad; the reference's Put.
-/
import Derived.Test.YtkmacepodomdmaaDoorXa
import Derived.Deep.RegionHeld3
import Derived.Deep.RegionLaw
import Derived.Deep.DrawnRows
namespace Go.Proofs.YtkmacepodomdmaaDoor
open Go.RowKit
set_option maxRecDepth 100000
set_option linter.unusedVariables false
set_option linter.unusedSimpArgs false

theorem bit_64 (a k : Nat) (ha : a < 18446744073709551616) : bits BinOp.and IntKind.u64 ((a : Int) / 2 ^ k) 1 = ((a / 2 ^ k % 2 : Nat) : Int) := by
  have e : ((a : Int) / 2 ^ k) = ((a / 2 ^ k : Nat) : Int) := by simp
  have hle : a / 2 ^ k ≤ a := Nat.div_le_self _ _
  rw [e, show (1 : Int) = ((1 : Nat) : Int) from rfl, u64_and_nat _ _ (by omega) (by omega), nat_mask1]
/-- The first j of a number's bits, the highest of 'width' first. -/
def pre (n width : Nat) : Nat → List Nat
  | 0 => []
  | j + 1 => pre n width j ++ [n / 2 ^ (width - 1 - j) % 2]
theorem pre_length (n width : Nat) : ∀ j, (pre n width j).length = j
  | 0 => rfl
  | j + 1 => by simp [pre, pre_length n width j]
theorem pre_bit (n width : Nat) : ∀ j, ∀ x ∈ pre n width j, x ≤ 1
  | 0, x, h => by simp [pre] at h
  | j + 1, x, h => by
    simp only [pre, List.mem_append, List.mem_cons, List.not_mem_nil, or_false] at h
    rcases h with h | h
    · exact pre_bit n width j x h
    · omega
/-- Nothing that was there has changed, but block g and the row. -/
structure Fr (w w' : World) (g : Nat) (row : Option Nat) : Prop where
  os : w'.os = w.os
  tape : w'.tape = w.tape
  output : w'.output = w.output
  size : w.heap.size ≤ w'.heap.size
  block : ∀ k, k < w.heap.size → k ≠ g → some k ≠ row → w'.heap[k]? = w.heap[k]?
theorem Fr.refl (w : World) (g : Nat) (row : Option Nat) : Fr w w g row := ⟨rfl, rfl, rfl, Nat.le_refl _, fun _ _ _ _ => rfl⟩
/-- The object at block g, one cell of type t, that holds a slice. -/
def Box (w : World) (t : TypeId) (g : Nat) (A : Option Addr) (n c : Nat) : Prop := w.heap[g]? = some (.cells #[.slice A n c] t (0, 0))
theorem Box.lt {w : World} {t : TypeId} {g : Nat} {A : Option Addr} {n c : Nat} (h : Box w t g A n c) : g < w.heap.size := by
  unfold Box at h
  exact (Array.getElem?_eq_some_iff.1 h).1
theorem Box.cell {w : World} {t : TypeId} {g : Nat} {A : Option Addr} {n c : Nat} (h : Box w t g A n c) : w.cell? ⟨g, 0, none⟩ = some (.slice A n c) := by
  rw [cell_of_row w g 0 _ t (0, 0) h]; rfl
theorem Box.frozen {w : World} {t : TypeId} {g : Nat} {A : Option Addr} {n c : Nat} (h : Box w t g A n c) : w.frozen? ⟨g, 0, none⟩ = false := frozen_of_row w g 0 _ t h
theorem Box.set {w : World} {t : TypeId} {g : Nat} {A A' : Option Addr} {n c n' c' : Nat} (h : Box w t g A n c) : Box (w.setCell ⟨g, 0, none⟩ (.slice A' n' c')) t g A' n' c' := by
  unfold Box at *
  simp [World.setCell, Array.getElem?_modify, h]
theorem Box.keep {w w' : World} {t : TypeId} {g : Nat} {A : Option Addr} {n c : Nat} (h : Box w t g A n c) (hb : w'.heap[g]? = w.heap[g]?) : Box w' t g A n c := hb.trans h
theorem Own.ne_box {w : World} {base : Nat} {e t : TypeId} {A A' : Option Addr} {n c n' c' g : Nat} {xs : List Value} (h : Own w base e A n c xs) (hb : Box w t g A' n' c') (hne : e ≠ t) : (Value.slice A n c).ownBlock ≠ some g := by
  rcases h.row.2 with ⟨hv, _⟩ | ⟨g', cap, cur, hv, _, hh, _⟩
  · injection hv with h1 _ _
    subst h1; simp [Value.ownBlock]
  · injection hv with h1 _ _
    subst h1
    intro he
    have : g' = g := by simpa [Value.ownBlock] using he
    subst this
    unfold Box at hb
    rw [hb] at hh
    injection hh with hh
    injection hh with _ ht
    exact hne ht.symm
theorem Own.keep {w w' : World} {base : Nat} {e : TypeId} {A : Option Addr} {n c : Nat} {xs : List Value} (h : Own w base e A n c xs) (hb : ∀ k, (Value.slice A n c).ownBlock = some k → w'.heap[k]? = w.heap[k]?) : Own w' base e A n c xs := by
  refine ⟨h.row.1, ?_⟩
  rcases h.row.2 with h1 | ⟨g, cap, cur, hv, hbg, hg, rest⟩
  · exact .inl h1
  · refine .inr ⟨g, cap, cur, hv, hbg, ?_, rest⟩
    rw [hb g (by rw [hv]; rfl)]
    exact hg
/-- A Writer: its object and its row. -/
structure Wr (w : World) (base g : Nat) (A : Option Addr) (n c : Nat) (bs : List Nat) : Prop where
  box : Box w 120 g A n c
  own : Own w base 5 A n c (U8 bs)
/-- One bit more in the row, and the row anew in the object. -/
theorem put_step {w wr w3 : World} {base g : Nat} {A1 A3 : Option Addr} {n1 c1 c3 : Nat} {bs bs3 : List Nat} {row : Option Nat} (hwr : Wr wr base g A1 n1 c1 bs) (hfr : Fr w wr g row)
    (hrw : (Value.slice A1 n1 c1).ownBlock = row ∨ ∃ j, (Value.slice A1 n1 c1).ownBlock = some j ∧ w.heap.size ≤ j)
    (hown3 : Own w3 base 5 A3 (n1 + 1) c3 (U8 bs3)) (hgrow : wr.drew.grownBy w3 (Value.slice A1 n1 c1).ownBlock)
    (hat : (Value.slice A3 (n1 + 1) c3).ownBlock = (Value.slice A1 n1 c1).ownBlock ∨ (Value.slice A3 (n1 + 1) c3).ownBlock = some (wr.drew.heap.size + 1)) :
    Wr (w3.setCell ⟨g, 0, none⟩ (.slice A3 (n1 + 1) c3)) base g A3 (n1 + 1) c3 bs3 ∧ Fr w (w3.setCell ⟨g, 0, none⟩ (.slice A3 (n1 + 1) c3)) g row ∧
      ((Value.slice A3 (n1 + 1) c3).ownBlock = row ∨ ∃ j, (Value.slice A3 (n1 + 1) c3).ownBlock = some j ∧ w.heap.size ≤ j) := by
  have hne := hwr.own.ne_box hwr.box (by decide)
  have hb3 : w3.heap[g]? = wr.heap[g]? := hgrow.block g hwr.box.lt (Ne.symm hne)
  have box3 := hwr.box.keep hb3
  have hne3 := hown3.ne_box box3 (by decide)
  refine ⟨⟨box3.set, hown3.keep fun k hk => Below.heap_setCell _ _ _ _ (by rintro rfl; exact hne3 hk)⟩, ?_, ?_⟩
  · refine ⟨hgrow.os.trans hfr.os, hgrow.tape.trans hfr.tape, hgrow.output.trans hfr.output, Nat.le_trans hfr.size (by simpa [World.setCell] using hgrow.size), fun k hk hkg hkr => ?_⟩
    rw [Below.heap_setCell _ _ _ _ hkg, ← hfr.block k hk hkg hkr]
    refine hgrow.block k (Nat.lt_of_lt_of_le hk hfr.size) ?_
    rcases hrw with e | ⟨j, e, hj⟩
    · rw [e]; exact hkr
    · rw [e]; intro h; injection h with h; omega
  · rcases hat with e | e
    · rw [e]; exact hrw
    · exact .inr ⟨_, e, Nat.le_trans hfr.size (Nat.le_succ _)⟩

set_option maxHeartbeats 400000 in
theorem isWidthYes (x : Int) (w : World) (h1 : 1 ≤ x) (h2 : x ≤ 32) : Calls Tryd.prog 116 #[.int .i64 x] w fun e w' => e = .returned (.bool true) ∧ w = w' := by
  have t1 : decide (1 ≤ x) = true := by simp [h1]
  have t2 : decide (x ≤ 32) = true := by simp [h2]
  go_enter Tryd.func116, Tryd.ntmps116
  go_wp2
  go_ret
  exact ⟨rfl, rfl⟩
/-- What Put leaves. -/
def PutOk (w : World) (base g : Nat) (row : Option Nat) (k : Nat) (bs : List Nat) (e : Ending) (w' : World) : Prop :=
  e = .returned (.int .i64 0) ∧ ∃ A n c, Wr w' base g A n c bs ∧ n = k ∧ Fr w w' g row ∧ ((Value.slice A n c).ownBlock = row ∨ ∃ j, (Value.slice A n c).ownBlock = some j ∧ w.heap.size ≤ j)
theorem wrap_bit (x : Nat) (h : x < 2) : IntKind.u8.wrap (x : Int) = (x : Int) := IntWalk.u8_in _ (by omega)
set_option maxHeartbeats 2000000 in
/-- Put. -/
theorem putOk (base g : Nat) (A : Option Addr) (n c : Nat) (bs : List Nat) (N wd : Nat) (w : World) (hw : Wr w base g A n c bs) (hbase : base ≤ w.heap.size) (h1 : 1 ≤ wd) (h2 : wd ≤ 32) (hN : N < 2 ^ wd) (hn : n ≤ 65536) :
    Calls Tryd.prog 71 #[.pointer (some ⟨g, 0, none⟩), .int .i64 (N : Int), .int .i64 (wd : Int)] w (PutOk w base g (Value.slice A n c).ownBlock (n + wd) (bs ++ pre N wd wd)) := by
  have C := Lib.hid (fun w => isWidthYes (wd : Int) w (by omega) (by omega))
  have hp : 2 ^ wd ≤ 2 ^ 32 := Nat.pow_le_pow_right (by decide) h2
  have hN2 : N < 4294967296 := by omega
  have t1 : decide ((N : Int) < 0) = false := by simp
  have t2 : ((N : Int) / 2 ^ wd != 0) = false := by
    have e : ((N : Int) / 2 ^ wd) = ((N / 2 ^ wd : Nat) : Int) := by simp
    rw [e, Nat.div_eq_of_lt hN]; simp
  obtain ⟨row, hrow⟩ : ∃ row, row = (Value.slice A n c).ownBlock := ⟨_, rfl⟩
  rw [← hrow]
  have HROW := Lib.hid hrow
  clear hp hN hrow
  go_enter Tryd.func71, Tryd.ntmps71
  go_wp2_with (go_at_call 116; refine (C.out _).mono ?_; rintro e w' ⟨rfl, rfl⟩)
  go_loopw [7] (fun i wr => ∃ m : Nat, m ≤ wd ∧ i = .int .i64 ((m : Int) - 1) ∧ ∃ A1 n1 c1, Wr wr base g A1 n1 c1 (bs ++ pre N wd (wd - m)) ∧ n1 = n + (wd - m) ∧ Fr w wr g row ∧ ((Value.slice A1 n1 c1).ownBlock = row ∨ ∃ j, (Value.slice A1 n1 c1).ownBlock = some j ∧ w.heap.size ≤ j)) (fun i _ => (intOf i + 1).toNat)
  case atStart => exact ⟨wd, Nat.le_refl _, rfl, A, n, c, by rw [Nat.sub_self]; simpa [pre] using hw, by omega, Fr.refl _ _ _, .inl HROW.out.symm⟩
  case round =>
    obtain ⟨m, hm, rfl, A1, n1, c1, hwr, hn1, hfr, hrw⟩ := hrel
    have HN1 := Lib.hid hn1
    cases m with
    | zero =>
      go_wp2
      go_ret
      exact ⟨rfl, A1, n1, c1, by rw [Nat.sub_zero] at hwr; exact hwr, by have := HN1.out; omega, hfr, hrw⟩
    | succ p =>
      have hp : ((p + 1 : Nat) : Int) - 1 = (p : Int) := by omega
      rw [hp]
      clear hp
      have hn2 : n1 ≤ 65600 := by omega
      have e1 := bit_64 N p (by omega)
      have hx : N / 2 ^ p % 2 < 2 := Nat.mod_lt _ (by omega)
      obtain ⟨x, hxe⟩ : ∃ x, x = N / 2 ^ p % 2 := ⟨_, rfl⟩
      rw [← hxe] at e1 hx
      have HX := Lib.hid hxe
      have e2 := wrap_bit x hx
      have e0 : IntKind.u64.wrap (N : Int) = (N : Int) := IntWalk.u64_in _ (by omega)
      have hcell := hwr.box.cell
      have hfz := hwr.box.frozen
      have hglt := hwr.box.lt
      have hne := hwr.own.ne_box hwr.box (by decide)
      have hsz := hfr.size
      clear hxe hn1
      go_wp2_with fail
      have ownd : Own wr.drew base 5 A1 n1 c1 (U8 (bs ++ pre N wd (wd - (p + 1)))) := ⟨hwr.own.row.drew⟩
      have hcell2 : ∀ o, (wr.alloc o).cell? ⟨g, 0, none⟩ = some (.slice A1 n1 c1) := fun o => (World.cell?_alloc_lt wr o ⟨g, 0, none⟩ hglt).trans hcell
      go_region_law ((refine step_app8 wr.drew (by rfl) _ _ (by rfl) base A1 n1 c1 _ x _ (by first | rfl | omega) (by rfl) ownd (by rfl) (by omega) (by simp; omega) ?_; intro A3 c3 w3 hown3 hgrow hat; have hb3 := hgrow.block g hglt (Ne.symm hne); have hcell3 := (World.cell?_of_block (w := wr) (a := ⟨g, 0, none⟩) hb3).trans hcell; have hfz3 := (World.frozen?_of_block (w := wr) (a := ⟨g, 0, none⟩) hb3).trans hfz; clear hb3))
      all_goals
        go_wp2
        obtain ⟨q1, q2, q3⟩ := put_step hwr hfr hrw hown3 hgrow hat
        go_roundw
        case rel =>
          refine ⟨p, by omega, by go_num, A3, n1 + 1, c3, ?_, by have := HN1.out; omega, q2, q3⟩
          rw [show wd - p = wd - (p + 1) + 1 by omega, pre, ← List.append_assoc, show wd - 1 - (wd - (p + 1)) = p by omega, ← HX.out]
          exact q1
        case measure => simp [intOf] <;> omega
theorem Fr.below {w w' : World} {g base : Nat} {row : Option Nat} (h : Fr w w' g row) (hg : base ≤ g) (hr : ∀ k, row = some k → base ≤ k) (hb : base ≤ w.heap.size) : Below base w w' :=
  ⟨h.os, h.tape, h.output, h.size, fun k hk => h.block k (by omega) (by omega) (fun e => by have := hr k e.symm; omega)⟩
set_option maxHeartbeats 400000 in
/-- Writer.Bytes. -/
theorem wbytes (base g : Nat) (A : Option Addr) (n c : Nat) (bs : List Nat) (w : World) (hw : Wr w base g A n c bs) (hb : ∀ b ∈ bs, b ≤ 1) (hn : n ≤ 65536) :
    Calls Tryd.prog 74 #[.pointer (some ⟨g, 0, none⟩)] w (Made w (Bm.toBytes bs)) := by
  have hcell := hw.box.cell
  have C := Lib.hid (bytesYes A n c bs w (hw.own.rdOf (Below.refl _ _)) hb hn)
  go_enter Tryd.func74, Tryd.ntmps74
  go_wp2_with fail
  refine C.out.mono ?_
  rintro e w' ⟨A', n', c', rfl, ow, be⟩
  go_wp2_with fail
  go_ret
  exact ⟨A', n', c', rfl, ow, be⟩
/-- The number of bits, the highest first. -/
def num (l : List Nat) : Nat := l.foldl (fun n x => 2 * n + x) 0
theorem num_snoc (l : List Nat) (x : Nat) : num (l ++ [x]) = 2 * num l + x := by simp [num]
theorem num_lt (l : List Nat) (h : ∀ x ∈ l, x ≤ 1) : num l < 2 ^ l.length := by
  suffices hh : ∀ (l : List Nat) (n k : Nat), (∀ x ∈ l, x ≤ 1) → n < 2 ^ k → l.foldl (fun n x => 2 * n + x) n < 2 ^ (k + l.length) by
    have := hh l 0 0 h (by simp)
    simpa [num] using this
  intro l
  induction l with
  | nil => intro n k _ h; exact h
  | cons x l ih =>
    intro n k hx hn
    have h1 := hx x (by simp)
    have := ih (2 * n + x) (k + 1) (fun y hy => hx y (by simp [hy])) (by rw [Nat.pow_succ]; omega)
    rw [List.foldl_cons, List.length_cons, show k + (l.length + 1) = k + 1 + l.length by omega]
    exact this
theorem or_i64 (r c : Nat) (hr : 2 * r + c < 9223372036854775808) (hc : c ≤ 1) : bits BinOp.or IntKind.i64 ((r : Int) * 2) (c : Int) = ((2 * r + c : Nat) : Int) := by
  have e : ∀ a : Nat, a < 9223372036854775808 → (BitVec.ofInt 64 (a : Int)).toNat = a := fun a ha => by
    rw [BitVec.ofInt_natCast, BitVec.toNat_ofNat]; exact Nat.mod_eq_of_lt (by omega)
  have hj := nat_join 1 (2 * r) c (by omega) (by omega)
  rw [show ((r : Int) * 2) = ((2 * r : Nat) : Int) by omega]
  show IntKind.i64.wrap ((BitVec.ofInt 64 ((2 * r : Nat) : Int) ||| BitVec.ofInt 64 (c : Int)).toNat : Int) = _
  rw [BitVec.toNat_or, e _ (by omega), e _ (by omega), hj, IntKind.wrap_i64]
  omega
theorem ret2i {k k' : IntKind} {x y z : Int} (h : x = y) : Ending.returned (.tuple #[.int k x, .int k' z]) = .returned (.tuple #[.int k y, .int k' z]) := by rw [h]
theorem fr_set (w : World) (g : Nat) (v : Value) : Fr w (w.setCell ⟨g, 0, none⟩ v) g none := ⟨rfl, rfl, rfl, by simp [World.setCell], fun k _ hk _ => Below.heap_setCell _ _ _ _ hk⟩
set_option maxHeartbeats 400000 in
theorem takeShort (g : Nat) (A : Option Addr) (n c wd : Nat) (w : World) (hb : Box w 183 g A n c) (h1 : 1 ≤ wd) (h2 : wd ≤ 32) (h : n < wd) : Calls Tryd.prog 119 #[.pointer (some ⟨g, 0, none⟩), .int .i64 (wd : Int)] w fun e w' => e = .returned (.tuple #[.int .i64 0, .int .i64 2]) ∧ w = w' := by
  have C := Lib.hid (fun w => isWidthYes (wd : Int) w (by omega) (by omega))
  have hcell := hb.cell
  go_enter Tryd.func119, Tryd.ntmps119
  go_wp2_with (go_at_call 116; refine (C.out _).mono ?_; rintro e w' ⟨rfl, rfl⟩)
  go_ret2
  exact ⟨rfl, rfl⟩
set_option maxHeartbeats 1000000 in
/-- Take. -/
theorem takeOk (g b off n c wd : Nat) (bs : List Nat) (w : World) (hb : Box w 183 g (some ⟨b, off, none⟩) n c) (hr : Rd w w.heap.size (some ⟨b, off, none⟩) n (U8 bs)) (hbit : ∀ x ∈ bs, x ≤ 1) (hnc : n ≤ c) (hc : c ≤ 9223372036854775807) (h1 : 1 ≤ wd) (h2 : wd ≤ 32) (h : wd ≤ n) :
    Calls Tryd.prog 119 #[.pointer (some ⟨g, 0, none⟩), .int .i64 (wd : Int)] w fun e w' => e = .returned (.tuple #[.int .i64 (num (bs.take wd) : Nat), .int .i64 0]) ∧ Fr w w' g none ∧ Box w' 183 g (some (if c = wd then ⟨b, off, none⟩ else ⟨b, off + wd, none⟩)) (n - wd) (c - wd) := by
  have C := Lib.hid (fun w => isWidthYes (wd : Int) w (by omega) (by omega))
  have hcell := hb.cell
  have hfz := hb.frozen
  have HN := Lib.hid hr.len8
  go_enter Tryd.func119, Tryd.ntmps119
  go_wp2_with (go_at_call 116; refine (C.out _).mono ?_; rintro e w' ⟨rfl, rfl⟩)
  go_loop [6, 30] (fun s i => ∃ k y : Nat, k ≤ wd ∧ i = .int .i64 k ∧ s = .int .i64 (y : Int) ∧ y < 4294967296 ∧ Hid (y = num (bs.take k))) (fun _ i => wd - (intOf i).toNat)
  case atStart => exact ⟨0, 0, Nat.zero_le _, rfl, rfl, by omega, rfl⟩
  case round =>
    obtain ⟨k, y, hk, rfl, rfl, hy, HY⟩ := hrel
    by_cases hlt : k < wd
    · obtain ⟨b', off', hA, hlt2, hcell2⟩ := hr.cell8 k (by omega)
      injection hA with hA
      injection hA with hA1 hA2
      subst hA1 hA2
      have hkl : k < bs.length := by rw [← HN.out]; omega
      have hx := Bm.bit_le bs hbit k
      have hs : num (bs.take (k + 1)) = 2 * y + bs.getD k 0 := by rw [List.take_succ_eq_append_getElem hkl, num_snoc, ← HY.out, Bm.getD_lt _ _ _ hkl]
      have hl2 := num_lt (bs.take (k + 1)) (fun x h => hbit x (List.mem_of_mem_take h))
      rw [List.length_take] at hl2
      have hp : 2 ^ (min (k + 1) bs.length) ≤ 2 ^ 32 := Nat.pow_le_pow_right (by decide) (by omega)
      obtain ⟨x, hxe⟩ : ∃ x, x = bs.getD k 0 := ⟨_, rfl⟩
      rw [← hxe] at hcell2 hx hs
      have hy2 : 2 * y + x < 4294967296 := by omega
      have HS := Lib.hid hs
      have e1 := or_i64 y x (by omega) (by omega)
      clear hxe hs hl2 hp hkl
      go_wp2
      go_round
      case rel => exact ⟨k + 1, 2 * y + x, by omega, by go_num, by first | rfl | rw [e1], hy2, HS.out.symm⟩
      case measure => simp [intOf] <;> omega
    · have hkw : k = wd := by omega
      subst hkw
      clear hlt
      by_cases hcw : c = k
      · subst hcw
        go_wp2
        go_ret2
        exact ⟨ret2i (by rw [HY.out]), fr_set w g _, hb.set⟩
      · go_wp2
        go_ret2
        exact ⟨ret2i (by rw [HY.out]), fr_set w g _, hb.set⟩
/-- A slice of bytes doesn't lie in the object. -/
theorem Rd.keepFr {w w' : World} {t : TypeId} {g : Nat} {A A' : Option Addr} {n n' c' : Nat} {bs : List Nat} (h : Rd w w.heap.size A n (U8 bs)) (hb : Box w t g A' n' c') (hf : Fr w w' g none) : Rd w' w'.heap.size A n (U8 bs) := by
  refine ⟨h.len, fun hn => ?_⟩
  obtain ⟨b, off, e, hlt, hc⟩ := h.at_ hn
  have hl := h.len8
  have hne : b ≠ g := by
    rintro rfl
    have h0 := hc 0 _ (U8_get bs 0 (by omega))
    unfold Box at hb
    rw [Nat.add_zero, cell_of_row w b off _ t (0, 0) hb] at h0
    cases off with
    | zero => simp at h0
    | succ o => simp at h0
  exact ⟨b, off, e, Nat.lt_of_lt_of_le hlt hf.size, fun i u hu => (World.cell?_of_block (w := w) (a := ⟨b, off + i, none⟩) (hf.block b hlt hne (by simp))).trans (hc i u hu)⟩
theorem rd_drop {w : World} {B b off n c wd : Nat} {bs : List Nat} (h : Rd w B (some ⟨b, off, none⟩) n (U8 bs)) (hn : n ≤ c) (hw : wd ≤ n) : Rd w B (some (if c = wd then ⟨b, off, none⟩ else ⟨b, off + wd, none⟩)) (n - wd) (U8 (bs.drop wd)) := by
  have hl := h.len8
  refine ⟨by rw [U8_length, List.length_drop]; omega, fun hn0 => ?_⟩
  obtain ⟨b', off', e, hlt, hc⟩ := h.at_ (by omega)
  injection e with e
  injection e with e1 e2
  subst e1 e2
  rw [if_neg (by omega)]
  refine ⟨b, off + wd, rfl, hlt, fun i u hu => ?_⟩
  rw [Nat.add_assoc]
  refine hc (wd + i) u ?_
  unfold U8 at *
  rw [List.map_drop, List.getElem?_drop] at hu
  exact hu
/-- A Reader: its object, and what is left. -/
structure Rr (w : World) (g : Nat) (A : Option Addr) (n c : Nat) (bs : List Nat) : Prop where
  box : Box w 183 g A n c
  rd : Rd w w.heap.size A n (U8 bs)
  nc : n ≤ c
  cm : c ≤ 9223372036854775807
/-- What Take leaves. -/
def TakeOk (w : World) (g : Nat) (bs : List Nat) (wd : Nat) (e : Ending) (w' : World) : Prop :=
  e = .returned (.tuple #[.int .i64 (num (bs.take wd) : Nat), .int .i64 0]) ∧ Fr w w' g none ∧ ∃ A n c, Rr w' g A n c (bs.drop wd)
theorem takeC (g : Nat) (A : Option Addr) (n c wd : Nat) (bs : List Nat) (w : World) (hr : Rr w g A n c bs) (hbit : ∀ x ∈ bs, x ≤ 1) (h1 : 1 ≤ wd) (h2 : wd ≤ 32) (h : wd ≤ n) :
    Calls Tryd.prog 119 #[.pointer (some ⟨g, 0, none⟩), .int .i64 (wd : Int)] w (TakeOk w g bs wd) := by
  obtain ⟨b, off, rfl, _, _⟩ := hr.rd.at_ (by omega)
  refine (takeOk g b off n c wd bs w hr.box hr.rd hbit hr.nc hr.cm h1 h2 h).mono ?_
  rintro e w' ⟨he, hf, hb⟩
  have hc := hr.nc
  have hm := hr.cm
  exact ⟨he, hf, _, _, _, hb, rd_drop (hr.rd.keepFr hr.box hf) hr.nc h, by omega, by omega⟩
/-- What Pad answers. -/
def padE (bs : List Nat) : Nat := if 8 ≤ bs.length then 3 else if Bm.wt bs = 0 then 0 else 5
/-- What Pad leaves. -/
def PadOk (w : World) (g : Nat) (bs : List Nat) (e : Ending) (w' : World) : Prop :=
  e = .returned (.int .i64 (padE bs : Nat)) ∧ ∃ A n c ls, Fr w w' g none ∧ Rr w' g A n c ls ∧ (padE bs = 0 → ls = []) ∧ (padE bs ≠ 0 → ls = bs)
set_option maxHeartbeats 400000 in
/-- Pad. -/
theorem padC (g : Nat) (A : Option Addr) (n c : Nat) (bs : List Nat) (w : World) (hr : Rr w g A n c bs) (hbit : ∀ x ∈ bs, x ≤ 1) (hn : n ≤ 65536) : Calls Tryd.prog 82 #[.pointer (some ⟨g, 0, none⟩)] w (PadOk w g bs) := by
  have hcell := hr.box.cell
  have hfz := hr.box.frozen
  have hl := hr.rd.len8
  by_cases h8 : 8 ≤ n
  · have e : padE bs = 3 := by unfold padE; rw [if_pos (by omega)]
    have E := Lib.hid e
    clear hl e
    go_enter Tryd.func82, Tryd.ntmps82
    go_wp2
    go_ret
    exact ⟨ret_int' (by rw [E.out]; rfl), A, n, c, bs, Fr.refl _ _ _, hr, fun h => absurd h (by rw [E.out]; decide), fun _ => rfl⟩
  · have C := Lib.hid (weight A n c bs w hr.rd (bit256 hbit) (by omega))
    by_cases hw : Bm.wt bs = 0
    · have e : padE bs = 0 := by unfold padE; rw [if_neg (by omega), if_pos hw]
      rw [hw] at C
      have E := Lib.hid e
      clear hl e hw
      go_enter Tryd.func82, Tryd.ntmps82
      go_wp2_with (go_at_call 123; refine C.out.mono ?_; rintro e w' ⟨rfl, rfl⟩)
      go_ret
      exact ⟨ret_int' (by rw [E.out]; rfl), none, 0, 0, [], fr_set w g _, ⟨hr.box.set, ⟨rfl, fun h => absurd h (by omega)⟩, by omega, by omega⟩, fun _ => rfl, fun h => absurd E.out h⟩
    · have e : padE bs = 5 := by unfold padE; rw [if_neg (by omega), if_neg hw]
      have E := Lib.hid e
      have t1 : ((Bm.wt bs : Int) != 0) = true := by simp; omega
      generalize Bm.wt bs = q at *
      clear hl e hw
      go_enter Tryd.func82, Tryd.ntmps82
      go_wp2_with (go_at_call 123; refine C.out.mono ?_; rintro e w' ⟨rfl, rfl⟩)
      go_ret
      exact ⟨ret_int' (by rw [E.out]; rfl), A, n, c, bs, Fr.refl _ _ _, hr, fun h => absurd h (by rw [E.out]; decide), fun _ => rfl⟩
set_option maxHeartbeats 400000 in
/-- bitio.Of. -/
theorem bitioOf (A : Option Addr) (n c : Nat) (bs : List Nat) (w : World) (hr : Rd w w.heap.size A n (U8 bs)) (hb : ∀ b ∈ bs, b < 256) (hn : n ≤ 65536) :
    Calls Tryd.prog 78 #[.slice A n c] w fun e w' => ∃ w1 A1 n1 c1, e = .returned (.pointer (some ⟨w1.heap.size, 0, none⟩)) ∧ w' = w1.alloc (.cells #[.slice A1 n1 c1] 183) ∧ Own w1 w.heap.size 5 A1 n1 c1 (U8 (Bm.ofBytes bs)) ∧ Below w.heap.size w w1 := by
  have C := Lib.hid (bitsOf A n c bs w hr hb hn)
  go_enter Tryd.func78, Tryd.ntmps78
  go_wp2_with fail
  refine C.out.mono ?_
  rintro e w1 ⟨A1, n1, c1, rfl, ow, be⟩
  go_wp2_with fail
  go_ret
  exact ⟨w1, A1, n1, c1, rfl, rfl, ow, be⟩
theorem pow32 (wd : Nat) (h2 : wd ≤ 32) : ∃ P : Nat, P = 2 ^ wd ∧ (2 : Int) ^ wd = (P : Int) ∧ 0 < P ∧ P ≤ 4294967296 :=
  ⟨2 ^ wd, rfl, by simp, Nat.two_pow_pos _, Nat.pow_le_pow_right (n := 2) (j := 32) (by decide) h2⟩
theorem half_bit' (a k : Nat) : ((a : Int) / 2 ^ k) % 2 = ((a / 2 ^ k % 2 : Nat) : Int) := by simp
set_option maxHeartbeats 1000000 in
theorem refPutOk (N wd : Nat) (w : World) (h1 : 1 ≤ wd) (h2 : wd ≤ 32) (hN : N < 2 ^ wd) :
    Calls Tryd.prog 75 #[.int .i64 (N : Int), .int .i64 (wd : Int)] w fun e w' => ∃ A n c, e = .returned (.tuple #[.slice A n c, .int .i64 0]) ∧ Own w' w.heap.size 5 A n c (U8 (pre N wd wd)) ∧ Below w.heap.size w w' := by
  have t1 : decide ((wd : Int) < 1) = false := by simp; omega
  have t2 : decide (32 < (wd : Int)) = false := by simp; omega
  obtain ⟨P, hP, eP, hp1, hp2⟩ := pow32 wd h2
  rw [← hP] at hN
  have t3 : decide ((N : Int) < 0) = false := by simp
  have t4 : decide (P ≤ N) = false := by simp; omega
  have t5 : decide ((P : Int) ≤ (N : Int)) = false := by simp; omega
  clear hP
  go_enter Tryd.func75, Tryd.ntmps75
  go_wp2
  go_loopw [6, 7] (fun l i wr => ∃ m : Nat, m ≤ wd ∧ i = .int .i64 ((m : Int) - 1) ∧ ∃ A1 c1, l = .slice A1 (wd - m) c1 ∧ Own wr w.heap.size 5 A1 (wd - m) c1 (U8 (pre N wd (wd - m))) ∧ Below w.heap.size w wr) (fun _ i _ => (intOf i + 1).toNat)
  case atStart => exact ⟨wd, Nat.le_refl _, rfl, none, 0, slice_len (by omega), (Own.nil _ _ _).to (by omega) (by rw [Nat.sub_self]; rfl), Below.refl _ _⟩
  case round =>
    obtain ⟨m, hm, rfl, A1, c1, rfl, hown, hbel⟩ := hrel
    have hsz := hbel.size
    cases m with
    | zero =>
      go_wp2
      go_ret2
      exact ⟨A1, _, c1, rfl, hown, hbel⟩
    | succ p =>
      have hp : ((p + 1 : Nat) : Int) - 1 = (p : Int) := by omega
      rw [hp]
      clear hp
      have e1 := half_bit' N p
      have hx : N / 2 ^ p % 2 < 2 := Nat.mod_lt _ (by omega)
      have q1 : (0 : Int) ≤ (N : Int) / 2 ^ p := Int.ediv_nonneg (by omega) (Int.pow_nonneg (by decide))
      obtain ⟨x, hxe⟩ : ∃ x, x = N / 2 ^ p % 2 := ⟨_, rfl⟩
      rw [← hxe] at e1 hx
      have HX := Lib.hid hxe
      clear hxe
      go_wp2_with (at_builtin; refine app8 _ rfl _ _ rfl w.heap.size _ _ _ _ x _ (by first | rfl | omega) rfl hown rfl (by omega) hsz ?_; intro A3 c3 w3 hown3 hgrow3)
      go_roundw
      case rel =>
        refine ⟨p, by omega, by go_num, A3, c3, slice_len (by omega), ?_, hbel.grown hgrow3 hsz (fun j hj => (hown.block j hj).1)⟩
        refine hown3.to (by omega) ?_
        rw [show wd - p = wd - (p + 1) + 1 by omega, pre, show wd - 1 - (wd - (p + 1)) = p by omega, ← HX.out]
      case measure => simp [intOf] <;> omega
end Go.Proofs.YtkmacepodomdmaaDoor
