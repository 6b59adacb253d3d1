/-
  Contracts of layer 2's Reader and of the reference's Take and Pad.
-/
import Derived.Test.YtcddbcknjcedfaaWc
namespace Go.Proofs.Ytcddbcknjcedfaa
open Go.RowKit
set_option linter.unusedVariables false
set_option linter.unusedSimpArgs false

/-- The number of bits, the highest first. -/
def num (l : List Nat) : Nat := l.foldl (fun n x => 2 * n + x) 0
theorem num_snoc (l : List Nat) (x : Nat) : num (l ++ [x]) = 2 * num l + x := by simp [num]
theorem num_lt (l : List Nat) (h : ∀ x ∈ l, x ≤ 1) : num l < 2 ^ l.length := by
  suffices hh : ∀ (l : List Nat) (n k : Nat), (∀ x ∈ l, x ≤ 1) → n < 2 ^ k → l.foldl (fun n x => 2 * n + x) n < 2 ^ (k + l.length) by
    have := hh l 0 0 h (by simp)
    simpa [num] using this
  intro l
  induction l with
  | nil => intro n k _ h; exact h
  | cons x l ih =>
    intro n k hx hn
    have h1 := hx x (by simp)
    have := ih (2 * n + x) (k + 1) (fun y hy => hx y (by simp [hy])) (by rw [Nat.pow_succ]; omega)
    rw [List.foldl_cons, List.length_cons, show k + (l.length + 1) = k + 1 + l.length by omega]
    exact this

theorem or_i64 (r c : Nat) (hr : 2 * r + c < 9223372036854775808) (hc : c ≤ 1) : bits BinOp.or IntKind.i64 ((r : Int) * 2) (c : Int) = ((2 * r + c : Nat) : Int) := by
  have e : ∀ a : Nat, a < 9223372036854775808 → (BitVec.ofInt 64 (a : Int)).toNat = a := fun a ha => by
    rw [BitVec.ofInt_natCast, BitVec.toNat_ofNat]; exact Nat.mod_eq_of_lt (by omega)
  have hj := nat_join 1 (2 * r) c (by omega) (by omega)
  rw [show ((r : Int) * 2) = ((2 * r : Nat) : Int) by omega]
  show IntKind.i64.wrap ((BitVec.ofInt 64 ((2 * r : Nat) : Int) ||| BitVec.ofInt 64 (c : Int)).toNat : Int) = _
  rw [BitVec.toNat_or, e _ (by omega), e _ (by omega), hj, IntKind.wrap_i64]
  omega

theorem ret2i {k k' : IntKind} {x y z : Int} (h : x = y) : Ending.returned (.tuple #[.int k x, .int k' z]) = .returned (.tuple #[.int k y, .int k' z]) := by rw [h]
theorem fr_set (w : World) (g : Nat) (v : Value) : Fr w (w.setCell ⟨g, 0, none⟩ v) g none := ⟨rfl, rfl, rfl, by simp [World.setCell], fun k _ hk _ => Below.heap_setCell _ _ _ _ hk⟩

set_option maxHeartbeats 400000 in
/-- Take of no Reader. -/
theorem takeNil (width : Int) (w : World) : Calls Try.prog 34 #[.pointer none, .int .i64 width] w fun e w' => e = .returned (.tuple #[.int .i64 0, .int .i64 1]) ∧ w = w' := by
  go_enter Try.func34, Try.ntmps34
  go_wp2
  go_ret2
  exact ⟨rfl, rfl⟩
set_option maxHeartbeats 400000 in
theorem takeArg (g : Nat) (width : Int) (w : World) (h : width < 1 ∨ 32 < width) : Calls Try.prog 34 #[.pointer (some ⟨g, 0, none⟩), .int .i64 width] w fun e w' => e = .returned (.tuple #[.int .i64 0, .int .i64 1]) ∧ w = w' := by
  have C := Lib.hid (fun w => isWidthNo width w h)
  go_enter Try.func34, Try.ntmps34
  go_wp2_with (go_at_call 50; refine (C.out _).mono ?_; rintro e w' ⟨rfl, rfl⟩)
  go_ret2
  exact ⟨rfl, rfl⟩
set_option maxHeartbeats 400000 in
theorem takeShort (g : Nat) (A : Option Addr) (n c wd : Nat) (w : World) (hb : Box w 78 g A n c) (h1 : 1 ≤ wd) (h2 : wd ≤ 32) (h : n < wd) : Calls Try.prog 34 #[.pointer (some ⟨g, 0, none⟩), .int .i64 (wd : Int)] w fun e w' => e = .returned (.tuple #[.int .i64 0, .int .i64 2]) ∧ w = w' := by
  have C := Lib.hid (fun w => isWidthYes (wd : Int) w (by omega) (by omega))
  have hcell := hb.cell
  go_enter Try.func34, Try.ntmps34
  go_wp2_with (go_at_call 50; refine (C.out _).mono ?_; rintro e w' ⟨rfl, rfl⟩)
  go_ret2
  exact ⟨rfl, rfl⟩

set_option maxHeartbeats 1000000 in
/-- Take. -/
theorem takeOk (g b off n c wd : Nat) (bs : List Nat) (w : World) (hb : Box w 78 g (some ⟨b, off, none⟩) n c) (hr : Rd w w.heap.size (some ⟨b, off, none⟩) n (U8 bs)) (hbit : ∀ x ∈ bs, x ≤ 1) (hnc : n ≤ c) (hc : c ≤ 9223372036854775807) (h1 : 1 ≤ wd) (h2 : wd ≤ 32) (h : wd ≤ n) :
    Calls Try.prog 34 #[.pointer (some ⟨g, 0, none⟩), .int .i64 (wd : Int)] w fun e w' => e = .returned (.tuple #[.int .i64 (num (bs.take wd) : Nat), .int .i64 0]) ∧ Fr w w' g none ∧ Box w' 78 g (some (if c = wd then ⟨b, off, none⟩ else ⟨b, off + wd, none⟩)) (n - wd) (c - wd) := by
  have C := Lib.hid (fun w => isWidthYes (wd : Int) w (by omega) (by omega))
  have hcell := hb.cell
  have hfz := hb.frozen
  have HN := Lib.hid hr.len8
  go_enter Try.func34, Try.ntmps34
  go_wp2_with (go_at_call 50; refine (C.out _).mono ?_; rintro e w' ⟨rfl, rfl⟩)
  go_loop [6, 30] (fun s i => ∃ k y : Nat, k ≤ wd ∧ i = .int .i64 k ∧ s = .int .i64 (y : Int) ∧ y < 4294967296 ∧ Hid (y = num (bs.take k))) (fun _ i => wd - (intOf i).toNat)
  case atStart => exact ⟨0, 0, Nat.zero_le _, rfl, rfl, by omega, rfl⟩
  case round =>
    obtain ⟨k, y, hk, rfl, rfl, hy, HY⟩ := hrel
    by_cases hlt : k < wd
    · obtain ⟨b', off', hA, hlt2, hcell2⟩ := hr.cell8 k (by omega)
      injection hA with hA
      injection hA with hA1 hA2
      subst hA1 hA2
      have hkl : k < bs.length := by rw [← HN.out]; omega
      have hx := Bm.bit_le bs hbit k
      have hs : num (bs.take (k + 1)) = 2 * y + bs.getD k 0 := by rw [List.take_succ_eq_append_getElem hkl, num_snoc, ← HY.out, Bm.getD_lt _ _ _ hkl]
      have hl2 := num_lt (bs.take (k + 1)) (fun x h => hbit x (List.mem_of_mem_take h))
      rw [List.length_take] at hl2
      have hp : 2 ^ (min (k + 1) bs.length) ≤ 2 ^ 32 := Nat.pow_le_pow_right (by decide) (by omega)
      obtain ⟨x, hxe⟩ : ∃ x, x = bs.getD k 0 := ⟨_, rfl⟩
      rw [← hxe] at hcell2 hx hs
      have hy2 : 2 * y + x < 4294967296 := by omega
      have HS := Lib.hid hs
      have e1 := or_i64 y x (by omega) (by omega)
      clear hxe hs hl2 hp hkl
      go_wp2
      go_round
      case rel => exact ⟨k + 1, 2 * y + x, by omega, by go_num, by first | rfl | rw [e1], hy2, HS.out.symm⟩
      case measure => simp [intOf] <;> omega
    · have hkw : k = wd := by omega
      subst hkw
      clear hlt
      by_cases hcw : c = k
      · subst hcw
        go_wp2
        go_ret2
        exact ⟨ret2i (by rw [HY.out]), fr_set w g _, hb.set⟩
      · go_wp2
        go_ret2
        exact ⟨ret2i (by rw [HY.out]), fr_set w g _, hb.set⟩

/-- A slice of bytes doesn't lie in the object. -/
theorem Rd.keepFr {w w' : World} {t : TypeId} {g : Nat} {A A' : Option Addr} {n n' c' : Nat} {bs : List Nat} (h : Rd w w.heap.size A n (U8 bs)) (hb : Box w t g A' n' c') (hf : Fr w w' g none) : Rd w' w'.heap.size A n (U8 bs) := by
  refine ⟨h.len, fun hn => ?_⟩
  obtain ⟨b, off, e, hlt, hc⟩ := h.at_ hn
  have hl := h.len8
  have hne : b ≠ g := by
    rintro rfl
    have h0 := hc 0 _ (U8_get bs 0 (by omega))
    unfold Box at hb
    rw [Nat.add_zero, cell_of_row w b off _ t (0, 0) hb] at h0
    cases off with
    | zero => simp at h0
    | succ o => simp at h0
  exact ⟨b, off, e, Nat.lt_of_lt_of_le hlt hf.size, fun i u hu => (World.cell?_of_block (w := w) (a := ⟨b, off + i, none⟩) (hf.block b hlt hne (by simp))).trans (hc i u hu)⟩

theorem rd_drop {w : World} {B b off n c wd : Nat} {bs : List Nat} (h : Rd w B (some ⟨b, off, none⟩) n (U8 bs)) (hn : n ≤ c) (hw : wd ≤ n) : Rd w B (some (if c = wd then ⟨b, off, none⟩ else ⟨b, off + wd, none⟩)) (n - wd) (U8 (bs.drop wd)) := by
  have hl := h.len8
  refine ⟨by rw [U8_length, List.length_drop]; omega, fun hn0 => ?_⟩
  obtain ⟨b', off', e, hlt, hc⟩ := h.at_ (by omega)
  injection e with e
  injection e with e1 e2
  subst e1 e2
  rw [if_neg (by omega)]
  refine ⟨b, off + wd, rfl, hlt, fun i u hu => ?_⟩
  rw [Nat.add_assoc]
  refine hc (wd + i) u ?_
  unfold U8 at *
  rw [List.map_drop, List.getElem?_drop] at hu
  exact hu

/-- A Reader: its object, and what is left. -/
structure Rr (w : World) (g : Nat) (A : Option Addr) (n c : Nat) (bs : List Nat) : Prop where
  box : Box w 78 g A n c
  rd : Rd w w.heap.size A n (U8 bs)
  nc : n ≤ c
  cm : c ≤ 9223372036854775807

/-- What Take leaves. -/
def TakeOk (w : World) (g : Nat) (bs : List Nat) (wd : Nat) (e : Ending) (w' : World) : Prop :=
  e = .returned (.tuple #[.int .i64 (num (bs.take wd) : Nat), .int .i64 0]) ∧ Fr w w' g none ∧ ∃ A n c, Rr w' g A n c (bs.drop wd)
theorem takeC (g : Nat) (A : Option Addr) (n c wd : Nat) (bs : List Nat) (w : World) (hr : Rr w g A n c bs) (hbit : ∀ x ∈ bs, x ≤ 1) (h1 : 1 ≤ wd) (h2 : wd ≤ 32) (h : wd ≤ n) :
    Calls Try.prog 34 #[.pointer (some ⟨g, 0, none⟩), .int .i64 (wd : Int)] w (TakeOk w g bs wd) := by
  obtain ⟨b, off, rfl, _, _⟩ := hr.rd.at_ (by omega)
  refine (takeOk g b off n c wd bs w hr.box hr.rd hbit hr.nc hr.cm h1 h2 h).mono ?_
  rintro e w' ⟨he, hf, hb⟩
  have hc := hr.nc
  have hm := hr.cm
  exact ⟨he, hf, _, _, _, hb, rd_drop (hr.rd.keepFr hr.box hf) hr.nc h, by omega, by omega⟩

set_option maxHeartbeats 400000 in
/-- Left. -/
theorem leftC (g : Nat) (A : Option Addr) (n c : Nat) (bs : List Nat) (w : World) (hr : Rr w g A n c bs) : Calls Try.prog 36 #[.pointer (some ⟨g, 0, none⟩)] w fun e w' => e = .returned (.int .i64 (n : Int)) ∧ w = w' := by
  have hcell := hr.box.cell
  go_enter Try.func36, Try.ntmps36
  go_wp2
  go_ret
  exact ⟨rfl, rfl⟩
set_option maxHeartbeats 400000 in
theorem leftNil (w : World) : Calls Try.prog 36 #[.pointer none] w fun e w' => e = .returned (.int .i64 0) ∧ w = w' := by
  go_enter Try.func36, Try.ntmps36
  go_wp2
  go_ret
  exact ⟨rfl, rfl⟩
set_option maxHeartbeats 400000 in
theorem padNil (w : World) : Calls Try.prog 35 #[.pointer none] w fun e w' => e = .returned (.int .i64 1) ∧ w = w' := by
  go_enter Try.func35, Try.ntmps35
  go_wp2
  go_ret
  exact ⟨rfl, rfl⟩

/-- What Pad answers. -/
def padE (bs : List Nat) : Nat := if 8 ≤ bs.length then 3 else if Bm.wt bs = 0 then 0 else 5
/-- What Pad leaves. -/
def PadOk (w : World) (g : Nat) (bs : List Nat) (e : Ending) (w' : World) : Prop :=
  e = .returned (.int .i64 (padE bs : Nat)) ∧ ∃ A n c ls, Fr w w' g none ∧ Rr w' g A n c ls ∧ (padE bs = 0 → ls = []) ∧ (padE bs ≠ 0 → ls = bs)
set_option maxHeartbeats 400000 in
/-- Pad. -/
theorem padC (g : Nat) (A : Option Addr) (n c : Nat) (bs : List Nat) (w : World) (hr : Rr w g A n c bs) (hbit : ∀ x ∈ bs, x ≤ 1) (hn : n ≤ 65536) : Calls Try.prog 35 #[.pointer (some ⟨g, 0, none⟩)] w (PadOk w g bs) := by
  have hcell := hr.box.cell
  have hfz := hr.box.frozen
  have hl := hr.rd.len8
  by_cases h8 : 8 ≤ n
  · have e : padE bs = 3 := by unfold padE; rw [if_pos (by omega)]
    have E := Lib.hid e
    clear hl e
    go_enter Try.func35, Try.ntmps35
    go_wp2
    go_ret
    exact ⟨ret_int (by rw [E.out]; rfl), A, n, c, bs, Fr.refl _ _ _, hr, fun h => absurd h (by rw [E.out]; decide), fun _ => rfl⟩
  · have C := Lib.hid (weight A n c bs w hr.rd (bit256 hbit) (by omega))
    by_cases hw : Bm.wt bs = 0
    · have e : padE bs = 0 := by unfold padE; rw [if_neg (by omega), if_pos hw]
      rw [hw] at C
      have E := Lib.hid e
      clear hl e hw
      go_enter Try.func35, Try.ntmps35
      go_wp2_with (go_at_call 22; refine C.out.mono ?_; rintro e w' ⟨rfl, rfl⟩)
      go_ret
      exact ⟨ret_int (by rw [E.out]; rfl), none, 0, 0, [], fr_set w g _, ⟨hr.box.set, ⟨rfl, fun h => absurd h (by omega)⟩, by omega, by omega⟩, fun _ => rfl, fun h => absurd E.out h⟩
    · have e : padE bs = 5 := by unfold padE; rw [if_neg (by omega), if_neg hw]
      have E := Lib.hid e
      have t1 : ((Bm.wt bs : Int) != 0) = true := by simp; omega
      generalize Bm.wt bs = q at *
      clear hl e hw
      go_enter Try.func35, Try.ntmps35
      go_wp2_with (go_at_call 22; refine C.out.mono ?_; rintro e w' ⟨rfl, rfl⟩)
      go_ret
      exact ⟨ret_int (by rw [E.out]; rfl), A, n, c, bs, Fr.refl _ _ _, hr, fun h => absurd h (by rw [E.out]; decide), fun _ => rfl⟩

set_option maxHeartbeats 400000 in
/-- bitio.Of. -/
theorem ofC (A : Option Addr) (n c : Nat) (bs : List Nat) (w : World) (hr : Rd w w.heap.size A n (U8 bs)) (hb : ∀ b ∈ bs, b < 256) (hn : n ≤ 65536) :
    Calls Try.prog 33 #[.slice A n c] w fun e w' => ∃ w1 A1 n1 c1, e = .returned (.pointer (some ⟨w1.heap.size, 0, none⟩)) ∧ w' = w1.alloc (.cells #[.slice A1 n1 c1] 78) ∧ Own w1 w.heap.size 5 A1 n1 c1 (U8 (Bm.ofBytes bs)) ∧ Below w.heap.size w w1 := by
  have C := Lib.hid (bitsOf A n c bs w hr hb hn)
  go_enter Try.func33, Try.ntmps33
  go_wp2_with fail
  refine C.out.mono ?_
  rintro e w1 ⟨A1, n1, c1, rfl, ow, be⟩
  go_wp2_with fail
  go_ret
  exact ⟨w1, A1, n1, c1, rfl, rfl, ow, be⟩
end Go.Proofs.Ytcddbcknjcedfaa
