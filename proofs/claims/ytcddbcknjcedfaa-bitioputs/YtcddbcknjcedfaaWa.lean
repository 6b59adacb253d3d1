/-
  Contracts of layer 2's Writer.
-/
import Derived.Test.YtcddbcknjcedfaaWm
import Derived.Deep.RegionHeld3
import Derived.Deep.RegionLaw
import Derived.Deep.DrawnRows
namespace Go.Proofs.Ytcddbcknjcedfaa
open Go.RowKit
set_option linter.unusedVariables false
set_option linter.unusedSimpArgs false
attribute [local go_sem ↓] Go.wp_at_zero Go.wp_at_succ

set_option maxHeartbeats 400000 in
theorem isWidthYes (x : Int) (w : World) (h1 : 1 ≤ x) (h2 : x ≤ 32) : Calls Try.prog 50 #[.int .i64 x] w fun e w' => e = .returned (.bool true) ∧ w = w' := by
  have t1 : decide (1 ≤ x) = true := by simp [h1]
  have t2 : decide (x ≤ 32) = true := by simp [h2]
  go_enter Try.func50, Try.ntmps50
  go_wp2
  go_ret
  exact ⟨rfl, rfl⟩
set_option maxHeartbeats 400000 in
theorem isWidthNo (x : Int) (w : World) (h : x < 1 ∨ 32 < x) : Calls Try.prog 50 #[.int .i64 x] w fun e w' => e = .returned (.bool false) ∧ w = w' := by
  by_cases h1 : 1 ≤ x
  · have t1 : decide (1 ≤ x) = true := by simp [h1]
    have t2 : decide (x ≤ 32) = false := by simp; omega
    go_enter Try.func50, Try.ntmps50
    go_wp2
    go_ret
    exact ⟨rfl, rfl⟩
  · have t1 : decide (1 ≤ x) = false := by simp; omega
    go_enter Try.func50, Try.ntmps50
    go_wp2
    go_ret
    exact ⟨rfl, rfl⟩

set_option maxHeartbeats 400000 in
/-- Put of no Writer. -/
theorem putNil (n width : Int) (w : World) : Calls Try.prog 29 #[.pointer none, .int .i64 n, .int .i64 width] w fun e w' => e = .returned (.int .i64 1) ∧ w = w' := by
  go_enter Try.func29, Try.ntmps29
  go_wp2
  go_ret
  exact ⟨rfl, rfl⟩
set_option maxHeartbeats 400000 in
/-- Put of no width. -/
theorem putArg (g : Nat) (n width : Int) (w : World) (h : width < 1 ∨ 32 < width) : Calls Try.prog 29 #[.pointer (some ⟨g, 0, none⟩), .int .i64 n, .int .i64 width] w fun e w' => e = .returned (.int .i64 1) ∧ w = w' := by
  have C := Lib.hid (fun w => isWidthNo width w h)
  go_enter Try.func29, Try.ntmps29
  go_wp2_with (go_at_call 50; refine (C.out _).mono ?_; rintro e w' ⟨rfl, rfl⟩)
  go_ret
  exact ⟨rfl, rfl⟩
set_option maxHeartbeats 400000 in
/-- Put of a number that doesn't fit. -/
theorem putField (g : Nat) (n : Int) (wd : Nat) (w : World) (h1 : 1 ≤ wd) (h2 : wd ≤ 32) (hn1 : -9223372036854775808 ≤ n) (hn2 : n ≤ 9223372036854775807) (h : n < 0 ∨ 2 ^ wd ≤ n) :
    Calls Try.prog 29 #[.pointer (some ⟨g, 0, none⟩), .int .i64 n, .int .i64 (wd : Int)] w fun e w' => e = .returned (.int .i64 5) ∧ w = w' := by
  have C := Lib.hid (fun w => isWidthYes (wd : Int) w (by omega) (by omega))
  by_cases hn : n < 0
  · have t1 : decide (n < 0) = true := by simp [hn]
    go_enter Try.func29, Try.ntmps29
    go_wp2_with (go_at_call 50; refine (C.out _).mono ?_; rintro e w' ⟨rfl, rfl⟩)
    go_ret
    exact ⟨rfl, rfl⟩
  · obtain ⟨N, rfl⟩ := Int.eq_ofNat_of_zero_le (show 0 ≤ n by omega)
    have hN : 2 ^ wd ≤ N := by
      rcases h with h | h
      · omega
      · have : ((2 ^ wd : Nat) : Int) ≤ (N : Int) := by simpa using h
        omega
    have hd : 0 < N / 2 ^ wd := Nat.div_pos hN (Nat.two_pow_pos _)
    have t1 : decide ((N : Int) < 0) = false := by simp
    have t2 : ((N : Int) / 2 ^ wd != 0) = true := by
      have e : ((N : Int) / 2 ^ wd) = ((N / 2 ^ wd : Nat) : Int) := by simp
      rw [e]; simp; omega
    clear h hN hd
    go_enter Try.func29, Try.ntmps29
    go_wp2_with (go_at_call 50; refine (C.out _).mono ?_; rintro e w' ⟨rfl, rfl⟩)
    go_ret
    exact ⟨rfl, rfl⟩

/-- What Put leaves. -/
def PutOk (w : World) (base g : Nat) (row : Option Nat) (k : Nat) (bs : List Nat) (e : Ending) (w' : World) : Prop :=
  e = .returned (.int .i64 0) ∧ ∃ A n c, Wr w' base g A n c bs ∧ n = k ∧ Fr w w' g row ∧ ((Value.slice A n c).ownBlock = row ∨ ∃ j, (Value.slice A n c).ownBlock = some j ∧ w.heap.size ≤ j)

theorem wrap_bit (x : Nat) (h : x < 2) : IntKind.u8.wrap (x : Int) = (x : Int) := IntWalk.u8_in _ (by omega)

set_option maxHeartbeats 2000000 in
/-- Put. -/
theorem putOk (base g : Nat) (A : Option Addr) (n c : Nat) (bs : List Nat) (N wd : Nat) (w : World) (hw : Wr w base g A n c bs) (hbase : base ≤ w.heap.size) (h1 : 1 ≤ wd) (h2 : wd ≤ 32) (hN : N < 2 ^ wd) (hn : n ≤ 65536) :
    Calls Try.prog 29 #[.pointer (some ⟨g, 0, none⟩), .int .i64 (N : Int), .int .i64 (wd : Int)] w (PutOk w base g (Value.slice A n c).ownBlock (n + wd) (bs ++ pre N wd wd)) := by
  have C := Lib.hid (fun w => isWidthYes (wd : Int) w (by omega) (by omega))
  have hp : 2 ^ wd ≤ 2 ^ 32 := Nat.pow_le_pow_right (by decide) h2
  have hN2 : N < 4294967296 := by omega
  have t1 : decide ((N : Int) < 0) = false := by simp
  have t2 : ((N : Int) / 2 ^ wd != 0) = false := by
    have e : ((N : Int) / 2 ^ wd) = ((N / 2 ^ wd : Nat) : Int) := by simp
    rw [e, Nat.div_eq_of_lt hN]; simp
  obtain ⟨row, hrow⟩ : ∃ row, row = (Value.slice A n c).ownBlock := ⟨_, rfl⟩
  rw [← hrow]
  have HROW := Lib.hid hrow
  clear hp hN hrow
  go_enter Try.func29, Try.ntmps29
  go_wp2_with (go_at_call 50; refine (C.out _).mono ?_; rintro e w' ⟨rfl, rfl⟩)
  go_loopw [7] (fun i wr => ∃ m : Nat, m ≤ wd ∧ i = .int .i64 ((m : Int) - 1) ∧ ∃ A1 n1 c1, Wr wr base g A1 n1 c1 (bs ++ pre N wd (wd - m)) ∧ n1 = n + (wd - m) ∧ Fr w wr g row ∧ ((Value.slice A1 n1 c1).ownBlock = row ∨ ∃ j, (Value.slice A1 n1 c1).ownBlock = some j ∧ w.heap.size ≤ j)) (fun i _ => (intOf i + 1).toNat)
  case atStart => exact ⟨wd, Nat.le_refl _, rfl, A, n, c, by rw [Nat.sub_self]; simpa [pre] using hw, by omega, Fr.refl _ _ _, .inl HROW.out.symm⟩
  case round =>
    obtain ⟨m, hm, rfl, A1, n1, c1, hwr, hn1, hfr, hrw⟩ := hrel
    have HN1 := Lib.hid hn1
    cases m with
    | zero =>
      go_wp2
      go_ret
      exact ⟨rfl, A1, n1, c1, by rw [Nat.sub_zero] at hwr; exact hwr, by have := HN1.out; omega, hfr, hrw⟩
    | succ p =>
      have hp : ((p + 1 : Nat) : Int) - 1 = (p : Int) := by omega
      rw [hp]
      clear hp
      have hn2 : n1 ≤ 65600 := by omega
      have e1 := bit_64 N p (by omega)
      have hx : N / 2 ^ p % 2 < 2 := Nat.mod_lt _ (by omega)
      obtain ⟨x, hxe⟩ : ∃ x, x = N / 2 ^ p % 2 := ⟨_, rfl⟩
      rw [← hxe] at e1 hx
      have HX := Lib.hid hxe
      have e2 := wrap_bit x hx
      have e0 : IntKind.u64.wrap (N : Int) = (N : Int) := IntWalk.u64_in _ (by omega)
      have hcell := hwr.box.cell
      have hfz := hwr.box.frozen
      have hglt := hwr.box.lt
      have hne := hwr.own.ne_box hwr.box (by decide)
      have hsz := hfr.size
      clear hxe hn1
      go_wp2_with fail
      have ownd : Own wr.drew base 5 A1 n1 c1 (U8 (bs ++ pre N wd (wd - (p + 1)))) := ⟨hwr.own.row.drew⟩
      have hcell2 : ∀ o, (wr.alloc o).cell? ⟨g, 0, none⟩ = some (.slice A1 n1 c1) := fun o => (World.cell?_alloc_lt wr o ⟨g, 0, none⟩ hglt).trans hcell
      go_region_law ((refine step_app8 wr.drew (by rfl) _ _ (by rfl) base A1 n1 c1 _ x _ (by first | rfl | omega) (by rfl) ownd (by rfl) (by omega) (by simp; omega) ?_; intro A3 c3 w3 hown3 hgrow hat; have hb3 := hgrow.block g hglt (Ne.symm hne); have hcell3 := (World.cell?_of_block (w := wr) (a := ⟨g, 0, none⟩) hb3).trans hcell; have hfz3 := (World.frozen?_of_block (w := wr) (a := ⟨g, 0, none⟩) hb3).trans hfz; clear hb3))
      all_goals
        go_wp2
        obtain ⟨q1, q2, q3⟩ := put_step hwr hfr hrw hown3 hgrow hat
        go_roundw
        case rel =>
          refine ⟨p, by omega, by go_num, A3, n1 + 1, c3, ?_, by have := HN1.out; omega, q2, q3⟩
          rw [show wd - p = wd - (p + 1) + 1 by omega, pre, ← List.append_assoc, show wd - 1 - (wd - (p + 1)) = p by omega, ← HX.out]
          exact q1
        case measure => simp [intOf] <;> omega

theorem Fr.below {w w' : World} {g base : Nat} {row : Option Nat} (h : Fr w w' g row) (hg : base ≤ g) (hr : ∀ k, row = some k → base ≤ k) (hb : base ≤ w.heap.size) : Below base w w' :=
  ⟨h.os, h.tape, h.output, h.size, fun k hk => h.block k (by omega) (by omega) (fun e => by have := hr k e.symm; omega)⟩

set_option maxHeartbeats 400000 in
/-- Writer.Bytes. -/
theorem wbytes (base g : Nat) (A : Option Addr) (n c : Nat) (bs : List Nat) (w : World) (hw : Wr w base g A n c bs) (hb : ∀ b ∈ bs, b ≤ 1) (hn : n ≤ 65536) :
    Calls Try.prog 30 #[.pointer (some ⟨g, 0, none⟩)] w (Made w (Bm.toBytes bs)) := by
  have hcell := hw.box.cell
  have C := Lib.hid (bytesYes A n c bs w (hw.own.rdOf (Below.refl _ _)) hb hn)
  go_enter Try.func30, Try.ntmps30
  go_wp2_with fail
  refine C.out.mono ?_
  rintro e w' ⟨A', n', c', rfl, ow, be⟩
  go_wp2_with fail
  go_ret
  exact ⟨A', n', c', rfl, ow, be⟩
set_option maxHeartbeats 400000 in
theorem wbytesNil (w : World) : Calls Try.prog 30 #[.pointer none] w fun e w' => e = .returned (.slice none 0 0) ∧ w = w' := by
  go_enter Try.func30, Try.ntmps30
  go_wp2
  go_ret
  exact ⟨rfl, rfl⟩
set_option maxHeartbeats 400000 in
/-- Writer.Len. -/
theorem wlen (base g : Nat) (A : Option Addr) (n c : Nat) (bs : List Nat) (w : World) (hw : Wr w base g A n c bs) :
    Calls Try.prog 31 #[.pointer (some ⟨g, 0, none⟩)] w fun e w' => e = .returned (.int .i64 (n : Int)) ∧ w = w' := by
  have hcell := hw.box.cell
  go_enter Try.func31, Try.ntmps31
  go_wp2
  go_ret
  exact ⟨rfl, rfl⟩
set_option maxHeartbeats 400000 in
theorem wlenNil (w : World) : Calls Try.prog 31 #[.pointer none] w fun e w' => e = .returned (.int .i64 0) ∧ w = w' := by
  go_enter Try.func31, Try.ntmps31
  go_wp2
  go_ret
  exact ⟨rfl, rfl⟩
end Go.Proofs.Ytcddbcknjcedfaa
