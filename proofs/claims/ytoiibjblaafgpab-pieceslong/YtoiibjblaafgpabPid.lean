/-
  Layer 34: a Joiner.
-/
import Derived.Test.YtoiibjblaafgpabPib
namespace Go.Proofs.Ytoiibjblaafgpab
open Go.RowKit
set_option linter.unusedVariables false
set_option linter.unusedSimpArgs false
set_option maxRecDepth 100000

theorem infoJo : (Try.prog.info? 22).map (·.size) = some 1 := by kernel_rfl
/-- A joiner's cells. -/
def jo (A : Option Addr) (n c bad : Nat) : Array Value := #[.slice A n c, .int .i64 (bad : Int)]
/-- A joiner, its blocks among P. -/
structure JT (w : World) (P : Nat → Prop) (g : Nat) (half : List Nat) (bad : Nat) : Prop where
  blk : ∃ A c, Blk w g 47 (jo A half.length c bad) ∧ Own w 0 5 A half.length c (U8 half) ∧ ∀ k, blk A = some k → P k
  mine : P g
  lt : ∀ k, P k → k < w.heap.size
theorem JT.of_heap {w w' : World} {P : Nat → Prop} {g bad : Nat} {half : List Nat} (h : JT w P g half bad) (hb : ∀ k, P k → w'.heap[k]? = w.heap[k]?) (hs : w.heap.size ≤ w'.heap.size) : JT w' P g half bad := by
  obtain ⟨A, c, q, o, hA⟩ := h.blk
  exact ⟨⟨A, c, (hb g h.mine).trans q, o.heap (fun k hk => hb k (hA k hk)), hA⟩, h.mine, fun k hk => Nat.lt_of_lt_of_le (h.lt k hk) hs⟩
theorem JT.after {w w' : World} {P : Nat → Prop} {g bad : Nat} {half : List Nat} (h : JT w P g half bad) (hb : Below w.heap.size w w') : JT w' P g half bad := h.of_heap (fun k hk => hb.block k (h.lt k hk)) hb.size
set_option maxHeartbeats 400000 in
theorem pNew (w : World) : Calls Try.prog 11 #[] w fun e w' => e = .returned (.pointer (some ⟨w.heap.size, 0, none⟩)) ∧ JT w' (fun k => k = w.heap.size) w.heap.size [] 0 ∧ Below w.heap.size w w' := by
  go_enter Try.func11, Try.ntmps11
  go_wp2_with (refine at_box rfl 47 _ rfl (jo none 0 0 0) (by first | rfl | (go_simp; rfl)) ?_; intro w1 L1)
  go_ret
  exact ⟨rfl, ⟨⟨none, 0, L1.row, Own.nil _ _ _, fun k hk => by cases hk⟩, rfl, fun k hk => by rw [hk, L1.size]; omega⟩, L1.bel⟩
set_option maxHeartbeats 400000 in
theorem jHalf (w : World) (P : Nat → Prop) (g bad : Nat) (half : List Nat) (h : JT w P g half bad) : Calls Try.prog 14 #[.pointer (some ⟨g, 0, none⟩)] w fun e w' => e = .returned (.int .i64 (half.length : Int)) ∧ w = w' := by
  obtain ⟨A, c, q, o, hA⟩ := h.blk
  have c0 : w.cell? ⟨g, 0, none⟩ = some (.slice A half.length c) := (q.cell 0).trans rfl
  obtain ⟨n, hn⟩ : ∃ n, n = half.length := ⟨_, rfl⟩
  rw [← hn] at c0 ⊢
  clear q o hA h hn
  go_enter Try.func14, Try.ntmps14
  go_wp2
  go_ret
  exact ⟨rfl, rfl⟩
set_option maxHeartbeats 400000 in
theorem jBad (w : World) (P : Nat → Prop) (g bad : Nat) (half : List Nat) (h : JT w P g half bad) : Calls Try.prog 15 #[.pointer (some ⟨g, 0, none⟩)] w fun e w' => e = .returned (.int .i64 (bad : Int)) ∧ w = w' := by
  obtain ⟨A, c, q, o, hA⟩ := h.blk
  have c1 : w.cell? ⟨g, 1, none⟩ = some (.int .i64 (bad : Int)) := (q.cell 1).trans rfl
  clear q o hA h
  go_enter Try.func15, Try.ntmps15
  go_wp2
  go_ret
  exact ⟨rfl, rfl⟩
set_option maxHeartbeats 400000 in
theorem jNext (w : World) (P : Nat → Prop) (g bad : Nat) (half : List Nat) (h : JT w P g half bad) (hh : half.length ≤ 65536) : Calls Try.prog 26 #[.pointer (some ⟨g, 0, none⟩)] w fun e w' => e = .returned (.int .i64 ((half.length / 63 % 64 : Nat) : Int)) ∧ w = w' := by
  obtain ⟨A, c, q, o, hA⟩ := h.blk
  have c0 : w.cell? ⟨g, 0, none⟩ = some (.slice A half.length c) := (q.cell 0).trans rfl
  obtain ⟨n, hn⟩ : ∃ n, n = half.length := ⟨_, rfl⟩
  rw [← hn] at c0 hh ⊢
  have t1 : ((n : Int).tdiv 63) = ((n / 63 : Nat) : Int) := by simp [Int.tdiv]
  have t2 : (((n / 63 : Nat) : Int).tmod 64) = ((n / 63 % 64 : Nat) : Int) := by simp [Int.tmod]
  have hb : n / 63 ≤ 65536 := by omega
  generalize n / 63 % 64 = r at *
  generalize n / 63 = m at *
  clear q o hA h hn
  go_enter Try.func26, Try.ntmps26
  go_wp2
  go_ret
  exact ⟨rfl, rfl⟩
theorem infoI3one : (Try.prog.info? 3).map (·.size) = some 1 := by kernel_rfl
theorem jo_set0 (A A' : Option Addr) (n c bad n' c' : Nat) : (jo A n c bad).setIfInBounds 0 (.slice A' n' c') = jo A' n' c' bad := rfl
theorem jo_set1 (A : Option Addr) (n c bad bad' : Nat) : (jo A n c bad).setIfInBounds 1 (.int .i64 (bad' : Int)) = jo A n c bad' := rfl
set_option maxHeartbeats 1000000 in
theorem jRefuse (w : World) (P : Nat → Prop) (g bad : Nat) (half : List Nat) (e0 : Int) (h : JT w P g half bad) (hb : bad ≤ 1000000) : Calls Try.prog 22 #[.pointer (some ⟨g, 0, none⟩), .int .i64 e0] w fun e w' => e = .returned (.int .i64 e0) ∧ JT w' P g [] (bad + 1) ∧ Kr w w' P := by
  obtain ⟨A, c, q, o, hA⟩ := h.blk
  have HM := Lib.hid h.mine
  have HLT := Lib.hid h.lt
  obtain ⟨n, hn⟩ : ∃ n, n = half.length := ⟨_, rfl⟩
  rw [← hn] at q
  clear o hA h hn
  obtain ⟨b1, hb1⟩ : ∃ b1, b1 = bad + 1 := ⟨_, rfl⟩
  have eb : (bad : Int) + 1 = (b1 : Int) := by omega
  rw [← hb1]
  have hb2 : b1 ≤ 1000001 := by omega
  clear hb1
  go_enter Try.func22, Try.ntmps22
  go_upto_region 2 with (refine at_cell rfl 22 _ _ rfl g 0 (.slice none 0 0) rfl rfl 47 _ q (show 0 < 2 by omega) infoJo rfl ?_; intro w1 u1)
  rw [jo_set0] at u1
  have q1 := u1.row
  have c1 : w1.cell? ⟨g, 1, none⟩ = some (.int .i64 (bad : Int)) := (q1.cell 1).trans rfl
  go_upto_region 3 with (refine at_cell rfl 3 _ _ rfl g 1 (.int .i64 (b1 : Int)) rfl rfl 47 _ q1 (show 1 < 2 by omega) infoI3one rfl ?_; intro w2 u2)
  rw [jo_set1] at u2
  go_wp2
  go_ret
  refine ⟨rfl, ⟨⟨none, 0, u2.row, Own.nil _ _ _, fun k hk => by cases hk⟩, HM.out, fun k hk => by rw [u2.size, u1.size]; exact HLT.out k hk⟩, ?_⟩
  refine ⟨by rw [u2.os, u1.os], by rw [u2.tape, u1.tape], by rw [u2.output, u1.output], by rw [u2.size, u1.size]; exact Nat.le_refl _, fun k _ hk => ?_⟩
  have hkg : k ≠ g := fun e => hk (by rw [e]; exact HM.out)
  rw [u2.oth k hkg, u1.oth k hkg]
theorem kr_refl (w : World) (P : Nat → Prop) : Kr w w P := Kr.of_below (Below.refl _ _)
set_option maxHeartbeats 1000000 in
theorem jBegin (w : World) (P : Nat → Prop) (g bad : Nat) (half : List Nat) (h : JT w P g half bad) (hb : bad ≤ 1000000) : Calls Try.prog 25 #[.pointer (some ⟨g, 0, none⟩)] w fun e w' => e = .returned (.tuple #[]) ∧ JT w' P g [] (bad + if 0 < half.length then 1 else 0) ∧ Kr w w' P := by
  have CH := Lib.hid (jHalf w P g bad half h)
  have CR := Lib.hid (jRefuse w P g bad half 9 h hb)
  have HJ := Lib.hid h
  by_cases h0 : 0 < half.length
  · rw [if_pos h0]
    have d1 : decide ((half.length : Int) > 0) = true := by simp; omega
    have d1' : decide ((0 : Int) < (half.length : Int)) = true := by simp; omega
    have d1'' : decide (0 < half.length) = true := by simp; omega
    clear h
    generalize half.length = n at *
    go_enter Try.func25, Try.ntmps25
    go_wp2_with (first | (go_at_call 14; refine CH.out.mono ?_; rintro e w' ⟨rfl, rfl⟩) | (go_at_call 22; refine CR.out.mono ?_; rintro e w1 ⟨rfl, j1, k1⟩))
    refine bodyPost_end (v := .tuple #[]) (results_none rfl _ _ _) rfl ?_
    exact ⟨rfl, j1, k1⟩
  · rw [if_neg h0, Nat.add_zero]
    have hh : half = [] := List.eq_nil_of_length_eq_zero (by omega)
    subst hh
    clear h0 h
    go_enter Try.func25, Try.ntmps25
    go_wp2_with (first | (go_at_call 14; refine CH.out.mono ?_; rintro e w' ⟨rfl, rfl⟩))
    refine bodyPost_end (v := .tuple #[]) (results_none rfl _ _ _) rfl ?_
    exact ⟨rfl, HJ.out, kr_refl _ _⟩
theorem and128 : ∀ h, h < 256 → ((((h &&& 128 : Nat) : Int) != 0) = decide (128 ≤ h)) := by decide +kernel
theorem and64 : ∀ h, h < 256 → ((((h &&& 64 : Nat) : Int) != 0) = decide (64 ≤ h % 128)) := by decide +kernel
set_option maxHeartbeats 400000 in
theorem jisFirst (A : Option Addr) (n c h : Nat) (ps : List Nat) (w : World) (hr : Rd w w.heap.size A n (U8 (h :: ps))) (hh : h < 256) : Calls Try.prog 23 #[.slice A n c] w fun e w' => e = .returned (.bool (decide (128 ≤ h))) ∧ w = w' := by
  have hl : n = ps.length + 1 := hr.len8
  obtain ⟨b, off, rfl, hlt, k0⟩ := hr.cell8 0 (by omega)
  have hn0 : (0 : Int) < (n : Int) := by omega
  have hn1 : 0 < n := by omega
  have k0' : w.cell? ⟨b, off, none⟩ = some (.int .u8 (h : Int)) := k0
  have a1 := u8_and_nat h 128 (by omega) (by omega)
  have a1' : bits BinOp.and IntKind.u8 (h : Int) 128 = ((h &&& 128 : Nat) : Int) := by simpa using a1
  have a2 := and128 h hh
  generalize decide (128 ≤ h) = f at *
  generalize h &&& 128 = x at *
  clear hr k0 hl a1
  go_enter Try.func23, Try.ntmps23
  go_wp2
  go_ret
  exact ⟨by rw [← a2]; rfl, rfl⟩
set_option maxHeartbeats 400000 in
theorem jisLast (A : Option Addr) (n c h : Nat) (ps : List Nat) (w : World) (hr : Rd w w.heap.size A n (U8 (h :: ps))) (hh : h < 256) : Calls Try.prog 27 #[.slice A n c] w fun e w' => e = .returned (.bool (decide (64 ≤ h % 128))) ∧ w = w' := by
  have hl : n = ps.length + 1 := hr.len8
  obtain ⟨b, off, rfl, hlt, k0⟩ := hr.cell8 0 (by omega)
  have hn0 : (0 : Int) < (n : Int) := by omega
  have hn1 : 0 < n := by omega
  have k0' : w.cell? ⟨b, off, none⟩ = some (.int .u8 (h : Int)) := k0
  have a1 := u8_and_nat h 64 (by omega) (by omega)
  have a1' : bits BinOp.and IntKind.u8 (h : Int) 64 = ((h &&& 64 : Nat) : Int) := by simpa using a1
  have a2 := and64 h hh
  generalize decide (64 ≤ h % 128) = f at *
  generalize h &&& 64 = x at *
  clear hr k0 hl a1
  go_enter Try.func27, Try.ntmps27
  go_wp2
  go_ret
  exact ⟨by rw [← a2]; rfl, rfl⟩
set_option maxHeartbeats 400000 in
theorem jnumber (A : Option Addr) (n c h : Nat) (ps : List Nat) (w : World) (hr : Rd w w.heap.size A n (U8 (h :: ps))) (hh : h < 256) : Calls Try.prog 24 #[.slice A n c] w fun e w' => e = .returned (.int .i64 ((h % 64 : Nat) : Int)) ∧ w = w' := by
  have hl : n = ps.length + 1 := hr.len8
  obtain ⟨b, off, rfl, hlt, k0⟩ := hr.cell8 0 (by omega)
  have hn0 : (0 : Int) < (n : Int) := by omega
  have hn1 : 0 < n := by omega
  have k0' : w.cell? ⟨b, off, none⟩ = some (.int .u8 (h : Int)) := k0
  have t1 : ((h : Int).tmod 64) = ((h % 64 : Nat) : Int) := by simp [Int.tmod]
  have t1' : ((h : Int) % 64) = ((h % 64 : Nat) : Int) := by simp
  have t2 : h % 64 < 64 := Nat.mod_lt _ (by omega)
  generalize h % 64 = r at *
  clear hr k0 hl
  go_enter Try.func24, Try.ntmps24
  go_wp2
  go_ret
  exact ⟨rfl, rfl⟩
set_option maxHeartbeats 1000000 in
/-- A message that can be one. -/
theorem jisMessage (A : Option Addr) (n c h : Nat) (ps : List Nat) (w : World) (hr : Rd w w.heap.size A n (U8 (h :: ps))) (hh : h < 256) (hn : n ≤ 64) (h1 : ¬ 64 ≤ h % 128 → n = 64) (h2 : 64 ≤ h % 128 → 128 ≤ h ∨ 1 < n) :
    Calls Try.prog 21 #[.slice A n c] w fun e w' => e = .returned (.bool true) ∧ w = w' := by
  have hl : n = ps.length + 1 := hr.len8
  have hn1 : 0 < n := by omega
  have CF := Lib.hid (jisFirst A n c h ps w hr hh)
  have CL := Lib.hid (jisLast A n c h ps w hr hh)
  have d1 : ((n : Int) == 0) = false := by simp; omega
  have d2 : decide ((n : Int) > 64) = false := by simp; omega
  have d2' : decide ((64 : Int) < (n : Int)) = false := by simp; omega
  by_cases hL : 64 ≤ h % 128
  · rw [decide_eq_true hL] at CL
    by_cases hF : 128 ≤ h
    · rw [decide_eq_true hF] at CF
      clear hr hl h1 h2 hL hF hh
      go_enter Try.func21, Try.ntmps21
      go_wp2_with (first | (go_at_call 23; refine CF.out.mono ?_; rintro e w' ⟨rfl, rfl⟩) | (go_at_call 27; refine CL.out.mono ?_; rintro e w' ⟨rfl, rfl⟩))
      go_ret
      exact ⟨rfl, rfl⟩
    · rw [decide_eq_false hF] at CF
      have d3 : decide ((n : Int) > 1) = true := by have := h2 hL; simp; omega
      have d3' : decide ((1 : Int) < (n : Int)) = true := by have := h2 hL; simp; omega
      have d3'' : decide (1 < n) = true := by have := h2 hL; simp; omega
      clear hr hl h1 h2 hL hF hh
      go_enter Try.func21, Try.ntmps21
      go_wp2_with (first | (go_at_call 23; refine CF.out.mono ?_; rintro e w' ⟨rfl, rfl⟩) | (go_at_call 27; refine CL.out.mono ?_; rintro e w' ⟨rfl, rfl⟩))
      go_ret
      exact ⟨rfl, rfl⟩
  · rw [decide_eq_false hL] at CL
    have h64 := h1 hL
    have d3 : ((n : Int) == 64) = true := by simp; omega
    clear hr hl h1 h2 hL hh CF h64
    go_enter Try.func21, Try.ntmps21
    go_wp2_with (first | (go_at_call 27; refine CL.out.mono ?_; rintro e w' ⟨rfl, rfl⟩))
    go_ret
    exact ⟨by first | rfl | (rw [d3]; rfl), rfl⟩
end Go.Proofs.Ytoiibjblaafgpab
