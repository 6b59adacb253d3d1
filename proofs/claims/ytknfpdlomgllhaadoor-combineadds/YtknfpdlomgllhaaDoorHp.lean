/-
  Layer 13: what Add refuses, calls of no Buffer, Reset, Bits; New of too many.
-/
import Derived.Test.YtknfpdlomgllhaaDoorUb
namespace Go.Proofs.YtknfpdlomgllhaaDoor
open Go.RowKit
set_option maxRecDepth 100000
set_option linter.unusedVariables false
set_option linter.unusedSimpArgs false

theorem BF0_one' (n : Nat) : (BF n (Cv.cv []) (.slice none 0 0)).all (·.oneCell') = true := by simp [BF, Value.oneCell']
set_option maxHeartbeats 400000 in
/-- (*Buffer).Reset. -/
theorem resetC' (gB n : Nat) (row : List (Nat × List Nat)) (S : Value) (w : World) (hB : BufS w gB n row S) :
    Calls Tryd.prog 15 #[.pointer (some ⟨gB, 0, none⟩)] w fun e w' => e = .returned (.tuple #[]) ∧ BufS w' gB n [] (.slice none 0 0) ∧ Kp w w' gB none := by
  have k0 : w.cell? ⟨gB, 0, none⟩ = some (.int .i64 (n : Int)) := hB.blk.cell 0
  have q := hB.blk
  have H1 := Lib.hid (BF0_one' n)
  have HS : Hid ((BF n (Cv.cv row) S).size = (BF n (Cv.cv []) (.slice none 0 0)).size) := rfl
  have iB : Hid ((Tryd.prog.info? 97).map (·.size) = some (BF n (Cv.cv []) (.slice none 0 0)).size) := infoBuf
  generalize BF n (Cv.cv row) S = V at *
  clear hB
  go_enter Tryd.func15, Tryd.ntmps15
  go_wp2_with (refine at_store rfl 97 _ _ rfl gB (BF n (Cv.cv []) (.slice none 0 0)) rfl rfl 97 V q iB.out HS.out H1.out ?_; intro w1 h1)
  refine bodyPost_end (v := .tuple #[]) (results_none rfl _ _ _) rfl ?_
  exact ⟨rfl, ⟨h1.row, .inl ⟨rfl, rfl⟩⟩, ⟨h1.os, h1.tape, h1.output, by rw [h1.size]; exact Nat.le_refl _, fun k hk h2 _ => h1.oth k h2⟩⟩
set_option maxHeartbeats 400000 in
/-- (*Buffer).Bits. -/
theorem bitsB (gB n : Nat) (c : Nat → Nat) (S : Value) (w : World) (hb : Blk w gB 97 (BF n c S)) : Calls Tryd.prog 21 #[.pointer (some ⟨gB, 0, none⟩)] w fun e w' => e = .returned (.int .i64 (n : Int)) ∧ w = w' := by
  have k := hb.cell 0
  have k0 : w.cell? ⟨gB, 0, none⟩ = some (.int .i64 (n : Int)) := k
  clear k hb
  go_enter Tryd.func21, Tryd.ntmps21
  go_wp2
  go_ret
  exact ⟨rfl, rfl⟩
set_option maxHeartbeats 400000 in
theorem none13C (w : World) : Calls Tryd.prog 14 #[] w fun e w' => e = .returned (.pointer none) ∧ w = w' := by
  go_enter Tryd.func14, Tryd.ntmps14
  go_wp2
  go_ret
  exact ⟨rfl, rfl⟩
set_option maxHeartbeats 400000 in
theorem bitsNil (w : World) : Calls Tryd.prog 21 #[.pointer none] w fun e w' => e = .returned (.int .i64 0) ∧ w = w' := by
  go_enter Tryd.func21, Tryd.ntmps21
  go_wp2
  go_ret
  exact ⟨rfl, rfl⟩
set_option maxHeartbeats 400000 in
theorem decodeNil (w : World) : Calls Tryd.prog 16 #[.pointer none] w fun e w' => e = .returned (.tuple #[.slice none 0 0, .int .i64 1]) ∧ w = w' := by
  go_enter Tryd.func16, Tryd.ntmps16
  go_wp2
  go_ret2
  exact ⟨rfl, rfl⟩
set_option maxHeartbeats 400000 in
theorem softNil (w : World) : Calls Tryd.prog 19 #[.pointer none] w fun e w' => e = .returned (.slice none 0 0) ∧ w = w' := by
  go_enter Tryd.func19, Tryd.ntmps19
  go_wp2
  go_ret
  exact ⟨rfl, rfl⟩
set_option maxHeartbeats 400000 in
theorem addNil (v : Int) (A : Option Addr) (k c : Nat) (w : World) : Calls Tryd.prog 18 #[.pointer none, .int .i64 v, .slice A k c] w fun e w' => e = .returned (.int .i64 1) ∧ w = w' := by
  go_enter Tryd.func18, Tryd.ntmps18
  go_wp2
  go_ret
  exact ⟨rfl, rfl⟩
set_option maxHeartbeats 400000 in
theorem resetNil (w : World) : Calls Tryd.prog 15 #[.pointer none] w fun e w' => e = .returned (.tuple #[]) ∧ w = w' := by
  go_enter Tryd.func15, Tryd.ntmps15
  go_wp2
  refine bodyPost_end (v := .tuple #[]) (results_none rfl _ _ _) rfl ?_
  exact ⟨rfl, rfl⟩
set_option maxHeartbeats 400000 in
/-- combine.New of a length that may not be. -/
theorem newNo (n : Int) (w : World) (hn : n < 0 ∨ 4096 < n) : Calls Tryd.prog 22 #[.int .i64 n] w fun e w' => e = .returned (.tuple #[.pointer none, .int .i64 1]) ∧ w = w' := by
  by_cases h : n < 0
  · clear hn
    go_enter Tryd.func22, Tryd.ntmps22
    go_wp2
    go_ret2
    exact ⟨rfl, rfl⟩
  · have h2 : 4096 < n := by omega
    clear hn
    go_enter Tryd.func22, Tryd.ntmps22
    go_wp2
    go_ret2
    exact ⟨rfl, rfl⟩
set_option maxHeartbeats 1000000 in
/-- Add of what are no bits. -/
theorem addField (gB n v : Nat) (A : Option Addr) (k c : Nat) (row : List (Nat × List Nat)) (S : Value) (bs : List Nat) (w : World) (hB : BufS w gB n row S) (hn : n ≤ 4096) (hv : v < 4) (hr : Rd w w.heap.size A k (U8 bs)) (hb : ∀ b ∈ bs, b < 256) (hk : k ≤ 65536) (hno : Bm.isB bs = false) :
    Calls Tryd.prog 18 #[.pointer (some ⟨gB, 0, none⟩), .int .i64 (v : Int), .slice A k c] w fun e w' => e = .returned (.int .i64 5) ∧ Below w.heap.size w w' := by
  have k0 : w.cell? ⟨gB, 0, none⟩ = some (.int .i64 (n : Int)) := hB.blk.cell 0
  obtain ⟨T, hT⟩ : ∃ T, T = n + 6 := ⟨_, rfl⟩
  have CB := Lib.hid (fun W => vBits n W (by omega))
  rw [← hT] at CB
  have CPl := Lib.hid (fun W => patPlaces v T W hv (by omega))
  have CR := Lib.hid (fun (W : World) (h : Below w.heap.size w W) => right A k c bs W ((hr.below h).up h.size) hb hk)
  rw [hno] at CR
  clear hB hr hb hno hT
  go_enter Tryd.func18, Tryd.ntmps18
  go_wp2_with (first | (go_at_call 56; refine (CB.out _).mono ?_; rintro e w' ⟨rfl, rfl⟩) | (go_at_call 55; refine (CPl.out _).mono ?_; rintro e w1 ⟨A7, c7, rfl, own7, b1⟩) | (go_at_call 57; refine (CR.out _ b1).mono ?_; rintro e w' ⟨rfl, rfl⟩))
  go_ret
  exact ⟨rfl, b1⟩
set_option maxHeartbeats 1000000 in
/-- Add of too few bits, or too many. -/
theorem addForm (gB n v : Nat) (A : Option Addr) (k c : Nat) (row : List (Nat × List Nat)) (S : Value) (bs : List Nat) (w : World) (hB : BufS w gB n row S) (hn : n ≤ 4096) (hv : v < 4) (hr : Rd w w.heap.size A k (U8 bs)) (hb : ∀ b ∈ bs, b ≤ 1) (hk : k ≤ 65536) (hne : k ≠ n + 6) :
    Calls Tryd.prog 18 #[.pointer (some ⟨gB, 0, none⟩), .int .i64 (v : Int), .slice A k c] w fun e w' => e = .returned (.int .i64 13) ∧ Below w.heap.size w w' := by
  have k0 : w.cell? ⟨gB, 0, none⟩ = some (.int .i64 (n : Int)) := hB.blk.cell 0
  obtain ⟨T, hT⟩ : ∃ T, T = n + 6 := ⟨_, rfl⟩
  have CB := Lib.hid (fun W => vBits n W (by omega))
  rw [← hT] at CB
  have CPl := Lib.hid (fun W => patPlaces v T W hv (by omega))
  have CR := Lib.hid (fun (W : World) (h : Below w.heap.size w W) => right A k c bs W ((hr.below h).up h.size) (bit256 hb) hk)
  rw [Bm.isB_of hb] at CR
  have t1 : ((k : Int) != (T : Int)) = true := by simp <;> omega
  clear hB hr hb hT hne
  go_enter Tryd.func18, Tryd.ntmps18
  go_wp2_with (first | (go_at_call 56; refine (CB.out _).mono ?_; rintro e w' ⟨rfl, rfl⟩) | (go_at_call 55; refine (CPl.out _).mono ?_; rintro e w1 ⟨A7, c7, rfl, own7, b1⟩) | (go_at_call 57; refine (CR.out _ b1).mono ?_; rintro e w' ⟨rfl, rfl⟩))
  go_ret
  exact ⟨rfl, b1⟩
set_option maxHeartbeats 1000000 in
/-- Add of no such version. -/
theorem addArg (gB n : Nat) (v : Int) (A : Option Addr) (k c : Nat) (row : List (Nat × List Nat)) (S : Value) (w : World) (hB : BufS w gB n row S) (hn : n ≤ 4096) (hv : v < 0 ∨ 3 < v) :
    Calls Tryd.prog 18 #[.pointer (some ⟨gB, 0, none⟩), .int .i64 v, .slice A k c] w fun e w' => e = .returned (.int .i64 1) ∧ w = w' := by
  have k0 : w.cell? ⟨gB, 0, none⟩ = some (.int .i64 (n : Int)) := hB.blk.cell 0
  obtain ⟨T, hT⟩ : ∃ T, T = n + 6 := ⟨_, rfl⟩
  have CB := Lib.hid (fun W => vBits n W (by omega))
  rw [← hT] at CB
  have CPl := Lib.hid (fun W => patPlacesNo v (T : Int) W (by omega))
  clear hB hT hv
  go_enter Tryd.func18, Tryd.ntmps18
  go_wp2_with (first | (go_at_call 56; refine (CB.out _).mono ?_; rintro e w' ⟨rfl, rfl⟩) | (go_at_call 55; refine (CPl.out _).mono ?_; rintro e w' ⟨rfl, rfl⟩))
  go_ret
  exact ⟨rfl, rfl⟩
end Go.Proofs.YtknfpdlomgllhaaDoor
