/-
  Layer 13: a Buffer as a block; New, Soft, Decode, Counts, Bits, Reset.
-/
import Derived.Test.YtknfpdlomgllhaaDoorVi
import Derived.Test.YtknfpdlomgllhaaDoorMz
import Derived.Test.YtknfpdlomgllhaaDoorPb
import Derived.Test.YtknfpdlomgllhaaDoorMc
import Derived.Test.YtknfpdlomgllhaaDoorMh
import Derived.Test.YtknfpdlomgllhaaDoorNa
import Derived.Laws.CopyOwn
namespace Go.Proofs.YtknfpdlomgllhaaDoor
open Go.RowKit
set_option maxRecDepth 100000
set_option linter.unusedVariables false
set_option linter.unusedSimpArgs false

/-- A Buffer's cells. -/
def BF (n : Nat) (c : Nat → Nat) (S : Value) : Array Value := #[.int .i64 (n : Int), .int .i64 ((c 0 : Nat) : Int), .int .i64 ((c 1 : Nat) : Int), .int .i64 ((c 2 : Nat) : Int), .int .i64 ((c 3 : Nat) : Int), S]
/-- The sums: none yet, or a row. -/
def SumsB (w : World) (gB n : Nat) (l : List Int) (S : Value) : Prop := (S = .slice none 0 0 ∧ l = List.replicate (4 * (n + 6)) 0) ∨ ∃ gs, S = .slice (some ⟨gs, 0, none⟩) (4 * (n + 6)) (4 * (n + 6)) ∧ gs ≠ gB ∧ Blk w gs 3 (W4 l)
/-- A Buffer to which a row of versions came. -/
structure BufS (w : World) (gB n : Nat) (row : List (Nat × List Nat)) (S : Value) : Prop where
  blk : Blk w gB 97 (BF n (Cv.cv row) S)
  sums : SumsB w gB n (Cv.softs (n + 6) row) S
/-- Two blocks alone may be written. -/
structure Kp (w w' : World) (g : Nat) (o : Option Nat) : Prop where
  os : w'.os = w.os
  tape : w'.tape = w.tape
  output : w'.output = w.output
  size : w.heap.size ≤ w'.heap.size
  block : ∀ k, k < w.heap.size → k ≠ g → o ≠ some k → w'.heap[k]? = w.heap[k]?
theorem Kp.below {w w' : World} {g B : Nat} {o : Option Nat} (h : Kp w w' g o) (hB : B ≤ g) (ho : ∀ k, o = some k → B ≤ k) (hs : B ≤ w.heap.size) : Below B w w' :=
  ⟨h.os, h.tape, h.output, h.size, fun k hk => h.block k (by omega) (by omega) (fun e => by have := ho k e; omega)⟩
theorem Kp.blk {w w' : World} {g k : Nat} {o : Option Nat} {t : TypeId} {cs : Array Value} (h : Kp w w' g o) (hb : Blk w k t cs) (h1 : k ≠ g) (h2 : o ≠ some k) : Blk w' k t cs := (h.block k hb.lt h1 h2).trans hb
theorem Kp.of_below {w w' : World} {g : Nat} {o : Option Nat} (h : Below w.heap.size w w') : Kp w w' g o := ⟨h.os, h.tape, h.output, h.size, fun k hk _ _ => h.block k hk⟩
theorem Kp.trans {w w1 w2 : World} {g : Nat} {o o2 : Option Nat} (h : Kp w w1 g o) (h2 : Kp w1 w2 g o2) (ho : o2 = o ∨ ∃ k, o2 = some k ∧ w.heap.size ≤ k) : Kp w w2 g o :=
  ⟨h2.os.trans h.os, h2.tape.trans h.tape, h2.output.trans h.output, Nat.le_trans h.size h2.size, fun k hk h1 h3 => (h2.block k (by have := h.size; omega) h1 (by
    rcases ho with e | ⟨j, e, hj⟩
    · rw [e]; exact h3
    · rw [e]; intro e2; injection e2; omega)).trans (h.block k hk h1 h3)⟩
theorem BufS.after {w w' : World} {gB n : Nat} {row : List (Nat × List Nat)} {S : Value} (h : BufS w gB n row S) (hb : Below w.heap.size w w') : BufS w' gB n row S :=
  ⟨h.blk.after hb, by
    rcases h.sums with h1 | ⟨gs, h1, h2, h3⟩
    · exact .inl h1
    · exact .inr ⟨gs, h1, h2, h3.after hb⟩⟩
theorem BufS.lt {w : World} {gB n : Nat} {row : List (Nat × List Nat)} {S : Value} (h : BufS w gB n row S) : ∀ k, S.ownBlock = some k → k < w.heap.size := fun k hk => by
  rcases h.sums with ⟨h1, _⟩ | ⟨gs, h1, h2, h3⟩
  · rw [h1] at hk; cases hk
  · rw [h1] at hk
    have : gs = k := by simpa [Value.ownBlock] using hk
    rw [← this]; exact h3.lt
theorem infoBuf : (Tryd.prog.info? 97).map (·.size) = some 6 := by kernel_rfl
theorem infoBI : (Tryd.prog.info? 39).map (·.size) = some 1 := by kernel_rfl
theorem made64z (n : Nat) : (madeCells (Value.int .i64 0).cells (n * 1)).toList = I64 (List.replicate n 0) := by
  show (madeCells #[Value.int .i64 0] (n * 1)).toList = _
  rw [toList_madeCells_one, Nat.mul_one]
  simp [I64]
theorem own_blk64 {w : World} {base : Nat} {g n : Nat} {zs : List Int} (h : Own w base 3 (some ⟨g, 0, none⟩) n n (I64 zs)) : Blk w g 3 (W4 zs) := by
  rcases h.row.2 with ⟨hv, _⟩ | ⟨g', cap, cur, hv, hb, hg, h1, h2, h3, h4⟩
  · cases hv
  · injection hv with e1 e2 e3
    injection e1 with e1
    injection e1 with e1
    subst e1 e3
    show w.heap[g]? = _
    rw [hg]
    have : cur = (I64 zs).toArray := by
      rw [← h4, List.take_of_length_le (by rw [Array.length_toList]; omega)]
    rw [this]
    rfl
theorem W4_rd {w : World} {g n : Nat} {t : TypeId} {zs : List Int} (h : Blk w g t (W4 zs)) (hn : zs.length = n) : Rd w w.heap.size (some ⟨g, 0, none⟩) n (I64 zs) :=
  h.rd 0 n (I64 zs) (fun i u hu => by rw [Nat.zero_add]; unfold W4; rw [List.getElem?_toArray]; exact hu) (by rw [I64_length]; exact hn)
set_option maxHeartbeats 400000 in
/-- combine.New. -/
theorem newC (n : Nat) (w : World) (hn : n ≤ 4096) : Calls Tryd.prog 22 #[.int .i64 (n : Int)] w fun e w' => e = .returned (.tuple #[.pointer (some ⟨w.heap.size, 0, none⟩), .int .i64 0]) ∧ BufS w' w.heap.size n [] (.slice none 0 0) ∧ Below w.heap.size w w' ∧ w'.heap.size = w.heap.size + 1 := by
  have d : decide ((4096 : Int) < (n : Int)) = false := by simp <;> omega
  go_enter Tryd.func22, Tryd.ntmps22
  go_wp2_with (refine at_box rfl 97 _ rfl (BF n (Cv.cv []) (.slice none 0 0)) rfl ?_; intro w1 h1)
  go_ret2
  exact ⟨rfl, ⟨h1.row, .inl ⟨rfl, rfl⟩⟩, h1.bel, h1.size⟩
theorem splice_all (N : Nat) (l : List Int) (hl : l.length = N) : splice (I64 (List.replicate N 0)) 0 (I64 l) = I64 l := by
  unfold splice
  rw [List.take_zero, List.nil_append, Nat.zero_add, List.drop_eq_nil_of_le (by rw [I64_length, I64_length, List.length_replicate, hl]; exact Nat.le_refl _), List.append_nil]
/-- What Soft gives. -/
def SoftOk (w : World) (N : Nat) (l : List Int) (e : Ending) (w' : World) : Prop := e = .returned (.slice (some ⟨w.heap.size, 0, none⟩) N N) ∧ Blk w' w.heap.size 3 (W4 l) ∧ Below w.heap.size w w'
set_option maxHeartbeats 1000000 in
/-- (*Buffer).Soft. -/
theorem softC (gB n N : Nat) (c : Nat → Nat) (l : List Int) (S : Value) (w : World) (hb : Blk w gB 97 (BF n c S)) (hs : SumsB w gB n l S) (hn : n ≤ 4096) (hN : N = 4 * (n + 6)) (hl : l.length = N) :
    Calls Tryd.prog 19 #[.pointer (some ⟨gB, 0, none⟩)] w (SoftOk w N l) := by
  obtain ⟨i0, hi0, hz0, hz1, hz2⟩ := info_parts info3
  have CB := Lib.hid (fun W => vBits n W (by omega))
  have k0 : w.cell? ⟨gB, 0, none⟩ = some (.int .i64 (n : Int)) := hb.cell 0
  have k5 : w.cell? ⟨gB, 5, none⟩ = some S := hb.cell 5
  obtain ⟨T, hT⟩ : ∃ T, T = n + 6 := ⟨_, rfl⟩
  rw [← hT] at CB
  have eN : 4 * (T : Int) = (N : Int) := by omega
  have hN2 : N ≤ 20000 := by omega
  have HB : Hid (∀ W, Below w.heap.size w W → W.cell? ⟨gB, 5, none⟩ = some S) := fun W h => ((hb.after h).cell 5)
  have HSB := Lib.hid hs
  have HL := Lib.hid hl
  have HNN := Lib.hid hN
  clear hT hb hs hl hN
  go_enter Tryd.func19, Tryd.ntmps19
  go_upto_region 4 with (first | (go_at_call 56; refine (CB.out _).mono ?_; rintro e w' ⟨rfl, rfl⟩) | (at_make; refine wpList_make_full _ rfl _ _ 39 rfl w.heap.size 3 i0 (.int .i64 0) 1 Tryd.underlying39 hi0 hz0 hz1 .i64 .i64 _ _ N rfl rfl (by first | rfl | omega) (by first | rfl | omega) (by rw [hz2]; omega) (by unfold maxLen; omega) (Nat.le_refl _) ?_; intro w0 hown0 hgrow0))
  have hbel0 : Below w.heap.size w w0 := (Below.refl _ _).grown hgrow0 (Nat.le_refl _) (fun k h => by cases h)
  have q0 : Blk w0 w.heap.size 3 (W4 (List.replicate N 0)) := by
    rw [made64z] at hown0
    exact own_blk64 (n := N) ⟨hown0⟩
  have k50 := HB.out w0 hbel0
  have hrow0 : Hid (w0.heap[w.heap.size]? = some (.cells (I64 (List.replicate N 0)).toArray 3 (0, 0))) := q0
  clear hown0 hgrow0 hi0 hz0 hz1 hz2 k0 k5 q0
  rcases HSB.out with ⟨hS, hl0⟩ | ⟨gs, hS, hne, qs⟩
  · subst hS
    go_upto_region 5 with (refine wpList_copy_splice rfl _ _ 39 39 rfl 3 Tryd.underlying39 info3one _ _ N N 0 0 rfl rfl w.heap.size 0 (I64 (List.replicate N 0)) 3 hrow0.out [] (by simp) (fun h => by simp at h) (by simp) (by simp) w.heap.size w hbel0 (Nat.le_refl _) ?_; intro w3 hrow3 hbel3)
    have q3 : Blk w3 w.heap.size 3 (W4 l) := by
      have := hrow3.out
      rw [hl0, ← HNN.out]
      unfold Blk W4
      simpa [splice] using this
    go_wp2
    go_ret
    exact ⟨rfl, q3, hbel3⟩
  · rw [← HNN.out] at hS
    subst hS
    have qs0 := qs.after hbel0
    have HFit : Hid (0 + (I64 l).length ≤ (I64 (List.replicate N 0)).length) := by unfold Hid; rw [I64_length, I64_length, List.length_replicate, HL.out]; omega
    have HCS : Hid ((I64 l).length = Nat.min N N) := by unfold Hid; rw [I64_length, HL.out]; exact (Nat.min_self N).symm
    have HF : Hid (0 < (I64 l).length → ∃ ad, (some ⟨gs, 0, none⟩ : Option Addr) = some ad ∧ ∀ j v, (I64 l)[j]? = some v → w0.cell? (ad.add j) = some v) := fun _ => ⟨⟨gs, 0, none⟩, rfl, fun j v hv => by
      rw [Addr.add_lit, Nat.zero_add, qs0.cell]
      unfold W4
      rw [List.getElem?_toArray]
      exact hv⟩
    have HSA := Lib.hid (splice_all N l HL.out)
    clear qs qs0
    go_upto_region 5 with (refine wpList_copy_splice rfl _ _ 39 39 rfl 3 Tryd.underlying39 info3one _ _ N N N N rfl rfl w.heap.size 0 (I64 (List.replicate N 0)) 3 hrow0.out (I64 l) HCS.out (fun h => ⟨rfl, HF.out h⟩) HFit.out (I64_one l) w.heap.size w hbel0 (Nat.le_refl _) ?_; intro w3 hrow3 hbel3)
    have q3 : Blk w3 w.heap.size 3 (W4 l) := by
      have := hrow3.out
      rw [HSA.out] at this
      exact this
    go_wp2
    go_ret
    exact ⟨rfl, q3, hbel3⟩
/-- What a Buffer's Decode gives. -/
def BDec (w : World) (bs : List Nat) (e : Ending) (w' : World) : Prop := ∃ A n c, e = .returned (.tuple #[.slice A n c, .int .i64 0]) ∧ Own w' w.heap.size 5 A n c (U8 bs) ∧ Below w.heap.size w w'
set_option maxHeartbeats 400000 in
/-- (*Buffer).Decode. -/
theorem bdecode (gB n : Nat) (row : List (Nat × List Nat)) (S : Value) (w : World) (hb : BufS w gB n row S) (hn : n ≤ 4096) (hrl : row.length ≤ 31) (hT : Taps w) :
    Calls Tryd.prog 16 #[.pointer (some ⟨gB, 0, none⟩)] w (BDec w (Cv.rb (Cv.softs (n + 6) row) n 0 0)) := by
  have hl := Cv.softs_length (n + 6) row
  have hin : ∀ z ∈ Cv.softs (n + 6) row, -31 ≤ z ∧ z ≤ 31 := fun z hz => by have := Cv.softs_in (n + 6) row z hz; omega
  have CS := Lib.hid (softC gB n (4 * (n + 6)) (Cv.cv row) _ S w hb.blk hb.sums hn rfl hl)
  generalize Cv.softs (n + 6) row = l at *
  obtain ⟨N, hN⟩ : ∃ N, N = 4 * (n + 6) := ⟨_, rfl⟩
  rw [← hN] at CS hl
  have CD := Lib.hid (fun (g c : Nat) (W : World) (hc : N ≤ c) (hc2 : c ≤ 9223372036854775807) (h : Rd W W.heap.size (some ⟨g, 0, none⟩) N (I64 l)) (hT : Taps W) => decodeR (some ⟨g, 0, none⟩) N n c l W h hin hN hn hc hc2 hT)
  have hN2 : N ≤ 20000 := by omega
  have HL := Lib.hid hl
  clear hb hin hN hl
  go_enter Tryd.func16, Tryd.ntmps16
  go_wp2_with (first | (go_at_call 19; refine CS.out.mono ?_; rintro e w1 ⟨rfl, q1, b1⟩) | (go_at_call 53; refine (CD.out w.heap.size N w1 (Nat.le_refl _) (by omega) (W4_rd q1 HL.out) (hT.after b1)).mono ?_; rintro e w2 ⟨A2, n2, c2, rfl, own2, b2⟩))
  go_ret2
  exact ⟨A2, n2, c2, rfl, own2.down b1.size, Below.then_ b1 b2⟩
end Go.Proofs.YtknfpdlomgllhaaDoor
