/-
  Texts joined: Ua, Ub, Uc, Ud, Ue.
-/
import Derived.Test.YtibddlldgmidlabDoorVi
import Derived.Test.YtibddlldgmidlabDoorDn
import Derived.Test.YtibddlldgmidlabDoorPb
import Derived.Test.YtibddlldgmidlabDoorMc
import Derived.Test.YtibddlldgmidlabDoorMh
import Derived.Test.YtibddlldgmidlabDoorNa
import Derived.Laws.CopyOwn
import Derived.Test.YtibddlldgmidlabDoorSc
import Derived.Test.YtibddlldgmidlabDoorMg
import Derived.Test.YtibddlldgmidlabDoorRr
import Derived.Deep.DeepCutAuto
import Derived.Test.YtibddlldgmidlabDoorPa
import Derived.Test.YtibddlldgmidlabDoorRt
import Derived.Test.YtibddlldgmidlabDoorKe
import Derived.Test.YtibddlldgmidlabDoorRc
import Derived.Test.YtibddlldgmidlabDoorArg
import Derived.Deep.SlicePairs
import Derived.OpenShut
namespace Go.Proofs.YtibddlldgmidlabDoor
open Go.RowKit
set_option maxRecDepth 100000
set_option linter.unusedVariables false
set_option linter.unusedSimpArgs false

/-- A Buffer's cells. -/
def BF (n : Nat) (c : Nat → Nat) (S : Value) : Array Value := #[.int .i64 (n : Int), .int .i64 ((c 0 : Nat) : Int), .int .i64 ((c 1 : Nat) : Int), .int .i64 ((c 2 : Nat) : Int), .int .i64 ((c 3 : Nat) : Int), S]
/-- The sums: none yet, or a row. -/
def SumsB (w : World) (gB n : Nat) (l : List Int) (S : Value) : Prop := (S = .slice none 0 0 ∧ l = List.replicate (4 * (n + 6)) 0) ∨ ∃ gs, S = .slice (some ⟨gs, 0, none⟩) (4 * (n + 6)) (4 * (n + 6)) ∧ gs ≠ gB ∧ Blk w gs 3 (W4 l)
/-- A Buffer to which a row of versions came. -/
structure BufS (w : World) (gB n : Nat) (row : List (Nat × List Nat)) (S : Value) : Prop where
  blk : Blk w gB 68 (BF n (Cv.cv row) S)
  sums : SumsB w gB n (Cv.softs (n + 6) row) S
/-- Two blocks alone may be written. -/
structure Kp (w w' : World) (g : Nat) (o : Option Nat) : Prop where
  os : w'.os = w.os
  tape : w'.tape = w.tape
  output : w'.output = w.output
  size : w.heap.size ≤ w'.heap.size
  block : ∀ k, k < w.heap.size → k ≠ g → o ≠ some k → w'.heap[k]? = w.heap[k]?
theorem Kp.below {w w' : World} {g B : Nat} {o : Option Nat} (h : Kp w w' g o) (hB : B ≤ g) (ho : ∀ k, o = some k → B ≤ k) (hs : B ≤ w.heap.size) : Below B w w' :=
  ⟨h.os, h.tape, h.output, h.size, fun k hk => h.block k (by omega) (by omega) (fun e => by have := ho k e; omega)⟩
theorem Kp.blk {w w' : World} {g k : Nat} {o : Option Nat} {t : TypeId} {cs : Array Value} (h : Kp w w' g o) (hb : Blk w k t cs) (h1 : k ≠ g) (h2 : o ≠ some k) : Blk w' k t cs := (h.block k hb.lt h1 h2).trans hb
theorem Kp.of_below {w w' : World} {g : Nat} {o : Option Nat} (h : Below w.heap.size w w') : Kp w w' g o := ⟨h.os, h.tape, h.output, h.size, fun k hk _ _ => h.block k hk⟩
theorem Kp.trans {w w1 w2 : World} {g : Nat} {o o2 : Option Nat} (h : Kp w w1 g o) (h2 : Kp w1 w2 g o2) (ho : o2 = o ∨ ∃ k, o2 = some k ∧ w.heap.size ≤ k) : Kp w w2 g o :=
  ⟨h2.os.trans h.os, h2.tape.trans h.tape, h2.output.trans h.output, Nat.le_trans h.size h2.size, fun k hk h1 h3 => (h2.block k (by have := h.size; omega) h1 (by
    rcases ho with e | ⟨j, e, hj⟩
    · rw [e]; exact h3
    · rw [e]; intro e2; injection e2; omega)).trans (h.block k hk h1 h3)⟩
theorem BufS.after {w w' : World} {gB n : Nat} {row : List (Nat × List Nat)} {S : Value} (h : BufS w gB n row S) (hb : Below w.heap.size w w') : BufS w' gB n row S :=
  ⟨h.blk.after hb, by
    rcases h.sums with h1 | ⟨gs, h1, h2, h3⟩
    · exact .inl h1
    · exact .inr ⟨gs, h1, h2, h3.after hb⟩⟩
theorem BufS.lt {w : World} {gB n : Nat} {row : List (Nat × List Nat)} {S : Value} (h : BufS w gB n row S) : ∀ k, S.ownBlock = some k → k < w.heap.size := fun k hk => by
  rcases h.sums with ⟨h1, _⟩ | ⟨gs, h1, h2, h3⟩
  · rw [h1] at hk; cases hk
  · rw [h1] at hk
    have : gs = k := by simpa [Value.ownBlock] using hk
    rw [← this]; exact h3.lt
theorem infoBuf : (Tryd.prog.info? 68).map (·.size) = some 6 := by kernel_rfl
theorem infoBI : (Tryd.prog.info? 31).map (·.size) = some 1 := by kernel_rfl
theorem made64z (n : Nat) : (madeCells (Value.int .i64 0).cells (n * 1)).toList = I64 (List.replicate n 0) := by
  show (madeCells #[Value.int .i64 0] (n * 1)).toList = _
  rw [toList_madeCells_one, Nat.mul_one]
  simp [I64]
theorem own_blk64 {w : World} {base : Nat} {g n : Nat} {zs : List Int} (h : Own w base 3 (some ⟨g, 0, none⟩) n n (I64 zs)) : Blk w g 3 (W4 zs) := by
  rcases h.row.2 with ⟨hv, _⟩ | ⟨g', cap, cur, hv, hb, hg, h1, h2, h3, h4⟩
  · cases hv
  · injection hv with e1 e2 e3
    injection e1 with e1
    injection e1 with e1
    subst e1 e3
    show w.heap[g]? = _
    rw [hg]
    have : cur = (I64 zs).toArray := by
      rw [← h4, List.take_of_length_le (by rw [Array.length_toList]; omega)]
    rw [this]
    rfl
theorem W4_rd {w : World} {g n : Nat} {t : TypeId} {zs : List Int} (h : Blk w g t (W4 zs)) (hn : zs.length = n) : Rd w w.heap.size (some ⟨g, 0, none⟩) n (I64 zs) :=
  h.rd 0 n (I64 zs) (fun i u hu => by rw [Nat.zero_add]; unfold W4; rw [List.getElem?_toArray]; exact hu) (by rw [I64_length]; exact hn)
set_option maxHeartbeats 400000 in
/-- combine.New. -/
theorem newC (n : Nat) (w : World) (hn : n ≤ 4096) : Calls Tryd.prog 16 #[.int .i64 (n : Int)] w fun e w' => e = .returned (.tuple #[.pointer (some ⟨w.heap.size, 0, none⟩), .int .i64 0]) ∧ BufS w' w.heap.size n [] (.slice none 0 0) ∧ Below w.heap.size w w' ∧ w'.heap.size = w.heap.size + 1 := by
  have d : decide ((4096 : Int) < (n : Int)) = false := by simp <;> omega
  go_enter Tryd.func16, Tryd.ntmps16
  go_wp2_with (refine at_box rfl 68 _ rfl (BF n (Cv.cv []) (.slice none 0 0)) rfl ?_; intro w1 h1)
  go_ret2
  exact ⟨rfl, ⟨h1.row, .inl ⟨rfl, rfl⟩⟩, h1.bel, h1.size⟩
theorem splice_all (N : Nat) (l : List Int) (hl : l.length = N) : splice (I64 (List.replicate N 0)) 0 (I64 l) = I64 l := by
  unfold splice
  rw [List.take_zero, List.nil_append, Nat.zero_add, List.drop_eq_nil_of_le (by rw [I64_length, I64_length, List.length_replicate, hl]; exact Nat.le_refl _), List.append_nil]
/-- What Soft gives. -/
def SoftOk (w : World) (N : Nat) (l : List Int) (e : Ending) (w' : World) : Prop := e = .returned (.slice (some ⟨w.heap.size, 0, none⟩) N N) ∧ Blk w' w.heap.size 3 (W4 l) ∧ Below w.heap.size w w'
set_option maxHeartbeats 1000000 in
/-- (*Buffer).Soft. -/
theorem softC (gB n N : Nat) (c : Nat → Nat) (l : List Int) (S : Value) (w : World) (hb : Blk w gB 68 (BF n c S)) (hs : SumsB w gB n l S) (hn : n ≤ 4096) (hN : N = 4 * (n + 6)) (hl : l.length = N) :
    Calls Tryd.prog 13 #[.pointer (some ⟨gB, 0, none⟩)] w (SoftOk w N l) := by
  obtain ⟨i0, hi0, hz0, hz1, hz2⟩ := info_parts info3
  have CB := Lib.hid (fun W => vBits n W (by omega))
  have k0 : w.cell? ⟨gB, 0, none⟩ = some (.int .i64 (n : Int)) := hb.cell 0
  have k5 : w.cell? ⟨gB, 5, none⟩ = some S := hb.cell 5
  obtain ⟨T, hT⟩ : ∃ T, T = n + 6 := ⟨_, rfl⟩
  rw [← hT] at CB
  have eN : 4 * (T : Int) = (N : Int) := by omega
  have hN2 : N ≤ 20000 := by omega
  have HB : Hid (∀ W, Below w.heap.size w W → W.cell? ⟨gB, 5, none⟩ = some S) := fun W h => ((hb.after h).cell 5)
  have HSB := Lib.hid hs
  have HL := Lib.hid hl
  have HNN := Lib.hid hN
  clear hT hb hs hl hN
  go_enter Tryd.func13, Tryd.ntmps13
  go_upto_region 4 with (first | (go_at_call 39; refine (CB.out _).mono ?_; rintro e w' ⟨rfl, rfl⟩) | (at_make; refine wpList_make_full _ rfl _ _ 31 rfl w.heap.size 3 i0 (.int .i64 0) 1 Tryd.underlying31 hi0 hz0 hz1 .i64 .i64 _ _ N rfl rfl (by first | rfl | omega) (by first | rfl | omega) (by rw [hz2]; omega) (by unfold maxLen; omega) (Nat.le_refl _) ?_; intro w0 hown0 hgrow0))
  have hbel0 : Below w.heap.size w w0 := (Below.refl _ _).grown hgrow0 (Nat.le_refl _) (fun k h => by cases h)
  have q0 : Blk w0 w.heap.size 3 (W4 (List.replicate N 0)) := by
    rw [made64z] at hown0
    exact own_blk64 (n := N) ⟨hown0⟩
  have k50 := HB.out w0 hbel0
  have hrow0 : Hid (w0.heap[w.heap.size]? = some (.cells (I64 (List.replicate N 0)).toArray 3 (0, 0))) := q0
  clear hown0 hgrow0 hi0 hz0 hz1 hz2 k0 k5 q0
  rcases HSB.out with ⟨hS, hl0⟩ | ⟨gs, hS, hne, qs⟩
  · subst hS
    go_upto_region 5 with (refine wpList_copy_splice rfl _ _ 31 31 rfl 3 Tryd.underlying31 info3one _ _ N N 0 0 rfl rfl w.heap.size 0 (I64 (List.replicate N 0)) 3 hrow0.out [] (by simp) (fun h => by simp at h) (by simp) (by simp) w.heap.size w hbel0 (Nat.le_refl _) ?_; intro w3 hrow3 hbel3)
    have q3 : Blk w3 w.heap.size 3 (W4 l) := by
      have := hrow3.out
      rw [hl0, ← HNN.out]
      unfold Blk W4
      simpa [splice] using this
    go_wp2
    go_ret
    exact ⟨rfl, q3, hbel3⟩
  · rw [← HNN.out] at hS
    subst hS
    have qs0 := qs.after hbel0
    have HFit : Hid (0 + (I64 l).length ≤ (I64 (List.replicate N 0)).length) := by unfold Hid; rw [I64_length, I64_length, List.length_replicate, HL.out]; omega
    have HCS : Hid ((I64 l).length = Nat.min N N) := by unfold Hid; rw [I64_length, HL.out]; exact (Nat.min_self N).symm
    have HF : Hid (0 < (I64 l).length → ∃ ad, (some ⟨gs, 0, none⟩ : Option Addr) = some ad ∧ ∀ j v, (I64 l)[j]? = some v → w0.cell? (ad.add j) = some v) := fun _ => ⟨⟨gs, 0, none⟩, rfl, fun j v hv => by
      rw [Addr.add_lit, Nat.zero_add, qs0.cell]
      unfold W4
      rw [List.getElem?_toArray]
      exact hv⟩
    have HSA := Lib.hid (splice_all N l HL.out)
    clear qs qs0
    go_upto_region 5 with (refine wpList_copy_splice rfl _ _ 31 31 rfl 3 Tryd.underlying31 info3one _ _ N N N N rfl rfl w.heap.size 0 (I64 (List.replicate N 0)) 3 hrow0.out (I64 l) HCS.out (fun h => ⟨rfl, HF.out h⟩) HFit.out (I64_one l) w.heap.size w hbel0 (Nat.le_refl _) ?_; intro w3 hrow3 hbel3)
    have q3 : Blk w3 w.heap.size 3 (W4 l) := by
      have := hrow3.out
      rw [HSA.out] at this
      exact this
    go_wp2
    go_ret
    exact ⟨rfl, q3, hbel3⟩
/-- What a Buffer's Decode gives. -/
def BDec (w : World) (bs : List Nat) (e : Ending) (w' : World) : Prop := ∃ A n c, e = .returned (.tuple #[.slice A n c, .int .i64 0]) ∧ Own w' w.heap.size 5 A n c (U8 bs) ∧ Below w.heap.size w w'
set_option maxHeartbeats 400000 in
/-- (*Buffer).Decode. -/
theorem bdecode (gB n : Nat) (row : List (Nat × List Nat)) (S : Value) (w : World) (hb : BufS w gB n row S) (hn : n ≤ 4096) (hrl : row.length ≤ 31) (hT : Taps w) :
    Calls Tryd.prog 10 #[.pointer (some ⟨gB, 0, none⟩)] w (BDec w (Cv.rb (Cv.softs (n + 6) row) n 0 0)) := by
  have hl := Cv.softs_length (n + 6) row
  have hin : ∀ z ∈ Cv.softs (n + 6) row, -31 ≤ z ∧ z ≤ 31 := fun z hz => by have := Cv.softs_in (n + 6) row z hz; omega
  have CS := Lib.hid (softC gB n (4 * (n + 6)) (Cv.cv row) _ S w hb.blk hb.sums hn rfl hl)
  generalize Cv.softs (n + 6) row = l at *
  obtain ⟨N, hN⟩ : ∃ N, N = 4 * (n + 6) := ⟨_, rfl⟩
  rw [← hN] at CS hl
  have CD := Lib.hid (fun (g c : Nat) (W : World) (hc : N ≤ c) (hc2 : c ≤ 9223372036854775807) (h : Rd W W.heap.size (some ⟨g, 0, none⟩) N (I64 l)) (hT : Taps W) => decodeR (some ⟨g, 0, none⟩) N n c l W h hin hN hn hc hc2 hT)
  have hN2 : N ≤ 20000 := by omega
  have HL := Lib.hid hl
  clear hb hin hN hl
  go_enter Tryd.func10, Tryd.ntmps10
  go_wp2_with (first | (go_at_call 13; refine CS.out.mono ?_; rintro e w1 ⟨rfl, q1, b1⟩) | (go_at_call 37; refine (CD.out w.heap.size N w1 (Nat.le_refl _) (by omega) (W4_rd q1 HL.out) (hT.after b1)).mono ?_; rintro e w2 ⟨A2, n2, c2, rfl, own2, b2⟩))
  go_ret2
  exact ⟨A2, n2, c2, rfl, own2.down b1.size, Below.then_ b1 b2⟩
end Go.Proofs.YtibddlldgmidlabDoor

namespace Go.Proofs.YtibddlldgmidlabDoor
open Go.RowKit
set_option linter.unusedVariables false
set_option linter.unusedSimpArgs false

theorem W4_setI (A : List Int) (j : Nat) (z : Int) : (W4 A).setIfInBounds j (.int .i64 z) = W4 (A.set j z) := by
  unfold W4 I64
  simp [List.map_set]
theorem set_getI (l : List Int) (i : Nat) (x : Int) (j : Nat) (h : i < l.length) : (l.set i x).getD j 0 = if i = j then x else l.getD j 0 := by
  by_cases hj : j < l.length
  · rw [Bm.getD_lt _ _ _ (by rw [List.length_set]; exact hj), Bm.getD_lt _ _ _ hj, List.getElem_set]
  · rw [Bm.getD_ge _ _ _ (by rw [List.length_set]; omega), Bm.getD_ge _ _ _ (by omega), if_neg (by omega)]
theorem Upd.drew {w w' : World} {g : Nat} {t : TypeId} {cs : Array Value} (h : Upd w w' g t cs) : Upd w w'.drew g t cs := ⟨h.size, h.row.drew, h.oth, h.os, h.tape, h.output⟩
theorem Upd.upd {w w1 w2 : World} {g : Nat} {t t2 : TypeId} {cs ds : Array Value} (h : Upd w w1 g t cs) (h2 : Upd w1 w2 g t2 ds) : Upd w w2 g t2 ds :=
  ⟨h2.size.trans h.size, h2.row, fun k hk => (h2.oth k hk).trans (h.oth k hk), h2.os.trans h.os, h2.tape.trans h.tape, h2.output.trans h.output⟩
theorem Upd.self {w : World} {g : Nat} {t : TypeId} {cs : Array Value} (h : Blk w g t cs) : Upd w w g t cs := ⟨rfl, h, fun _ _ => rfl, rfl, rfl, rfl⟩
theorem Kp.drewUpd {w w' : World} {g : Nat} {t : TypeId} {cs : Array Value} {o : Option Nat} (h : Upd w.drew w' g t cs) : Kp w w' g o :=
  ⟨h.os, h.tape, h.output, by rw [h.size]; exact Nat.le_refl _, fun k hk h1 _ => h.oth k h1⟩
theorem cell_of_heap {w w' : World} {g : Nat} (h : w'.heap[g]? = w.heap[g]?) (i : Nat) : w'.cell? ⟨g, i, none⟩ = w.cell? ⟨g, i, none⟩ := by
  simp only [World.cell?, h]
/-- The sums, with the first bits of a version added. -/
def adt (l : List Int) (v : Nat) (p : List Nat) (t : Nat) : List Int := (List.range l.length).map fun k => if Cv.vr (k % 4) (k / 4) = v ∧ k / 4 < t then l.getD k 0 + Cv.sn (p.getD (k / 4) 0) else l.getD k 0
theorem adt_length (l : List Int) (v : Nat) (p : List Nat) (t : Nat) : (adt l v p t).length = l.length := by simp [adt]
theorem adt_get (l : List Int) (v : Nat) (p : List Nat) (t k : Nat) (h : k < l.length) : (adt l v p t).getD k 0 = if Cv.vr (k % 4) (k / 4) = v ∧ k / 4 < t then l.getD k 0 + Cv.sn (p.getD (k / 4) 0) else l.getD k 0 := by simp [adt, List.getD, h]
theorem adt_none (l : List Int) (v : Nat) (p : List Nat) : adt l v p 0 = l := by
  refine Cv.ext_int (adt_length l v p 0) fun k hk => ?_
  rw [adt_length] at hk
  rw [adt_get l v p 0 k hk, if_neg (by omega)]
theorem adt_all (l : List Int) (v : Nat) (p : List Nat) (T : Nat) (hl : l.length = 4 * T) : adt l v p T = Cv.addv l (v, p) := by
  refine Cv.ext_int (by rw [adt_length, Cv.addv_length]) fun k hk => ?_
  rw [adt_length] at hk
  rw [adt_get l v p T k hk, Cv.addv_get l (v, p) k hk]
  unfold Cv.ctr
  by_cases h : Cv.vr (k % 4) (k / 4) = v
  · rw [if_pos ⟨h, by omega⟩, if_pos h]
  · rw [if_neg (fun hc => h hc.1), if_neg h, Int.add_zero]
theorem adt_at (l : List Int) (v : Nat) (p : List Nat) (T t : Nat) (hl : l.length = 4 * T) (hv : v < 4) (ht : t < T) : (adt l v p t).getD (4 * t + Cv.st v t) 0 = l.getD (4 * t + Cv.st v t) 0 ∧ (adt l v p t).set (4 * t + Cv.st v t) (l.getD (4 * t + Cv.st v t) 0 + Cv.sn (p.getD t 0)) = adt l v p (t + 1) := by
  have hs := Cv.st_lt v t
  have e1 : (4 * t + Cv.st v t) % 4 = Cv.st v t := by omega
  have e2 : (4 * t + Cv.st v t) / 4 = t := by omega
  have hp : 4 * t + Cv.st v t < l.length := by omega
  constructor
  · rw [adt_get l v p t _ hp, e1, e2, if_neg (by omega)]
  · refine Cv.ext_int (by rw [List.length_set, adt_length, adt_length]) fun k hk => ?_
    rw [List.length_set, adt_length] at hk
    rw [set_getI _ _ _ _ (by rw [adt_length]; exact hp), adt_get l v p (t + 1) k hk, adt_get l v p t k hk]
    by_cases h : 4 * t + Cv.st v t = k
    · subst h
      rw [if_pos rfl, e1, e2, Cv.vr_st v t hv, if_pos ⟨rfl, by omega⟩]
    · rw [if_neg h]
      by_cases hv2 : Cv.vr (k % 4) (k / 4) = v
      · have hne : k / 4 ≠ t := by
          intro hc
          apply h
          have := Cv.st_vr (k % 4) (k / 4) (by omega)
          rw [hv2, hc] at this
          omega
        by_cases hlt : k / 4 < t
        · rw [if_pos ⟨hv2, hlt⟩, if_pos ⟨hv2, by omega⟩]
        · rw [if_neg (by omega), if_neg (by omega)]
      · rw [if_neg (fun hc => hv2 hc.1), if_neg (fun hc => hv2 hc.1)]
theorem BF_set (n : Nat) (row : List (Nat × List Nat)) (S : Value) (v : Nat) (p : List Nat) (hv : v < 4) : (BF n (Cv.cv row) S).setIfInBounds (1 + v) (.int .i64 ((Cv.cv row v + 1 : Nat) : Int)) = BF n (Cv.cv (row ++ [(v, p)])) S := by
  have h : v = 0 ∨ v = 1 ∨ v = 2 ∨ v = 3 := by omega
  unfold BF
  rcases h with rfl | rfl | rfl | rfl <;> simp [Cv.cv_snoc]
theorem BF_cell (n : Nat) (c : Nat → Nat) (S : Value) (v : Nat) (hv : v < 4) : (BF n c S)[1 + v]? = some (.int .i64 ((c v : Nat) : Int)) := by
  have h : v = 0 ∨ v = 1 ∨ v = 2 ∨ v = 3 := by omega
  rcases h with rfl | rfl | rfl | rfl <;> rfl
theorem cv_le (row : List (Nat × List Nat)) (v : Nat) : Cv.cv row v ≤ row.length := List.length_filter_le _ _
theorem sn_val (x : Nat) : (if x = 0 then (1 : Int) else -1) = Cv.sn x := rfl
theorem nil_nil : ∀ W, (binOp .eql 31 (.slice none 0 0) (.slice none 0 0)).run Tryd.prog W = .ok (.bool true) W := fun _ => by kernel_rfl
theorem some_nil (g n c : Nat) : ∀ W, (binOp .eql 31 (.slice (some ⟨g, 0, none⟩) n c) (.slice none 0 0)).run Tryd.prog W = .ok (.bool false) W := fun _ => by kernel_rfl
/-- What Add gives. -/
def AddOk (w : World) (gB n : Nat) (row : List (Nat × List Nat)) (S : Value) (v : Nat) (p : List Nat) (e : Ending) (w' : World) : Prop := e = .returned (.int .i64 0) ∧ ∃ S', BufS w' gB n (row ++ [(v, p)]) S' ∧ Kp w w' gB S.ownBlock ∧ (S'.ownBlock = S.ownBlock ∨ ∃ k, S'.ownBlock = some k ∧ w.heap.size ≤ k)
set_option maxHeartbeats 2000000 in
set_option maxRecDepth 100000 in
/-- (*Buffer).Add, the first. -/
theorem add0 (gB n v T c : Nat) (b off : Nat) (row : List (Nat × List Nat)) (p : List Nat) (w : World) (hB : BufS w gB n row (.slice none 0 0)) (hn : n ≤ 4096) (hrl : row.length ≤ 30) (hv : v < 4) (hT : T = n + 6) (hr : Rd w w.heap.size (some ⟨b, off, none⟩) T (U8 p)) (hp : ∀ x ∈ p, x ≤ 1) (hbB : b ≠ gB) (hbl : b < w.heap.size) :
    Calls Tryd.prog 12 #[.pointer (some ⟨gB, 0, none⟩), .int .i64 (v : Int), .slice (some ⟨b, off, none⟩) T c] w (AddOk w gB n row (.slice none 0 0) v p) := by
  have hl := Cv.softs_length (n + 6) row
  have HZB : Hid (∀ k, -30 ≤ (Cv.softs (n + 6) row).getD k 0 ∧ (Cv.softs (n + 6) row).getD k 0 ≤ 30) := fun k => by
    by_cases hk : k < (Cv.softs (n + 6) row).length
    · rw [Bm.getD_lt _ _ _ hk]
      have := Cv.softs_in (n + 6) row _ (List.getElem_mem hk)
      omega
    · rw [Bm.getD_ge _ _ _ (by omega)]; omega
  have HSN : Hid (Cv.softs (n + 6) (row ++ [(v, p)]) = Cv.addv (Cv.softs (n + 6) row) (v, p)) := Cv.softs_snoc _ _ _
  have CB := Lib.hid (fun W => vBits n W (by omega))
  rw [← hT] at CB
  have CPl := Lib.hid (fun W => patPlaces v T W hv (by omega))
  have CR := Lib.hid (fun (W : World) (hb : Below w.heap.size w W) => right (some ⟨b, off, none⟩) T c p W ((hr.below hb).up hb.size) (bit256 hp) (by omega))
  rw [Bm.isB_of hp] at CR
  have k0 : w.cell? ⟨gB, 0, none⟩ = some (.int .i64 (n : Int)) := hB.blk.cell 0
  have HBF := Lib.hid (fun S => BF_set n row S v p hv)
  have hcl := cv_le row v
  have t1 : ((T : Int) != (T : Int)) = false := by simp
  have hT2 : T ≤ 5000 := by omega
  have hT6 : 6 ≤ T := by omega
  obtain ⟨N, hN⟩ : ∃ N, N = 4 * (n + 6) := ⟨_, rfl⟩
  have HN := Lib.hid hN
  have HNT : Hid (N = 4 * T) := by unfold Hid; omega
  have HLT : Hid ((Cv.softs (n + 6) row).length = 4 * T) := by unfold Hid; rw [hl, hT]
  have hN2 : N ≤ 20000 := by omega
  clear hT hN
  go_enter Tryd.func12, Tryd.ntmps12
  go_upto_region 4 with (first | (go_at_call 39; refine (CB.out _).mono ?_; rintro e w' ⟨rfl, rfl⟩) | (go_at_call 38; refine (CPl.out _).mono ?_; rintro e w1 ⟨A7, c7, rfl, own7, b1⟩))
  have qB1 := hB.blk.after b1
  have k5 : w1.cell? ⟨gB, 5, none⟩ = some (.slice none 0 0) := qB1.cell 5
  have lB := hB.blk.lt
  obtain ⟨g7, hA7, hg7, hg7l, h7rest⟩ := own7.slot 0 (by omega)
  clear h7rest
  subst hA7
  have HC7 : Hid (∀ t, t < T → w1.cell? ⟨g7, t, none⟩ = some (.int .i64 ((4 * t + Cv.st v t : Nat) : Int))) := fun t ht => by
    obtain ⟨bb, oo, e, _, hc⟩ := own7.rd.cell64 t ht
    injection e with e
    injection e with e1 e2
    subst e1 e2
    rw [Nat.zero_add] at hc
    rw [hc, plc_get v T t ht]
  have HCP : Hid (∀ t, t < T → w1.cell? ⟨b, off + t, none⟩ = some (.int .u8 ((p.getD t 0 : Nat) : Int))) := fun t ht => by
    obtain ⟨bb, oo, e, _, hc⟩ := (hr.below b1).cell8 t ht
    injection e with e
    injection e with e1 e2
    subst e1 e2
    exact hc
  clear own7 k0 CB CPl
  have hnil := nil_nil
  have CSo := Lib.hid (softC gB n N (Cv.cv row) _ _ w1 qB1 (hB.after b1).sums hn HN.out (by rw [hl, HN.out]))
  clear hl
  generalize hll : Cv.softs (n + 6) row = l at *
  have HLL := Lib.hid hll.symm
  clear hll
  go_upto_region 11 with (go_at_call 40; refine (CR.out _ b1).mono ?_; rintro e w' ⟨rfl, rfl⟩)
  have szB5 : 5 < (BF n (Cv.cv row) (.slice none 0 0)).size := by show 5 < 6; omega
  go_upto_region 12 with (first | (go_at_call 13; refine CSo.out.mono ?_; rintro e w4 ⟨rfl, qs4, b4⟩) | (refine at_cell rfl 31 _ _ rfl gB 5 (.slice (some ⟨w1.heap.size, 0, none⟩) N N) rfl rfl 68 (BF n (Cv.cv row) (.slice none 0 0)) (qB1.after b4) szB5 infoBI rfl ?_; intro w5 h5))
  have hgsB : w1.heap.size ≠ gB := by have := b1.size; omega
  have hgs7 : g7 ≠ w1.heap.size := by omega
  have hgsb : b ≠ w1.heap.size := by have := b1.size; omega
  have hgsl : w.heap.size ≤ w1.heap.size := b1.size
  have qs5 := h5.blk qs4 hgsB
  have HQB5 : Hid (Blk w5 gB 68 (BF n (Cv.cv row) (.slice (some ⟨w1.heap.size, 0, none⟩) N N))) := h5.row
  have hg7B : g7 ≠ gB := by omega
  have HC75 : Hid (∀ t, t < T → w5.cell? ⟨g7, t, none⟩ = some (.int .i64 ((4 * t + Cv.st v t : Nat) : Int))) := fun t ht => (cell_of_heap ((h5.oth g7 hg7B).trans (b4.block g7 hg7l)) t).trans (HC7.out t ht)
  have HCP5 : Hid (∀ t, t < T → w5.cell? ⟨b, off + t, none⟩ = some (.int .u8 ((p.getD t 0 : Nat) : Int))) := fun t ht => (cell_of_heap ((h5.oth b hbB).trans (b4.block b (by have := b1.size; omega))) (off + t)).trans (HCP.out t ht)
  have HKP0 : Hid (Kp w w5 gB none) := ((Kp.of_below (g := gB) (o := none) (Below.then_ b1 b4)).trans ⟨h5.os, h5.tape, h5.output, by rw [h5.size]; exact Nat.le_refl _, fun k hk h1 _ => h5.oth k h1⟩ (.inl rfl))
  have hup0 : Upd w5 w5 w1.heap.size 3 (W4 (adt l v p 0)) := by rw [adt_none]; exact Upd.self qs5
  obtain ⟨gs, hgs⟩ : ∃ g, g = w1.heap.size := ⟨_, rfl⟩
  rw [← hgs] at hgsB hgs7 hgsb hgsl HQB5 hup0
  rw [← hgs]
  have HKO : Hid ((some gs : Option Nat) = none ∨ ∃ k, (some gs : Option Nat) = some k ∧ w.heap.size ≤ k) := .inr ⟨gs, rfl, hgsl⟩
  have HOWN : Hid ((Value.slice (some ⟨gs, 0, none⟩) N N).ownBlock = (Value.slice none 0 0).ownBlock ∨ ∃ k, (Value.slice (some ⟨gs, 0, none⟩) N N).ownBlock = some k ∧ w.heap.size ≤ k) := .inr ⟨gs, rfl, hgsl⟩
  clear h5 qs4 qs5 b4 CSo HC7 HCP k5 qB1 hgs
  have HUP := Lib.hid hup0
  have HK5 := Lib.hid (HQB5.out.cell 5)
  clear hup0
  go_wp2
  go_loopw [46] (fun x wr => ∃ t : Nat, t ≤ T ∧ x = .int .i64 t ∧ Upd w5 wr gs 3 (W4 (adt l v p t))) (fun x _ => T - (intOf x).toNat)
  case atStart => exact ⟨0, by omega, rfl, HUP.out⟩
  case round =>
    obtain ⟨t, ht, rfl, hup⟩ := hrel
    have k5r : wr.cell? ⟨gB, 5, none⟩ = some (.slice (some ⟨gs, 0, none⟩) N N) := (cell_of_heap (hup.oth gB (Ne.symm hgsB)) 5).trans (HK5.out.trans rfl)
    by_cases hlt : t < T
    · have hst := Cv.st_lt v t
      have k7 := (cell_of_heap (hup.oth g7 hgs7) t).trans (HC75.out t hlt)
      have kp := (cell_of_heap (hup.oth b hgsb) (off + t)).trans (HCP5.out t hlt)
      obtain ⟨ha1, ha2⟩ := adt_at l v p T t HLT.out hv hlt
      have hzb := HZB.out (4 * t + Cv.st v t)
      have hpl : 4 * t + Cv.st v t < N := by have := HNT.out; omega
      have q := hup.row
      have kq := (q.cell (4 * t + Cv.st v t)).trans (W4_get _ _ (by rw [adt_length, HLT.out, ← HNT.out]; exact hpl))
      rw [ha1] at kq
      have sz0 : 4 * t + Cv.st v t < (W4 (adt l v p t)).size := by rw [W4_size, adt_length, HLT.out, ← HNT.out]; exact hpl
      have HSET := Lib.hid ha2
      have COf := Lib.hid (fun W => softOf (p.getD t 0) W)
      rw [sn_val] at COf
      obtain ⟨x, hx⟩ : ∃ x, x = p.getD t 0 := ⟨_, rfl⟩
      rw [← hx] at COf kp HSET
      have hsn : Cv.sn x = 1 ∨ Cv.sn x = -1 := by unfold Cv.sn; split <;> simp
      obtain ⟨y, hy⟩ : ∃ y, y = l.getD (4 * t + Cv.st v t) 0 := ⟨_, rfl⟩
      rw [← hy] at kq hzb HSET
      have CAd := Lib.hid (fun W => softAdd y (Cv.sn x) W)
      have hcl2 : Cv.clip (Cv.clip y + Cv.clip (Cv.sn x)) = y + Cv.sn x := by
        rw [Cv.clip_in (z := y) (by omega) (by omega), Cv.clip_in (z := Cv.sn x) (by omega) (by omega), Cv.clip_in (by omega) (by omega)]
      rw [hcl2] at CAd
      obtain ⟨y2, hy2⟩ : ∃ y2, y2 = y + Cv.sn x := ⟨_, rfl⟩
      rw [← hy2] at CAd HSET
      obtain ⟨M, hM⟩ : ∃ M, M = adt l v p t := ⟨_, rfl⟩
      rw [← hM] at q sz0 HSET
      generalize hpp : 4 * t + Cv.st v t = p' at *
      have f64 : IntKind.i64.wrap (p' : Int) = (p' : Int) := IntWalk.i64_in _ (by omega)
      have f1 : (t : Int) < (T : Int) := by omega
      have f2 : (p' : Int) < (N : Int) := by omega
      have dt : decide ((t : Int) < (T : Int)) = true := by simp <;> omega
      generalize Cv.sn x = s1 at *
      clear hx hy hcl2 hy2 hM hpp ha1 ha2 hsn
      go_upto_region 15 with fail
      have hS0 : wr.drew.cell? ⟨gB, 5, none⟩ = some (.slice (some ⟨gs, 0, none⟩) N N) ∧ wr.drew.cell? ⟨b, off + t, none⟩ = some (.int .u8 (x : Int)) := ⟨k5r, kp⟩
      have HK : Hid (∀ W : World, (∀ k, k ≠ gs → W.heap[k]? = wr.drew.heap[k]?) → W.cell? ⟨gB, 5, none⟩ = some (.slice (some ⟨gs, 0, none⟩) N N) ∧ W.cell? ⟨b, off + t, none⟩ = some (.int .u8 (x : Int))) := fun W h => ⟨(cell_of_heap (h gB (Ne.symm hgsB)) 5).trans k5r, (cell_of_heap (h b hgsb) (off + t)).trans kp⟩
      have kq0 : wr.drew.cell? ⟨gs, p', none⟩ = some (.int .i64 y) := kq
      have q0 : Blk wr.drew gs 3 (W4 M) := q.drew
      have sz := sz0
      clear kq q k5r kp sz0
      refine wp_region_noPanic ?_
      refine wp_region_held_drew (S := fun W => W.cell? ⟨gB, 5, none⟩ = some (.slice (some ⟨gs, 0, none⟩) N N) ∧ W.cell? ⟨b, off + t, none⟩ = some (.int .u8 (x : Int))) (by kernel_rfl) hS0 (fun hHeld => ?_)
      refine wpAnyH_take (i := 0) (oi := ⟨some 51, _, _, _, _, _⟩) (v := ?_) rfl (by kernel_rfl) (by kernel_rfl) (by kernel_rfl) (fun _ _ _ h => h) (Or.inl ⟨by rfl, ?_⟩) hHeld ?_
      rotate_left
      · intro W hSW; obtain ⟨hSW0, hSW1⟩ := hSW; go_simp; first | done | with_reducible rfl
      (try simp only [Act.put, List.setIfInBounds_toArray, List.set_cons_zero, List.set_cons_succ])
      refine wpAnyH_take (i := 1) (oi := ⟨some 52, _, _, _, _, _⟩) (v := ?_) rfl (by kernel_rfl) (by kernel_rfl) (by kernel_rfl) (fun _ _ _ h => h) (Or.inl ⟨by rfl, ?_⟩) hHeld ?_
      rotate_left
      · intro W hSW; obtain ⟨hSW0, hSW1⟩ := hSW; go_simp; first | done | with_reducible rfl
      (try simp only [Act.put, List.setIfInBounds_toArray, List.set_cons_zero, List.set_cons_succ])
      refine wpAnyH_take (i := 2) (oi := ⟨some 53, _, _, _, _, _⟩) (v := ?_) rfl (by kernel_rfl) (by kernel_rfl) (by kernel_rfl) (fun _ _ _ h => h) (Or.inl ⟨by rfl, ?_⟩) hHeld ?_
      rotate_left
      · intro W hSW; obtain ⟨hSW0, hSW1⟩ := hSW; go_simp; first | done | with_reducible rfl
      (try simp only [Act.put, List.setIfInBounds_toArray, List.set_cons_zero, List.set_cons_succ])
      refine wpAnyH_take (i := 3) (oi := ⟨some 54, _, _, _, _, _⟩) (v := ?_) rfl (by kernel_rfl) (by kernel_rfl) (by kernel_rfl) (fun _ _ _ h => h) (Or.inl ⟨by rfl, ?_⟩) hHeld ?_
      rotate_left
      · intro W hSW; obtain ⟨hSW0, hSW1⟩ := hSW; go_simp; first | done | with_reducible rfl
      (try simp only [Act.put, List.setIfInBounds_toArray, List.set_cons_zero, List.set_cons_succ])
      refine wpAnyH_take (i := 4) (oi := ⟨some 55, _, _, _, _, _⟩) (v := ?_) rfl (by kernel_rfl) (by kernel_rfl) (by kernel_rfl) (fun _ _ _ h => h) (Or.inl ⟨by rfl, ?_⟩) hHeld ?_
      rotate_left
      · intro W hSW; obtain ⟨hSW0, hSW1⟩ := hSW; go_simp; first | done | with_reducible rfl
      (try simp only [Act.put, List.setIfInBounds_toArray, List.set_cons_zero, List.set_cons_succ])
      refine wpAnyH_take (i := 5) (oi := ⟨some 56, _, _, _, _, _⟩) (v := ?_) rfl (by kernel_rfl) (by kernel_rfl) (by kernel_rfl) (fun _ _ _ h => h) (Or.inl ⟨by rfl, ?_⟩) hHeld ?_
      rotate_left
      · intro W hSW; obtain ⟨hSW0, hSW1⟩ := hSW; go_simp; first | done | with_reducible rfl
      (try simp only [Act.put, List.setIfInBounds_toArray, List.set_cons_zero, List.set_cons_succ])
      refine wpAnyH_take (i := 6) (oi := ⟨some 57, _, _, _, _, _⟩) (v := ?_) rfl (by kernel_rfl) (by kernel_rfl) (by kernel_rfl) (fun _ _ _ h => h) (Or.inl ⟨by rfl, ?_⟩) hHeld ?_
      rotate_left
      · intro W hSW; obtain ⟨hSW0, hSW1⟩ := hSW; go_simp; first | done | with_reducible rfl
      (try simp only [Act.put, List.setIfInBounds_toArray, List.set_cons_zero, List.set_cons_succ])
      refine wpAnyH_take (i := 7) (oi := ⟨some 58, _, _, _, _, _⟩) (v := ?_) rfl (by kernel_rfl) (by kernel_rfl) (by kernel_rfl) (fun _ _ _ h => h) (Or.inl ⟨by rfl, ?_⟩) hHeld ?_
      rotate_left
      · intro W hSW; obtain ⟨hSW0, hSW1⟩ := hSW; go_simp; first | done | with_reducible rfl
      (try simp only [Act.put, List.setIfInBounds_toArray, List.set_cons_zero, List.set_cons_succ])
      refine wpAnyH_take (i := 8) (oi := ⟨some 59, _, _, _, _, _⟩) (v := ?_) rfl (by kernel_rfl) (by kernel_rfl) (by kernel_rfl) (fun _ _ _ h => h) (Or.inl ⟨by rfl, ?_⟩) hHeld ?_
      rotate_left
      · intro W hSW; obtain ⟨hSW0, hSW1⟩ := hSW; go_simp; first | done | with_reducible rfl
      (try simp only [Act.put, List.setIfInBounds_toArray, List.set_cons_zero, List.set_cons_succ])
      refine wpAnyH_take (i := 9) (oi := ⟨some 60, _, _, _, _, _⟩) (v := ?_) rfl (by kernel_rfl) (by kernel_rfl) (by kernel_rfl) (fun _ _ _ h => h) (Or.inl ⟨by rfl, ?_⟩) hHeld ?_
      rotate_left
      · intro W hSW; obtain ⟨hSW0, hSW1⟩ := hSW; go_simp; first | done | with_reducible rfl
      (try simp only [Act.put, List.setIfInBounds_toArray, List.set_cons_zero, List.set_cons_succ])
      refine wpAnyH_take (i := 10) (oi := ⟨some 61, _, _, _, _, _⟩) (v := ?_) rfl (by kernel_rfl) (by kernel_rfl) (by kernel_rfl) (fun _ _ _ h => h) (Or.inl ⟨by rfl, ?_⟩) hHeld ?_
      rotate_left
      · intro W hSW; obtain ⟨hSW0, hSW1⟩ := hSW; go_simp; first | done | with_reducible rfl
      (try simp only [Act.put, List.setIfInBounds_toArray, List.set_cons_zero, List.set_cons_succ])
      refine wpAnyH_take (i := 12) (oi := ⟨some 63, _, _, _, _, _⟩) (v := ?_) rfl (by kernel_rfl) (by kernel_rfl) (by kernel_rfl) (fun _ _ _ h => h) (Or.inl ⟨by rfl, ?_⟩) hHeld ?_
      rotate_left
      · intro W hSW; obtain ⟨hSW0, hSW1⟩ := hSW; go_simp; first | done | with_reducible rfl
      (try simp only [Act.put, List.setIfInBounds_toArray, List.set_cons_zero, List.set_cons_succ])
      refine wpAnyH_take (i := 13) (oi := ⟨some 64, _, _, _, _, _⟩) (v := ?_) rfl (by kernel_rfl) (by kernel_rfl) (by kernel_rfl) (fun _ _ _ h => h) (Or.inl ⟨by rfl, ?_⟩) hHeld ?_
      rotate_left
      · intro W hSW; obtain ⟨hSW0, hSW1⟩ := hSW; go_simp; first | done | with_reducible rfl
      (try simp only [Act.put, List.setIfInBounds_toArray, List.set_cons_zero, List.set_cons_succ])
      refine wpAnyH_take (i := 14) (oi := ⟨some 65, _, _, _, _, _⟩) (v := ?_) rfl (by kernel_rfl) (by kernel_rfl) (by kernel_rfl) (fun _ _ _ h => h) (Or.inl ⟨by rfl, ?_⟩) hHeld ?_
      rotate_left
      · intro W hSW; obtain ⟨hSW0, hSW1⟩ := hSW; go_simp; first | done | with_reducible rfl
      (try simp only [Act.put, List.setIfInBounds_toArray, List.set_cons_zero, List.set_cons_succ])
      refine wpAnyH_take (i := 15) (oi := ⟨some 66, _, _, _, _, _⟩) (v := ?_) rfl (by kernel_rfl) (by kernel_rfl) (by kernel_rfl) (fun _ _ _ h => h) (Or.inl ⟨by rfl, ?_⟩) hHeld ?_
      rotate_left
      · intro W hSW; obtain ⟨hSW0, hSW1⟩ := hSW; go_simp; first | done | with_reducible rfl
      (try simp only [Act.put, List.setIfInBounds_toArray, List.set_cons_zero, List.set_cons_succ])
      refine wpAnyH_ready (rs := [11, 16]) (by kernel_rfl) (by simp) ?_
      refine AllReadyH.cons (o := ⟨some 62, _, _, _, _, _⟩) rfl (fun K hK => ?_) (AllReadyH.cons (o := ⟨some 67, _, _, _, _, _⟩) rfl (fun K hK => ?_) (AllReadyH.nil))
      · go_simp
        clear hHeld
        refine hK.out _ _ ?_ (fun hHeld => ?_)
        · exact hS0
        clear hK K
        (try simp only [Act.put, List.setIfInBounds_toArray, List.set_cons_zero, List.set_cons_succ])
        refine wpAnyH_ready (rs := [16]) (by kernel_rfl) (by simp) ?_
        refine AllReadyH.cons (o := ⟨some 67, _, _, _, _, _⟩) rfl (fun K hK => ?_) (AllReadyH.nil)
        go_simp
        refine (COf.out _).mono ?_
        rintro e W' ⟨rfl, rfl⟩
        clear hHeld
        refine hK.out _ _ ?_ (fun hHeld => ?_)
        · exact hS0
        clear hK K
        (try simp only [Act.put, List.setIfInBounds_toArray, List.set_cons_zero, List.set_cons_succ])
        refine wpAnyH_ready (rs := [17]) (by kernel_rfl) (by simp) ?_
        refine AllReadyH.cons (o := ⟨some 68, _, _, _, _, _⟩) rfl (fun K hK => ?_) (AllReadyH.nil)
        go_simp
        refine (CAd.out _).mono ?_
        rintro e W' ⟨rfl, rfl⟩
        clear hHeld
        refine hK.out _ _ ?_ (fun hHeld => ?_)
        · exact hS0
        clear hK K
        (try simp only [Act.put, List.setIfInBounds_toArray, List.set_cons_zero, List.set_cons_succ])
        refine wpAnyH_take (i := 18) (oi := ⟨some 69, _, _, _, _, _⟩) (v := ?_) rfl (by kernel_rfl) (by kernel_rfl) (by kernel_rfl) (fun _ _ _ h => h) (Or.inl ⟨by rfl, ?_⟩) hHeld ?_
        rotate_left
        · intro W hSW; obtain ⟨hSW0, hSW1⟩ := hSW; go_simp; first | done | with_reducible rfl
        (try simp only [Act.put, List.setIfInBounds_toArray, List.set_cons_zero, List.set_cons_succ])
        refine wpAnyH_ready (rs := [19]) (by kernel_rfl) (by simp) ?_
        refine AllReadyH.cons (o := ⟨none, _, _, _, _, _⟩) rfl (fun K hK => ?_) (AllReadyH.nil)
        refine step_cell (by rfl) 3 _ _ (by rfl) gs p' (.int .i64 y2) (by rfl) (by rfl) 3 (W4 M) q0 sz info3one rfl ?_
        intro W6 h6
        clear hHeld
        refine hK.out _ _ ?_ (fun hHeld => ?_)
        · exact HK.out _ (fun k hk => h6.oth k hk)
        clear hK K
        (try simp only [Act.put, List.setIfInBounds_toArray, List.set_cons_zero, List.set_cons_succ])
        refine wpAnyH_done (by kernel_rfl) ?_ _
        refine NoPanic.normal ?_
        clear hHeld
        clear f64
        go_wp2
        go_roundw
        case rel => exact ⟨t + 1, by omega, by go_num, by rw [← HSET.out, ← W4_setI]; exact (hup.drew).upd h6⟩
        case measure => simp [intOf] <;> omega
      · go_simp
        refine (COf.out _).mono ?_
        rintro e W' ⟨rfl, rfl⟩
        clear hHeld
        refine hK.out _ _ ?_ (fun hHeld => ?_)
        · exact hS0
        clear hK K
        (try simp only [Act.put, List.setIfInBounds_toArray, List.set_cons_zero, List.set_cons_succ])
        refine wpAnyH_ready (rs := [11]) (by kernel_rfl) (by simp) ?_
        refine AllReadyH.cons (o := ⟨some 62, _, _, _, _, _⟩) rfl (fun K hK => ?_) (AllReadyH.nil)
        go_simp
        clear hHeld
        refine hK.out _ _ ?_ (fun hHeld => ?_)
        · exact hS0
        clear hK K
        (try simp only [Act.put, List.setIfInBounds_toArray, List.set_cons_zero, List.set_cons_succ])
        refine wpAnyH_ready (rs := [17]) (by kernel_rfl) (by simp) ?_
        refine AllReadyH.cons (o := ⟨some 68, _, _, _, _, _⟩) rfl (fun K hK => ?_) (AllReadyH.nil)
        go_simp
        refine (CAd.out _).mono ?_
        rintro e W' ⟨rfl, rfl⟩
        clear hHeld
        refine hK.out _ _ ?_ (fun hHeld => ?_)
        · exact hS0
        clear hK K
        (try simp only [Act.put, List.setIfInBounds_toArray, List.set_cons_zero, List.set_cons_succ])
        refine wpAnyH_take (i := 18) (oi := ⟨some 69, _, _, _, _, _⟩) (v := ?_) rfl (by kernel_rfl) (by kernel_rfl) (by kernel_rfl) (fun _ _ _ h => h) (Or.inl ⟨by rfl, ?_⟩) hHeld ?_
        rotate_left
        · intro W hSW; obtain ⟨hSW0, hSW1⟩ := hSW; go_simp; first | done | with_reducible rfl
        (try simp only [Act.put, List.setIfInBounds_toArray, List.set_cons_zero, List.set_cons_succ])
        refine wpAnyH_ready (rs := [19]) (by kernel_rfl) (by simp) ?_
        refine AllReadyH.cons (o := ⟨none, _, _, _, _, _⟩) rfl (fun K hK => ?_) (AllReadyH.nil)
        refine step_cell (by rfl) 3 _ _ (by rfl) gs p' (.int .i64 y2) (by rfl) (by rfl) 3 (W4 M) q0 sz info3one rfl ?_
        intro W6 h6
        clear hHeld
        refine hK.out _ _ ?_ (fun hHeld => ?_)
        · exact HK.out _ (fun k hk => h6.oth k hk)
        clear hK K
        (try simp only [Act.put, List.setIfInBounds_toArray, List.set_cons_zero, List.set_cons_succ])
        refine wpAnyH_done (by kernel_rfl) ?_ _
        refine NoPanic.normal ?_
        clear hHeld
        clear f64
        go_wp2
        go_roundw
        case rel => exact ⟨t + 1, by omega, by go_num, by rw [← HSET.out, ← W4_setI]; exact (hup.drew).upd h6⟩
        case measure => simp [intOf] <;> omega
    · have dt : decide ((t : Int) < (T : Int)) = false := by simp <;> omega
      have HTT : Hid (t = T) := by unfold Hid; omega
      have HKPF : Hid (Kp w wr gB (Value.slice none 0 0).ownBlock) := HKP0.out.trans ⟨hup.os, hup.tape, hup.output, by rw [hup.size]; exact Nat.le_refl _, fun k _ _ h2 => hup.oth k (fun e => h2 (by rw [e]))⟩ HKO.out
      have HLAST : Hid (Blk wr.drew gs 3 (W4 (Cv.softs (n + 6) (row ++ [(v, p)])))) := by
        unfold Hid
        rw [HSN.out, ← adt_all l v p T HLT.out, ← HTT.out]
        exact hup.row.drew
      have qBr : Blk wr gB 68 (BF n (Cv.cv row) (.slice (some ⟨gs, 0, none⟩) N N)) := (hup.oth gB (Ne.symm hgsB)).trans HQB5.out
      have kc := (qBr.cell (1 + v)).trans (BF_cell n _ _ v hv)
      have qB0 : Blk wr.drew gB 68 (BF n (Cv.cv row) (.slice (some ⟨gs, 0, none⟩) N N)) := qBr.drew
      have szB : 1 + v < (BF n (Cv.cv row) (.slice (some ⟨gs, 0, none⟩) N N)).size := by show 1 + v < 6; omega
      obtain ⟨c0, hc0⟩ : ∃ c0, c0 = Cv.cv row v := ⟨_, rfl⟩
      obtain ⟨c1, hc1⟩ : ∃ c1, c1 = Cv.cv row v + 1 := ⟨_, rfl⟩
      rw [← hc0] at kc
      rw [← hc1] at HBF
      have f1 : IntKind.i64.wrap ((c0 : Int) + 1) = (c1 : Int) := by rw [IntWalk.i64_in _ (by omega)]; omega
      have ic := fun W => run_idx (P := Tryd.prog) (sz := 1) Tryd.underlying33 (by kernel_rfl) gB 1 v hv .i64 W
      simp only [Nat.one_mul] at ic
      have kc0 : wr.drew.cell? ⟨gB, 1 + v, none⟩ = some (.int .i64 (c0 : Int)) := kc
      clear hc0 hc1 kc qBr
      go_upto_region 17 with fail
      refine wp_region_noPanic ?_
      refine wp_region_held_drew (S := fun _ => True) (by kernel_rfl) trivial (fun hHeld => ?_)
      refine wpAnyH_take (i := 0) (oi := ⟨some 71, _, _, _, _, _⟩) (v := ?_) rfl (by kernel_rfl) (by kernel_rfl) (by kernel_rfl) (fun _ _ _ h => h) (Or.inl ⟨by rfl, ?_⟩) hHeld ?_
      rotate_left
      · intro W hSW; have hSW0 := hSW; go_simp; first | done | with_reducible rfl
      (try simp only [Act.put, List.setIfInBounds_toArray, List.set_cons_zero, List.set_cons_succ])
      refine wpAnyH_take (i := 1) (oi := ⟨some 72, _, _, _, _, _⟩) (v := ?_) rfl (by kernel_rfl) (by kernel_rfl) (by kernel_rfl) (fun _ _ _ h => h) (Or.inl ⟨by rfl, ?_⟩) hHeld ?_
      rotate_left
      · intro W hSW; have hSW0 := hSW; go_simp; first | done | with_reducible rfl
      (try simp only [Act.put, List.setIfInBounds_toArray, List.set_cons_zero, List.set_cons_succ])
      refine wpAnyH_take (i := 2) (oi := ⟨some 73, _, _, _, _, _⟩) (v := ?_) rfl (by kernel_rfl) (by kernel_rfl) (by kernel_rfl) (fun _ _ _ h => h) (Or.inl ⟨by rfl, ?_⟩) hHeld ?_
      rotate_left
      · intro W hSW; have hSW0 := hSW; go_simp; first | done | with_reducible rfl
      (try simp only [Act.put, List.setIfInBounds_toArray, List.set_cons_zero, List.set_cons_succ])
      refine wpAnyH_take (i := 3) (oi := ⟨some 74, _, _, _, _, _⟩) (v := ?_) rfl (by kernel_rfl) (by kernel_rfl) (by kernel_rfl) (fun _ _ _ h => h) (Or.inl ⟨by rfl, ?_⟩) hHeld ?_
      rotate_left
      · intro W hSW; have hSW0 := hSW; go_simp; first | done | with_reducible rfl
      (try simp only [Act.put, List.setIfInBounds_toArray, List.set_cons_zero, List.set_cons_succ])
      refine wpAnyH_take (i := 4) (oi := ⟨some 75, _, _, _, _, _⟩) (v := ?_) rfl (by kernel_rfl) (by kernel_rfl) (by kernel_rfl) (fun _ _ _ h => h) (Or.inl ⟨by rfl, ?_⟩) hHeld ?_
      rotate_left
      · intro W hSW; have hSW0 := hSW; go_simp; first | done | with_reducible rfl
      (try simp only [Act.put, List.setIfInBounds_toArray, List.set_cons_zero, List.set_cons_succ])
      refine wpAnyH_take (i := 7) (oi := ⟨some 78, _, _, _, _, _⟩) (v := ?_) rfl (by kernel_rfl) (by kernel_rfl) (by kernel_rfl) (fun _ _ _ h => h) (Or.inl ⟨by rfl, ?_⟩) hHeld ?_
      rotate_left
      · intro W hSW; have hSW0 := hSW; go_simp; first | done | with_reducible rfl
      (try simp only [Act.put, List.setIfInBounds_toArray, List.set_cons_zero, List.set_cons_succ])
      refine wpAnyH_take (i := 8) (oi := ⟨some 79, _, _, _, _, _⟩) (v := ?_) rfl (by kernel_rfl) (by kernel_rfl) (by kernel_rfl) (fun _ _ _ h => h) (Or.inl ⟨by rfl, ?_⟩) hHeld ?_
      rotate_left
      · intro W hSW; have hSW0 := hSW; go_simp; first | done | with_reducible rfl
      (try simp only [Act.put, List.setIfInBounds_toArray, List.set_cons_zero, List.set_cons_succ])
      refine wpAnyH_ready (rs := [5]) (by kernel_rfl) (by simp) ?_
      refine AllReadyH.cons (o := ⟨some 76, _, _, _, _, _⟩) rfl (fun K hK => ?_) (AllReadyH.nil)
      go_simp
      clear hHeld
      refine hK.out _ _ ?_ (fun hHeld => ?_)
      · trivial
      clear hK K
      (try simp only [Act.put, List.setIfInBounds_toArray, List.set_cons_zero, List.set_cons_succ])
      refine wpAnyH_take (i := 6) (oi := ⟨some 77, _, _, _, _, _⟩) (v := ?_) rfl (by kernel_rfl) (by kernel_rfl) (by kernel_rfl) (fun _ _ _ h => h) (Or.inl ⟨by rfl, ?_⟩) hHeld ?_
      rotate_left
      · intro W hSW; have hSW0 := hSW; go_simp; first | done | with_reducible rfl
      (try simp only [Act.put, List.setIfInBounds_toArray, List.set_cons_zero, List.set_cons_succ])
      refine wpAnyH_take (i := 9) (oi := ⟨some 80, _, _, _, _, _⟩) (v := ?_) rfl (by kernel_rfl) (by kernel_rfl) (by kernel_rfl) (fun _ _ _ h => h) (Or.inl ⟨by rfl, ?_⟩) hHeld ?_
      rotate_left
      · intro W hSW; have hSW0 := hSW; go_simp; first | done | with_reducible rfl
      (try simp only [Act.put, List.setIfInBounds_toArray, List.set_cons_zero, List.set_cons_succ])
      refine wpAnyH_ready (rs := [10]) (by kernel_rfl) (by simp) ?_
      refine AllReadyH.cons (o := ⟨none, _, _, _, _, _⟩) rfl (fun K hK => ?_) (AllReadyH.nil)
      refine step_cell (by rfl) 3 _ _ (by rfl) gB (1 + v) (.int .i64 (c1 : Int)) (by rfl) (by rfl) 68 (BF n (Cv.cv row) (.slice (some ⟨gs, 0, none⟩) N N)) qB0 szB info3one rfl ?_
      intro W7 h7
      clear hHeld
      refine hK.out _ _ ?_ (fun hHeld => ?_)
      · trivial
      clear hK K
      (try simp only [Act.put, List.setIfInBounds_toArray, List.set_cons_zero, List.set_cons_succ])
      refine wpAnyH_done (by kernel_rfl) ?_ _
      refine NoPanic.normal ?_
      clear hHeld
      have hB7 := h7.row
      rw [HBF.out] at hB7
      have HL7 := Lib.hid (h7.blk HLAST.out hgsB)
      have HK7 := Lib.hid (HKPF.out.trans (Kp.drewUpd h7) (.inl rfl))
      clear h7
      go_wp2
      go_ret
      exact ⟨rfl, .slice (some ⟨gs, 0, none⟩) N N, ⟨hB7, .inr ⟨gs, by rw [HN.out], hgsB, HL7.out⟩⟩, HK7.out, HOWN.out⟩
set_option maxHeartbeats 2000000 in
set_option maxRecDepth 100000 in
/-- (*Buffer).Add, a further one. -/
theorem add1 (gB n v T c : Nat) (gs N : Nat) (hN : N = 4 * (n + 6)) (b off : Nat) (row : List (Nat × List Nat)) (p : List Nat) (w : World) (hB : BufS w gB n row (.slice (some ⟨gs, 0, none⟩) N N)) (hn : n ≤ 4096) (hrl : row.length ≤ 30) (hv : v < 4) (hT : T = n + 6) (hr : Rd w w.heap.size (some ⟨b, off, none⟩) T (U8 p)) (hp : ∀ x ∈ p, x ≤ 1) (hbB : b ≠ gB) (hbl : b < w.heap.size) (hgsb : b ≠ gs) :
    Calls Tryd.prog 12 #[.pointer (some ⟨gB, 0, none⟩), .int .i64 (v : Int), .slice (some ⟨b, off, none⟩) T c] w (AddOk w gB n row (.slice (some ⟨gs, 0, none⟩) N N) v p) := by
  have hl := Cv.softs_length (n + 6) row
  have HZB : Hid (∀ k, -30 ≤ (Cv.softs (n + 6) row).getD k 0 ∧ (Cv.softs (n + 6) row).getD k 0 ≤ 30) := fun k => by
    by_cases hk : k < (Cv.softs (n + 6) row).length
    · rw [Bm.getD_lt _ _ _ hk]
      have := Cv.softs_in (n + 6) row _ (List.getElem_mem hk)
      omega
    · rw [Bm.getD_ge _ _ _ (by omega)]; omega
  have HSN : Hid (Cv.softs (n + 6) (row ++ [(v, p)]) = Cv.addv (Cv.softs (n + 6) row) (v, p)) := Cv.softs_snoc _ _ _
  have CB := Lib.hid (fun W => vBits n W (by omega))
  rw [← hT] at CB
  have CPl := Lib.hid (fun W => patPlaces v T W hv (by omega))
  have CR := Lib.hid (fun (W : World) (hb : Below w.heap.size w W) => right (some ⟨b, off, none⟩) T c p W ((hr.below hb).up hb.size) (bit256 hp) (by omega))
  rw [Bm.isB_of hp] at CR
  have k0 : w.cell? ⟨gB, 0, none⟩ = some (.int .i64 (n : Int)) := hB.blk.cell 0
  have HBF := Lib.hid (fun S => BF_set n row S v p hv)
  have hcl := cv_le row v
  have t1 : ((T : Int) != (T : Int)) = false := by simp
  have hT2 : T ≤ 5000 := by omega
  have hT6 : 6 ≤ T := by omega
  obtain ⟨hgsB, qs⟩ : gs ≠ gB ∧ Blk w gs 3 (W4 (Cv.softs (n + 6) row)) := by
    rcases hB.sums with ⟨h, _⟩ | ⟨gs', h, h2, h3⟩
    · cases h
    · injection h with e _ _
      injection e with e
      injection e with e
      subst e
      exact ⟨h2, h3⟩
  have HN := Lib.hid hN
  have HNT : Hid (N = 4 * T) := by unfold Hid; omega
  have HLT : Hid ((Cv.softs (n + 6) row).length = 4 * T) := by unfold Hid; rw [hl, hT]
  have hN2 : N ≤ 20000 := by omega
  clear hT hN
  go_enter Tryd.func12, Tryd.ntmps12
  go_upto_region 4 with (first | (go_at_call 39; refine (CB.out _).mono ?_; rintro e w' ⟨rfl, rfl⟩) | (go_at_call 38; refine (CPl.out _).mono ?_; rintro e w1 ⟨A7, c7, rfl, own7, b1⟩))
  have qB1 := hB.blk.after b1
  have k5 : w1.cell? ⟨gB, 5, none⟩ = some (.slice (some ⟨gs, 0, none⟩) N N) := qB1.cell 5
  have lB := hB.blk.lt
  obtain ⟨g7, hA7, hg7, hg7l, h7rest⟩ := own7.slot 0 (by omega)
  clear h7rest
  subst hA7
  have HC7 : Hid (∀ t, t < T → w1.cell? ⟨g7, t, none⟩ = some (.int .i64 ((4 * t + Cv.st v t : Nat) : Int))) := fun t ht => by
    obtain ⟨bb, oo, e, _, hc⟩ := own7.rd.cell64 t ht
    injection e with e
    injection e with e1 e2
    subst e1 e2
    rw [Nat.zero_add] at hc
    rw [hc, plc_get v T t ht]
  have HCP : Hid (∀ t, t < T → w1.cell? ⟨b, off + t, none⟩ = some (.int .u8 ((p.getD t 0 : Nat) : Int))) := fun t ht => by
    obtain ⟨bb, oo, e, _, hc⟩ := (hr.below b1).cell8 t ht
    injection e with e
    injection e with e1 e2
    subst e1 e2
    exact hc
  clear own7 k0 CB CPl
  have hnil := some_nil gs N N
  clear hl
  generalize hll : Cv.softs (n + 6) row = l at *
  have HLL := Lib.hid hll.symm
  clear hll
  go_upto_region 12 with (go_at_call 40; refine (CR.out _ b1).mono ?_; rintro e w' ⟨rfl, rfl⟩)
  have qs5 := qs.after b1
  have lgs := qs.lt
  obtain ⟨w5, hw5⟩ : ∃ W, W = w1 := ⟨_, rfl⟩
  have hgs7 : g7 ≠ gs := by omega
  have HQB5 : Hid (Blk w5 gB 68 (BF n (Cv.cv row) (.slice (some ⟨gs, 0, none⟩) N N))) := by rw [hw5]; exact qB1
  have HC75 : Hid (∀ t, t < T → w5.cell? ⟨g7, t, none⟩ = some (.int .i64 ((4 * t + Cv.st v t : Nat) : Int))) := by rw [hw5]; exact HC7
  have HCP5 : Hid (∀ t, t < T → w5.cell? ⟨b, off + t, none⟩ = some (.int .u8 ((p.getD t 0 : Nat) : Int))) := by rw [hw5]; exact HCP
  have HKP0 : Hid (Kp w w5 gB (some gs)) := by rw [hw5]; exact Kp.of_below b1
  have hup0 : Upd w5 w5 gs 3 (W4 (adt l v p 0)) := by rw [adt_none, hw5]; exact Upd.self qs5
  rw [← hw5]
  have HKO : Hid ((some gs : Option Nat) = some gs ∨ ∃ k, (some gs : Option Nat) = some k ∧ w.heap.size ≤ k) := .inl rfl
  have HOWN : Hid ((Value.slice (some ⟨gs, 0, none⟩) N N).ownBlock = (Value.slice (some ⟨gs, 0, none⟩) N N).ownBlock ∨ ∃ k, (Value.slice (some ⟨gs, 0, none⟩) N N).ownBlock = some k ∧ w.heap.size ≤ k) := .inl rfl
  clear qs5 lgs hw5 HC7 HCP k5 qB1 b1
  have HUP := Lib.hid hup0
  have HK5 := Lib.hid (HQB5.out.cell 5)
  clear hup0
  go_wp2
  go_loopw [46] (fun x wr => ∃ t : Nat, t ≤ T ∧ x = .int .i64 t ∧ Upd w5 wr gs 3 (W4 (adt l v p t))) (fun x _ => T - (intOf x).toNat)
  case atStart => exact ⟨0, by omega, rfl, HUP.out⟩
  case round =>
    obtain ⟨t, ht, rfl, hup⟩ := hrel
    have k5r : wr.cell? ⟨gB, 5, none⟩ = some (.slice (some ⟨gs, 0, none⟩) N N) := (cell_of_heap (hup.oth gB (Ne.symm hgsB)) 5).trans (HK5.out.trans rfl)
    by_cases hlt : t < T
    · have hst := Cv.st_lt v t
      have k7 := (cell_of_heap (hup.oth g7 hgs7) t).trans (HC75.out t hlt)
      have kp := (cell_of_heap (hup.oth b hgsb) (off + t)).trans (HCP5.out t hlt)
      obtain ⟨ha1, ha2⟩ := adt_at l v p T t HLT.out hv hlt
      have hzb := HZB.out (4 * t + Cv.st v t)
      have hpl : 4 * t + Cv.st v t < N := by have := HNT.out; omega
      have q := hup.row
      have kq := (q.cell (4 * t + Cv.st v t)).trans (W4_get _ _ (by rw [adt_length, HLT.out, ← HNT.out]; exact hpl))
      rw [ha1] at kq
      have sz0 : 4 * t + Cv.st v t < (W4 (adt l v p t)).size := by rw [W4_size, adt_length, HLT.out, ← HNT.out]; exact hpl
      have HSET := Lib.hid ha2
      have COf := Lib.hid (fun W => softOf (p.getD t 0) W)
      rw [sn_val] at COf
      obtain ⟨x, hx⟩ : ∃ x, x = p.getD t 0 := ⟨_, rfl⟩
      rw [← hx] at COf kp HSET
      have hsn : Cv.sn x = 1 ∨ Cv.sn x = -1 := by unfold Cv.sn; split <;> simp
      obtain ⟨y, hy⟩ : ∃ y, y = l.getD (4 * t + Cv.st v t) 0 := ⟨_, rfl⟩
      rw [← hy] at kq hzb HSET
      have CAd := Lib.hid (fun W => softAdd y (Cv.sn x) W)
      have hcl2 : Cv.clip (Cv.clip y + Cv.clip (Cv.sn x)) = y + Cv.sn x := by
        rw [Cv.clip_in (z := y) (by omega) (by omega), Cv.clip_in (z := Cv.sn x) (by omega) (by omega), Cv.clip_in (by omega) (by omega)]
      rw [hcl2] at CAd
      obtain ⟨y2, hy2⟩ : ∃ y2, y2 = y + Cv.sn x := ⟨_, rfl⟩
      rw [← hy2] at CAd HSET
      obtain ⟨M, hM⟩ : ∃ M, M = adt l v p t := ⟨_, rfl⟩
      rw [← hM] at q sz0 HSET
      generalize hpp : 4 * t + Cv.st v t = p' at *
      have f64 : IntKind.i64.wrap (p' : Int) = (p' : Int) := IntWalk.i64_in _ (by omega)
      have f1 : (t : Int) < (T : Int) := by omega
      have f2 : (p' : Int) < (N : Int) := by omega
      have dt : decide ((t : Int) < (T : Int)) = true := by simp <;> omega
      generalize Cv.sn x = s1 at *
      clear hx hy hcl2 hy2 hM hpp ha1 ha2 hsn
      go_upto_region 15 with fail
      have hS0 : wr.drew.cell? ⟨gB, 5, none⟩ = some (.slice (some ⟨gs, 0, none⟩) N N) ∧ wr.drew.cell? ⟨b, off + t, none⟩ = some (.int .u8 (x : Int)) := ⟨k5r, kp⟩
      have HK : Hid (∀ W : World, (∀ k, k ≠ gs → W.heap[k]? = wr.drew.heap[k]?) → W.cell? ⟨gB, 5, none⟩ = some (.slice (some ⟨gs, 0, none⟩) N N) ∧ W.cell? ⟨b, off + t, none⟩ = some (.int .u8 (x : Int))) := fun W h => ⟨(cell_of_heap (h gB (Ne.symm hgsB)) 5).trans k5r, (cell_of_heap (h b hgsb) (off + t)).trans kp⟩
      have kq0 : wr.drew.cell? ⟨gs, p', none⟩ = some (.int .i64 y) := kq
      have q0 : Blk wr.drew gs 3 (W4 M) := q.drew
      have sz := sz0
      clear kq q k5r kp sz0
      refine wp_region_noPanic ?_
      refine wp_region_held_drew (S := fun W => W.cell? ⟨gB, 5, none⟩ = some (.slice (some ⟨gs, 0, none⟩) N N) ∧ W.cell? ⟨b, off + t, none⟩ = some (.int .u8 (x : Int))) (by kernel_rfl) hS0 (fun hHeld => ?_)
      refine wpAnyH_take (i := 0) (oi := ⟨some 51, _, _, _, _, _⟩) (v := ?_) rfl (by kernel_rfl) (by kernel_rfl) (by kernel_rfl) (fun _ _ _ h => h) (Or.inl ⟨by rfl, ?_⟩) hHeld ?_
      rotate_left
      · intro W hSW; obtain ⟨hSW0, hSW1⟩ := hSW; go_simp; first | done | with_reducible rfl
      (try simp only [Act.put, List.setIfInBounds_toArray, List.set_cons_zero, List.set_cons_succ])
      refine wpAnyH_take (i := 1) (oi := ⟨some 52, _, _, _, _, _⟩) (v := ?_) rfl (by kernel_rfl) (by kernel_rfl) (by kernel_rfl) (fun _ _ _ h => h) (Or.inl ⟨by rfl, ?_⟩) hHeld ?_
      rotate_left
      · intro W hSW; obtain ⟨hSW0, hSW1⟩ := hSW; go_simp; first | done | with_reducible rfl
      (try simp only [Act.put, List.setIfInBounds_toArray, List.set_cons_zero, List.set_cons_succ])
      refine wpAnyH_take (i := 2) (oi := ⟨some 53, _, _, _, _, _⟩) (v := ?_) rfl (by kernel_rfl) (by kernel_rfl) (by kernel_rfl) (fun _ _ _ h => h) (Or.inl ⟨by rfl, ?_⟩) hHeld ?_
      rotate_left
      · intro W hSW; obtain ⟨hSW0, hSW1⟩ := hSW; go_simp; first | done | with_reducible rfl
      (try simp only [Act.put, List.setIfInBounds_toArray, List.set_cons_zero, List.set_cons_succ])
      refine wpAnyH_take (i := 3) (oi := ⟨some 54, _, _, _, _, _⟩) (v := ?_) rfl (by kernel_rfl) (by kernel_rfl) (by kernel_rfl) (fun _ _ _ h => h) (Or.inl ⟨by rfl, ?_⟩) hHeld ?_
      rotate_left
      · intro W hSW; obtain ⟨hSW0, hSW1⟩ := hSW; go_simp; first | done | with_reducible rfl
      (try simp only [Act.put, List.setIfInBounds_toArray, List.set_cons_zero, List.set_cons_succ])
      refine wpAnyH_take (i := 4) (oi := ⟨some 55, _, _, _, _, _⟩) (v := ?_) rfl (by kernel_rfl) (by kernel_rfl) (by kernel_rfl) (fun _ _ _ h => h) (Or.inl ⟨by rfl, ?_⟩) hHeld ?_
      rotate_left
      · intro W hSW; obtain ⟨hSW0, hSW1⟩ := hSW; go_simp; first | done | with_reducible rfl
      (try simp only [Act.put, List.setIfInBounds_toArray, List.set_cons_zero, List.set_cons_succ])
      refine wpAnyH_take (i := 5) (oi := ⟨some 56, _, _, _, _, _⟩) (v := ?_) rfl (by kernel_rfl) (by kernel_rfl) (by kernel_rfl) (fun _ _ _ h => h) (Or.inl ⟨by rfl, ?_⟩) hHeld ?_
      rotate_left
      · intro W hSW; obtain ⟨hSW0, hSW1⟩ := hSW; go_simp; first | done | with_reducible rfl
      (try simp only [Act.put, List.setIfInBounds_toArray, List.set_cons_zero, List.set_cons_succ])
      refine wpAnyH_take (i := 6) (oi := ⟨some 57, _, _, _, _, _⟩) (v := ?_) rfl (by kernel_rfl) (by kernel_rfl) (by kernel_rfl) (fun _ _ _ h => h) (Or.inl ⟨by rfl, ?_⟩) hHeld ?_
      rotate_left
      · intro W hSW; obtain ⟨hSW0, hSW1⟩ := hSW; go_simp; first | done | with_reducible rfl
      (try simp only [Act.put, List.setIfInBounds_toArray, List.set_cons_zero, List.set_cons_succ])
      refine wpAnyH_take (i := 7) (oi := ⟨some 58, _, _, _, _, _⟩) (v := ?_) rfl (by kernel_rfl) (by kernel_rfl) (by kernel_rfl) (fun _ _ _ h => h) (Or.inl ⟨by rfl, ?_⟩) hHeld ?_
      rotate_left
      · intro W hSW; obtain ⟨hSW0, hSW1⟩ := hSW; go_simp; first | done | with_reducible rfl
      (try simp only [Act.put, List.setIfInBounds_toArray, List.set_cons_zero, List.set_cons_succ])
      refine wpAnyH_take (i := 8) (oi := ⟨some 59, _, _, _, _, _⟩) (v := ?_) rfl (by kernel_rfl) (by kernel_rfl) (by kernel_rfl) (fun _ _ _ h => h) (Or.inl ⟨by rfl, ?_⟩) hHeld ?_
      rotate_left
      · intro W hSW; obtain ⟨hSW0, hSW1⟩ := hSW; go_simp; first | done | with_reducible rfl
      (try simp only [Act.put, List.setIfInBounds_toArray, List.set_cons_zero, List.set_cons_succ])
      refine wpAnyH_take (i := 9) (oi := ⟨some 60, _, _, _, _, _⟩) (v := ?_) rfl (by kernel_rfl) (by kernel_rfl) (by kernel_rfl) (fun _ _ _ h => h) (Or.inl ⟨by rfl, ?_⟩) hHeld ?_
      rotate_left
      · intro W hSW; obtain ⟨hSW0, hSW1⟩ := hSW; go_simp; first | done | with_reducible rfl
      (try simp only [Act.put, List.setIfInBounds_toArray, List.set_cons_zero, List.set_cons_succ])
      refine wpAnyH_take (i := 10) (oi := ⟨some 61, _, _, _, _, _⟩) (v := ?_) rfl (by kernel_rfl) (by kernel_rfl) (by kernel_rfl) (fun _ _ _ h => h) (Or.inl ⟨by rfl, ?_⟩) hHeld ?_
      rotate_left
      · intro W hSW; obtain ⟨hSW0, hSW1⟩ := hSW; go_simp; first | done | with_reducible rfl
      (try simp only [Act.put, List.setIfInBounds_toArray, List.set_cons_zero, List.set_cons_succ])
      refine wpAnyH_take (i := 12) (oi := ⟨some 63, _, _, _, _, _⟩) (v := ?_) rfl (by kernel_rfl) (by kernel_rfl) (by kernel_rfl) (fun _ _ _ h => h) (Or.inl ⟨by rfl, ?_⟩) hHeld ?_
      rotate_left
      · intro W hSW; obtain ⟨hSW0, hSW1⟩ := hSW; go_simp; first | done | with_reducible rfl
      (try simp only [Act.put, List.setIfInBounds_toArray, List.set_cons_zero, List.set_cons_succ])
      refine wpAnyH_take (i := 13) (oi := ⟨some 64, _, _, _, _, _⟩) (v := ?_) rfl (by kernel_rfl) (by kernel_rfl) (by kernel_rfl) (fun _ _ _ h => h) (Or.inl ⟨by rfl, ?_⟩) hHeld ?_
      rotate_left
      · intro W hSW; obtain ⟨hSW0, hSW1⟩ := hSW; go_simp; first | done | with_reducible rfl
      (try simp only [Act.put, List.setIfInBounds_toArray, List.set_cons_zero, List.set_cons_succ])
      refine wpAnyH_take (i := 14) (oi := ⟨some 65, _, _, _, _, _⟩) (v := ?_) rfl (by kernel_rfl) (by kernel_rfl) (by kernel_rfl) (fun _ _ _ h => h) (Or.inl ⟨by rfl, ?_⟩) hHeld ?_
      rotate_left
      · intro W hSW; obtain ⟨hSW0, hSW1⟩ := hSW; go_simp; first | done | with_reducible rfl
      (try simp only [Act.put, List.setIfInBounds_toArray, List.set_cons_zero, List.set_cons_succ])
      refine wpAnyH_take (i := 15) (oi := ⟨some 66, _, _, _, _, _⟩) (v := ?_) rfl (by kernel_rfl) (by kernel_rfl) (by kernel_rfl) (fun _ _ _ h => h) (Or.inl ⟨by rfl, ?_⟩) hHeld ?_
      rotate_left
      · intro W hSW; obtain ⟨hSW0, hSW1⟩ := hSW; go_simp; first | done | with_reducible rfl
      (try simp only [Act.put, List.setIfInBounds_toArray, List.set_cons_zero, List.set_cons_succ])
      refine wpAnyH_ready (rs := [11, 16]) (by kernel_rfl) (by simp) ?_
      refine AllReadyH.cons (o := ⟨some 62, _, _, _, _, _⟩) rfl (fun K hK => ?_) (AllReadyH.cons (o := ⟨some 67, _, _, _, _, _⟩) rfl (fun K hK => ?_) (AllReadyH.nil))
      · go_simp
        clear hHeld
        refine hK.out _ _ ?_ (fun hHeld => ?_)
        · exact hS0
        clear hK K
        (try simp only [Act.put, List.setIfInBounds_toArray, List.set_cons_zero, List.set_cons_succ])
        refine wpAnyH_ready (rs := [16]) (by kernel_rfl) (by simp) ?_
        refine AllReadyH.cons (o := ⟨some 67, _, _, _, _, _⟩) rfl (fun K hK => ?_) (AllReadyH.nil)
        go_simp
        refine (COf.out _).mono ?_
        rintro e W' ⟨rfl, rfl⟩
        clear hHeld
        refine hK.out _ _ ?_ (fun hHeld => ?_)
        · exact hS0
        clear hK K
        (try simp only [Act.put, List.setIfInBounds_toArray, List.set_cons_zero, List.set_cons_succ])
        refine wpAnyH_ready (rs := [17]) (by kernel_rfl) (by simp) ?_
        refine AllReadyH.cons (o := ⟨some 68, _, _, _, _, _⟩) rfl (fun K hK => ?_) (AllReadyH.nil)
        go_simp
        refine (CAd.out _).mono ?_
        rintro e W' ⟨rfl, rfl⟩
        clear hHeld
        refine hK.out _ _ ?_ (fun hHeld => ?_)
        · exact hS0
        clear hK K
        (try simp only [Act.put, List.setIfInBounds_toArray, List.set_cons_zero, List.set_cons_succ])
        refine wpAnyH_take (i := 18) (oi := ⟨some 69, _, _, _, _, _⟩) (v := ?_) rfl (by kernel_rfl) (by kernel_rfl) (by kernel_rfl) (fun _ _ _ h => h) (Or.inl ⟨by rfl, ?_⟩) hHeld ?_
        rotate_left
        · intro W hSW; obtain ⟨hSW0, hSW1⟩ := hSW; go_simp; first | done | with_reducible rfl
        (try simp only [Act.put, List.setIfInBounds_toArray, List.set_cons_zero, List.set_cons_succ])
        refine wpAnyH_ready (rs := [19]) (by kernel_rfl) (by simp) ?_
        refine AllReadyH.cons (o := ⟨none, _, _, _, _, _⟩) rfl (fun K hK => ?_) (AllReadyH.nil)
        refine step_cell (by rfl) 3 _ _ (by rfl) gs p' (.int .i64 y2) (by rfl) (by rfl) 3 (W4 M) q0 sz info3one rfl ?_
        intro W6 h6
        clear hHeld
        refine hK.out _ _ ?_ (fun hHeld => ?_)
        · exact HK.out _ (fun k hk => h6.oth k hk)
        clear hK K
        (try simp only [Act.put, List.setIfInBounds_toArray, List.set_cons_zero, List.set_cons_succ])
        refine wpAnyH_done (by kernel_rfl) ?_ _
        refine NoPanic.normal ?_
        clear hHeld
        clear f64
        go_wp2
        go_roundw
        case rel => exact ⟨t + 1, by omega, by go_num, by rw [← HSET.out, ← W4_setI]; exact (hup.drew).upd h6⟩
        case measure => simp [intOf] <;> omega
      · go_simp
        refine (COf.out _).mono ?_
        rintro e W' ⟨rfl, rfl⟩
        clear hHeld
        refine hK.out _ _ ?_ (fun hHeld => ?_)
        · exact hS0
        clear hK K
        (try simp only [Act.put, List.setIfInBounds_toArray, List.set_cons_zero, List.set_cons_succ])
        refine wpAnyH_ready (rs := [11]) (by kernel_rfl) (by simp) ?_
        refine AllReadyH.cons (o := ⟨some 62, _, _, _, _, _⟩) rfl (fun K hK => ?_) (AllReadyH.nil)
        go_simp
        clear hHeld
        refine hK.out _ _ ?_ (fun hHeld => ?_)
        · exact hS0
        clear hK K
        (try simp only [Act.put, List.setIfInBounds_toArray, List.set_cons_zero, List.set_cons_succ])
        refine wpAnyH_ready (rs := [17]) (by kernel_rfl) (by simp) ?_
        refine AllReadyH.cons (o := ⟨some 68, _, _, _, _, _⟩) rfl (fun K hK => ?_) (AllReadyH.nil)
        go_simp
        refine (CAd.out _).mono ?_
        rintro e W' ⟨rfl, rfl⟩
        clear hHeld
        refine hK.out _ _ ?_ (fun hHeld => ?_)
        · exact hS0
        clear hK K
        (try simp only [Act.put, List.setIfInBounds_toArray, List.set_cons_zero, List.set_cons_succ])
        refine wpAnyH_take (i := 18) (oi := ⟨some 69, _, _, _, _, _⟩) (v := ?_) rfl (by kernel_rfl) (by kernel_rfl) (by kernel_rfl) (fun _ _ _ h => h) (Or.inl ⟨by rfl, ?_⟩) hHeld ?_
        rotate_left
        · intro W hSW; obtain ⟨hSW0, hSW1⟩ := hSW; go_simp; first | done | with_reducible rfl
        (try simp only [Act.put, List.setIfInBounds_toArray, List.set_cons_zero, List.set_cons_succ])
        refine wpAnyH_ready (rs := [19]) (by kernel_rfl) (by simp) ?_
        refine AllReadyH.cons (o := ⟨none, _, _, _, _, _⟩) rfl (fun K hK => ?_) (AllReadyH.nil)
        refine step_cell (by rfl) 3 _ _ (by rfl) gs p' (.int .i64 y2) (by rfl) (by rfl) 3 (W4 M) q0 sz info3one rfl ?_
        intro W6 h6
        clear hHeld
        refine hK.out _ _ ?_ (fun hHeld => ?_)
        · exact HK.out _ (fun k hk => h6.oth k hk)
        clear hK K
        (try simp only [Act.put, List.setIfInBounds_toArray, List.set_cons_zero, List.set_cons_succ])
        refine wpAnyH_done (by kernel_rfl) ?_ _
        refine NoPanic.normal ?_
        clear hHeld
        clear f64
        go_wp2
        go_roundw
        case rel => exact ⟨t + 1, by omega, by go_num, by rw [← HSET.out, ← W4_setI]; exact (hup.drew).upd h6⟩
        case measure => simp [intOf] <;> omega
    · have dt : decide ((t : Int) < (T : Int)) = false := by simp <;> omega
      have HTT : Hid (t = T) := by unfold Hid; omega
      have HKPF : Hid (Kp w wr gB (Value.slice (some ⟨gs, 0, none⟩) N N).ownBlock) := HKP0.out.trans ⟨hup.os, hup.tape, hup.output, by rw [hup.size]; exact Nat.le_refl _, fun k _ _ h2 => hup.oth k (fun e => h2 (by rw [e]))⟩ (.inl rfl)
      have HLAST : Hid (Blk wr.drew gs 3 (W4 (Cv.softs (n + 6) (row ++ [(v, p)])))) := by
        unfold Hid
        rw [HSN.out, ← adt_all l v p T HLT.out, ← HTT.out]
        exact hup.row.drew
      have qBr : Blk wr gB 68 (BF n (Cv.cv row) (.slice (some ⟨gs, 0, none⟩) N N)) := (hup.oth gB (Ne.symm hgsB)).trans HQB5.out
      have kc := (qBr.cell (1 + v)).trans (BF_cell n _ _ v hv)
      have qB0 : Blk wr.drew gB 68 (BF n (Cv.cv row) (.slice (some ⟨gs, 0, none⟩) N N)) := qBr.drew
      have szB : 1 + v < (BF n (Cv.cv row) (.slice (some ⟨gs, 0, none⟩) N N)).size := by show 1 + v < 6; omega
      obtain ⟨c0, hc0⟩ : ∃ c0, c0 = Cv.cv row v := ⟨_, rfl⟩
      obtain ⟨c1, hc1⟩ : ∃ c1, c1 = Cv.cv row v + 1 := ⟨_, rfl⟩
      rw [← hc0] at kc
      rw [← hc1] at HBF
      have f1 : IntKind.i64.wrap ((c0 : Int) + 1) = (c1 : Int) := by rw [IntWalk.i64_in _ (by omega)]; omega
      have ic := fun W => run_idx (P := Tryd.prog) (sz := 1) Tryd.underlying33 (by kernel_rfl) gB 1 v hv .i64 W
      simp only [Nat.one_mul] at ic
      have kc0 : wr.drew.cell? ⟨gB, 1 + v, none⟩ = some (.int .i64 (c0 : Int)) := kc
      clear hc0 hc1 kc qBr
      go_upto_region 17 with fail
      refine wp_region_noPanic ?_
      refine wp_region_held_drew (S := fun _ => True) (by kernel_rfl) trivial (fun hHeld => ?_)
      refine wpAnyH_take (i := 0) (oi := ⟨some 71, _, _, _, _, _⟩) (v := ?_) rfl (by kernel_rfl) (by kernel_rfl) (by kernel_rfl) (fun _ _ _ h => h) (Or.inl ⟨by rfl, ?_⟩) hHeld ?_
      rotate_left
      · intro W hSW; have hSW0 := hSW; go_simp; first | done | with_reducible rfl
      (try simp only [Act.put, List.setIfInBounds_toArray, List.set_cons_zero, List.set_cons_succ])
      refine wpAnyH_take (i := 1) (oi := ⟨some 72, _, _, _, _, _⟩) (v := ?_) rfl (by kernel_rfl) (by kernel_rfl) (by kernel_rfl) (fun _ _ _ h => h) (Or.inl ⟨by rfl, ?_⟩) hHeld ?_
      rotate_left
      · intro W hSW; have hSW0 := hSW; go_simp; first | done | with_reducible rfl
      (try simp only [Act.put, List.setIfInBounds_toArray, List.set_cons_zero, List.set_cons_succ])
      refine wpAnyH_take (i := 2) (oi := ⟨some 73, _, _, _, _, _⟩) (v := ?_) rfl (by kernel_rfl) (by kernel_rfl) (by kernel_rfl) (fun _ _ _ h => h) (Or.inl ⟨by rfl, ?_⟩) hHeld ?_
      rotate_left
      · intro W hSW; have hSW0 := hSW; go_simp; first | done | with_reducible rfl
      (try simp only [Act.put, List.setIfInBounds_toArray, List.set_cons_zero, List.set_cons_succ])
      refine wpAnyH_take (i := 3) (oi := ⟨some 74, _, _, _, _, _⟩) (v := ?_) rfl (by kernel_rfl) (by kernel_rfl) (by kernel_rfl) (fun _ _ _ h => h) (Or.inl ⟨by rfl, ?_⟩) hHeld ?_
      rotate_left
      · intro W hSW; have hSW0 := hSW; go_simp; first | done | with_reducible rfl
      (try simp only [Act.put, List.setIfInBounds_toArray, List.set_cons_zero, List.set_cons_succ])
      refine wpAnyH_take (i := 4) (oi := ⟨some 75, _, _, _, _, _⟩) (v := ?_) rfl (by kernel_rfl) (by kernel_rfl) (by kernel_rfl) (fun _ _ _ h => h) (Or.inl ⟨by rfl, ?_⟩) hHeld ?_
      rotate_left
      · intro W hSW; have hSW0 := hSW; go_simp; first | done | with_reducible rfl
      (try simp only [Act.put, List.setIfInBounds_toArray, List.set_cons_zero, List.set_cons_succ])
      refine wpAnyH_take (i := 7) (oi := ⟨some 78, _, _, _, _, _⟩) (v := ?_) rfl (by kernel_rfl) (by kernel_rfl) (by kernel_rfl) (fun _ _ _ h => h) (Or.inl ⟨by rfl, ?_⟩) hHeld ?_
      rotate_left
      · intro W hSW; have hSW0 := hSW; go_simp; first | done | with_reducible rfl
      (try simp only [Act.put, List.setIfInBounds_toArray, List.set_cons_zero, List.set_cons_succ])
      refine wpAnyH_take (i := 8) (oi := ⟨some 79, _, _, _, _, _⟩) (v := ?_) rfl (by kernel_rfl) (by kernel_rfl) (by kernel_rfl) (fun _ _ _ h => h) (Or.inl ⟨by rfl, ?_⟩) hHeld ?_
      rotate_left
      · intro W hSW; have hSW0 := hSW; go_simp; first | done | with_reducible rfl
      (try simp only [Act.put, List.setIfInBounds_toArray, List.set_cons_zero, List.set_cons_succ])
      refine wpAnyH_ready (rs := [5]) (by kernel_rfl) (by simp) ?_
      refine AllReadyH.cons (o := ⟨some 76, _, _, _, _, _⟩) rfl (fun K hK => ?_) (AllReadyH.nil)
      go_simp
      clear hHeld
      refine hK.out _ _ ?_ (fun hHeld => ?_)
      · trivial
      clear hK K
      (try simp only [Act.put, List.setIfInBounds_toArray, List.set_cons_zero, List.set_cons_succ])
      refine wpAnyH_take (i := 6) (oi := ⟨some 77, _, _, _, _, _⟩) (v := ?_) rfl (by kernel_rfl) (by kernel_rfl) (by kernel_rfl) (fun _ _ _ h => h) (Or.inl ⟨by rfl, ?_⟩) hHeld ?_
      rotate_left
      · intro W hSW; have hSW0 := hSW; go_simp; first | done | with_reducible rfl
      (try simp only [Act.put, List.setIfInBounds_toArray, List.set_cons_zero, List.set_cons_succ])
      refine wpAnyH_take (i := 9) (oi := ⟨some 80, _, _, _, _, _⟩) (v := ?_) rfl (by kernel_rfl) (by kernel_rfl) (by kernel_rfl) (fun _ _ _ h => h) (Or.inl ⟨by rfl, ?_⟩) hHeld ?_
      rotate_left
      · intro W hSW; have hSW0 := hSW; go_simp; first | done | with_reducible rfl
      (try simp only [Act.put, List.setIfInBounds_toArray, List.set_cons_zero, List.set_cons_succ])
      refine wpAnyH_ready (rs := [10]) (by kernel_rfl) (by simp) ?_
      refine AllReadyH.cons (o := ⟨none, _, _, _, _, _⟩) rfl (fun K hK => ?_) (AllReadyH.nil)
      refine step_cell (by rfl) 3 _ _ (by rfl) gB (1 + v) (.int .i64 (c1 : Int)) (by rfl) (by rfl) 68 (BF n (Cv.cv row) (.slice (some ⟨gs, 0, none⟩) N N)) qB0 szB info3one rfl ?_
      intro W7 h7
      clear hHeld
      refine hK.out _ _ ?_ (fun hHeld => ?_)
      · trivial
      clear hK K
      (try simp only [Act.put, List.setIfInBounds_toArray, List.set_cons_zero, List.set_cons_succ])
      refine wpAnyH_done (by kernel_rfl) ?_ _
      refine NoPanic.normal ?_
      clear hHeld
      have hB7 := h7.row
      rw [HBF.out] at hB7
      have HL7 := Lib.hid (h7.blk HLAST.out hgsB)
      have HK7 := Lib.hid (HKPF.out.trans (Kp.drewUpd h7) (.inl rfl))
      clear h7
      go_wp2
      go_ret
      exact ⟨rfl, .slice (some ⟨gs, 0, none⟩) N N, ⟨hB7, .inr ⟨gs, by rw [HN.out], hgsB, HL7.out⟩⟩, HK7.out, (.inl rfl)⟩
/-- (*Buffer).Add. -/
theorem addC (gB n v T c : Nat) (b off : Nat) (row : List (Nat × List Nat)) (p : List Nat) (S : Value) (w : World) (hB : BufS w gB n row S) (hn : n ≤ 4096) (hrl : row.length ≤ 30) (hv : v < 4) (hT : T = n + 6) (hr : Rd w w.heap.size (some ⟨b, off, none⟩) T (U8 p)) (hp : ∀ x ∈ p, x ≤ 1) (hbB : b ≠ gB) (hbl : b < w.heap.size) (hbS : S.ownBlock ≠ some b) :
    Calls Tryd.prog 12 #[.pointer (some ⟨gB, 0, none⟩), .int .i64 (v : Int), .slice (some ⟨b, off, none⟩) T c] w (AddOk w gB n row S v p) := by
  rcases hB.sums with ⟨h, _⟩ | ⟨gs, h, _, _⟩
  · subst h
    exact add0 gB n v T c b off row p w hB hn hrl hv hT hr hp hbB hbl
  · subst h
    exact add1 gB n v T c gs _ rfl b off row p w hB hn hrl hv hT hr hp hbB hbl (fun e => hbS (by rw [e]; rfl))
end Go.Proofs.YtibddlldgmidlabDoor

namespace Go.Proofs.YtibddlldgmidlabDoor
open Go.RowKit
set_option linter.unusedVariables false
set_option linter.unusedSimpArgs false

/-- Counts as a list. -/
def cl (row : List (Nat × List Nat)) : List Nat := [Cv.cv row 0, Cv.cv row 1, Cv.cv row 2, Cv.cv row 3]
theorem Rd.kp {w w' : World} {b off n g : Nat} {o : Option Nat} {xs : List Value} (h : Rd w w.heap.size (some ⟨b, off, none⟩) n xs) (hk : Kp w w' g o) (h1 : b ≠ g) (h2 : o ≠ some b) (hb : b < w.heap.size) : Rd w' w'.heap.size (some ⟨b, off, none⟩) n xs :=
  ⟨h.len, fun hn => by
    obtain ⟨b', off', e, _, hc⟩ := h.at_ hn
    injection e with e
    injection e with e1 e2
    subst e1 e2
    exact ⟨b, off, rfl, Nat.lt_of_lt_of_le hb hk.size, fun i u hu => (cell_of_heap (hk.block b hb h1 h2) (off + i)).trans (hc i u hu)⟩⟩
/-- A made row that is not empty lies in a block of its own. -/
theorem Own.at0 {w : World} {base : Nat} {e : TypeId} {A : Option Addr} {n c : Nat} {xs : List Value} (h : Own w base e A n c xs) (hn : 0 < n) : ∃ g, A = some ⟨g, 0, none⟩ ∧ base ≤ g ∧ g < w.heap.size := by
  obtain ⟨g, h1, h2, h3, _⟩ := h.slot 0 hn
  exact ⟨g, h1, h2, h3⟩
theorem Z4w_eq' : (Tryd.prog.info? 33).bind (fun i => i.zero.map (fun z => z.cells)) = some (W4 (nw [0, 0, 0, 0])) := by kernel_rfl
theorem BF_mid (n : Nat) (row : List (Nat × List Nat)) (S : Value) : ∀ i u, (W4 (nw (cl row))).toList[i]? = some u → (BF n (Cv.cv row) S)[1 + i]? = some u := by
  intro i u hu
  have hi : i < 4 := by
    have := (List.getElem?_eq_some_iff.1 hu).1
    simpa [W4, nw, cl, I64] using this
  have h : i = 0 ∨ i = 1 ∨ i = 2 ∨ i = 3 := by omega
  rcases h with rfl | rfl | rfl | rfl <;> exact hu
set_option maxHeartbeats 400000 in
/-- (*Buffer).Counts. -/
theorem countsC (gB n : Nat) (row : List (Nat × List Nat)) (S : Value) (w : World) (hb : Blk w gB 68 (BF n (Cv.cv row) S)) :
    Calls Tryd.prog 14 #[.pointer (some ⟨gB, 0, none⟩)] w fun e w' => e = .returned (.agg (W4 (nw (cl row)))) ∧ Below w.heap.size w w' := by
  have iZ : Hid ((Tryd.prog.info? 33).map (·.size) = some (W4 (nw (cl row))).size) := info4w
  have HM := Lib.hid (BF_mid n row S)
  have HS : Hid ((W4 (nw [0, 0, 0, 0])).size = (W4 (nw (cl row))).size) := rfl
  have H1 := Lib.hid (W4_one (nw (cl row)))
  have HR : Hid (∀ W, Below w.heap.size w W → W.rangeAt gB 1 (W4 (nw (cl row))).toList) := fun W h => (hb.after h).range 1 _ HM.out
  generalize W4 (nw (cl row)) = Z at *
  clear hb HM
  go_enter Tryd.func14, Tryd.ntmps14
  go_wp2_with (first | (refine at_alloc rfl 33 rfl (W4 (nw [0, 0, 0, 0])) Z4w_eq' ?_; intro w1 h1) | (refine at_load_mid rfl 33 _ rfl gB 1 rfl Z _ (HR.out w1 h1.bel) Tryd.underlying33 rfl iZ.out ?_) | (refine at_store rfl 33 _ _ rfl w.heap.size Z rfl rfl 33 _ h1.row iZ.out HS.out H1.out ?_; intro w2 h2))
  refine bodyPost_ret (v := .agg Z) (results_row rfl _ _ w.heap.size 33 _ _ rfl h2.row Tryd.underlying33 rfl iZ.out) rfl ?_
  exact ⟨rfl, h1.bel.trans (h2.below (Nat.le_refl _))⟩
/-- The versions of a list, one behind the other. -/
def wrow (l : List Nat) (k : Nat) : List (Nat × List Nat) := (List.range k).map fun v => (v, Cv.pick (Cv.code l) v)
theorem wrow_succ (l : List Nat) (k : Nat) : wrow l (k + 1) = wrow l k ++ [(k, Cv.pick (Cv.code l) k)] := by unfold wrow; rw [List.range_succ, List.map_append]; rfl
theorem wrow_length (l : List Nat) (k : Nat) : (wrow l k).length = k := by simp [wrow]
theorem cl_four (l : List Nat) : cl (wrow l 4) = [1, 1, 1, 1] := rfl
theorem eq4w : ∀ w, (binOp .eql 33 (.agg #[.int .i64 1, .int .i64 1, .int .i64 1, .int .i64 1]) (.agg #[.int .i64 1, .int .i64 1, .int .i64 1, .int .i64 1])).run Tryd.prog w = .ok (.bool true) w := fun _ => by kernel_rfl
theorem five : ∀ x ∈ [1, 1, 0, 1, 0], x ≤ 1 := by decide
set_option maxHeartbeats 1000000 in
set_option maxRecDepth 100000 in
/-- The statements' first test. -/
theorem combinesC (w : World) (hT : Taps w) : Calls Tryd.prog 11 #[] w fun e w' => e = .returned (.bool true) ∧ Below w.heap.size w w' := by
  have CN : Hid (∀ W, Calls Tryd.prog 16 #[.int .i64 5] W fun e w' => e = .returned (.tuple #[.pointer (some ⟨W.heap.size, 0, none⟩), .int .i64 0]) ∧ BufS w' W.heap.size 5 [] (.slice none 0 0) ∧ Below W.heap.size W w' ∧ w'.heap.size = W.heap.size + 1) := fun W => newC 5 W (by omega)
  have HCL : Hid ((Cv.code [1, 1, 0, 1, 0]).length = 44) := Cv.code_length _
  have HRB : Hid (Cv.rb (Cv.softs 11 (wrow [1, 1, 0, 1, 0] 4)) 5 0 0 = [1, 1, 0, 1, 0]) := by
    have h1 : Cv.Best _ 5 _ := Cv.row_whole [1, 1, 0, 1, 0] five (wrow [1, 1, 0, 1, 0] 4) (by simp [wrow]) (fun r hr => by
      obtain ⟨v, hv, rfl⟩ := List.mem_map.1 hr
      exact ⟨List.mem_range.1 hv, rfl⟩)
    exact (Cv.rb_best _ 5).uniq h1
  go_enter Tryd.func11, Tryd.ntmps11
  go_upto_region 2 with fail
  have r0 := rd_block w 5 #[.int .u8 1, .int .u8 1, .int .u8 0, .int .u8 1, .int .u8 0] (0, 0) (U8 [1, 1, 0, 1, 0]) 5 rfl rfl
  have b0 : Below w.heap.size w (w.alloc (.cells #[.int .u8 1, .int .u8 1, .int .u8 0, .int .u8 1, .int .u8 0] 5)) := (Below.refl _ _).alloc (Nat.le_refl _) _
  generalize w.alloc (.cells #[.int .u8 1, .int .u8 1, .int .u8 0, .int .u8 1, .int .u8 0] 5) = w0 at *
  go_upto_region 4 with (go_at_call 16; refine (CN.out w0).mono ?_; rintro e w1 ⟨rfl, hB, b1, s1⟩)
  obtain ⟨gB, hgB⟩ : ∃ g, g = w0.heap.size := ⟨_, rfl⟩
  rw [← hgB] at hB b1 s1
  rw [← hgB]
  have HG := Lib.hid hgB
  have hw0 : w.heap.size ≤ gB := by rw [hgB]; exact b0.size
  have hpos := hT.pos
  clear hgB
  go_loopw [4] (fun x wr => ∃ v : Nat, v ≤ 4 ∧ x = .int .i64 v ∧ ∃ S, BufS wr gB 5 (wrow [1, 1, 0, 1, 0] v) S ∧ Below gB w0 wr ∧ (∀ k, S.ownBlock = some k → gB ≤ k) ∧ gB ≤ wr.heap.size) (fun x _ => 4 - (intOf x).toNat)
  case atStart => exact ⟨0, by omega, rfl, _, hB, b1, (fun k hk => by cases hk), by rw [s1]; omega⟩
  case round =>
    clear hB b1 s1
    obtain ⟨v, hv, rfl, S, hB, bel, hS, hsz⟩ := hrel
    have rw0 : Rd wr wr.heap.size (some ⟨w.heap.size, 0, none⟩) 5 (U8 [1, 1, 0, 1, 0]) := by
      have := r0
      rw [← HG.out] at this
      exact (this.below bel).up hsz
    by_cases hlt : v < 4
    · have CC := Lib.hid (refCode (some ⟨w.heap.size, 0, none⟩) 5 5 [1, 1, 0, 1, 0] wr rw0 five (by omega))
      have CP := Lib.hid (fun (Ac : Option Addr) (nc cc : Nat) (W : World) (h : Rd W W.heap.size Ac nc (U8 (Cv.code [1, 1, 0, 1, 0]))) => refPick Ac nc cc 11 v (Cv.code [1, 1, 0, 1, 0]) W h (by rw [h.len8, HCL.out]) (by omega) hlt)
      have HWS := Lib.hid (wrow_succ [1, 1, 0, 1, 0] v)
      have HWL := Lib.hid (wrow_length [1, 1, 0, 1, 0] v)
      have HPL : Hid ((Cv.pick (Cv.code [1, 1, 0, 1, 0]) v).length = 11) := by unfold Hid; rw [Cv.pick_length, HCL.out]
      have HPB := Lib.hid (Cv.pick_bit _ (Cv.code_bit _ five) v)
      have dv : decide ((v : Int) < 4) = true := by simp <;> omega
      generalize Cv.pick (Cv.code [1, 1, 0, 1, 0]) v = p at *
      generalize Cv.code [1, 1, 0, 1, 0] = cd at *
      generalize wrow [1, 1, 0, 1, 0] v = row at *
      go_wp2_with fail
      refine CC.out.mono ?_
      rintro e w2 ⟨A2, n2, c2, rfl, own2, b2⟩
      go_wp2_with fail
      refine (CP.out A2 n2 c2 w2 own2.rd).mono ?_
      rintro e w3 ⟨A3, n3, c3, rfl, own3, b3⟩
      obtain rfl : n3 = 11 := by rw [own3.rd.len8, HPL.out]
      obtain ⟨g3, rfl, hg3, hg3l⟩ := own3.at0 (by omega)
      have b23 := Below.then_ b2 b3
      have hB3 := hB.after b23
      have hlB := hB.blk.lt
      have hg3r : wr.heap.size ≤ g3 := Nat.le_trans b2.size hg3
      have CA := Lib.hid (addC gB 5 v 11 c3 g3 0 row p S w3 hB3 (by omega) (by rw [HWL.out]; omega) hlt rfl own3.rd HPB.out (by omega) hg3l (fun e => by have := hB.lt g3 e; omega))
      have hs3 := b23.size
      clear own2 own3 b2 b3
      go_wp2_with fail
      refine CA.out.mono ?_
      rintro e w4 ⟨rfl, S4, hB4, hK, hO⟩
      have bel4 := (bel.trans (b23.mono hsz)).trans (hK.below (Nat.le_refl _) hS (Nat.le_trans hsz hs3))
      have hsz4 := hK.size
      go_wp2
      go_roundw
      case rel => exact ⟨v + 1, by omega, by go_num, S4, by rw [HWS.out]; exact hB4, bel4, fun k hk => by
        rcases hO with e | ⟨j, e, hj⟩
        · exact hS k (by rw [← e]; exact hk)
        · rw [e] at hk; injection hk with hk; omega, by omega⟩
      case measure => simp [intOf] <;> omega
    · have dv : decide ((v : Int) < 4) = false := by simp <;> omega
      obtain rfl : v = 4 := by omega
      have hTr : Taps wr := hT.low (b0.trans (bel.mono hw0)) hpos
      have CD := Lib.hid (bdecode gB 5 _ S wr hB (by omega) (by rw [wrow_length]; omega) hTr)
      rw [show (5 + 6 : Nat) = 11 from rfl, HRB.out] at CD
      have CT := Lib.hid (fun (W : World) (h : Below wr.heap.size wr W) => countsC gB 5 _ S W (hB.after h).blk)
      rw [cl_four] at CT
      have CT2 : Hid (∀ W, Below wr.heap.size wr W → Calls Tryd.prog 14 #[.pointer (some ⟨gB, 0, none⟩)] W fun e w' => e = .returned (.agg #[.int .i64 1, .int .i64 1, .int .i64 1, .int .i64 1]) ∧ Below W.heap.size W w') := CT.out
      have heq := eq4w
      have HSZ := Lib.hid hsz
      clear hB CT hsz dv
      go_wp2_with fail
      refine CD.out.mono ?_
      rintro e w2 ⟨A2, n2, c2, rfl, own2, b2⟩
      have hq1 := own2.conv w2 (Below.refl _ _)
      have hq2 := rw0.convS (c := 5) w2 b2
      generalize str [1, 1, 0, 1, 0] = s0 at *
      have ts : (s0.toList == s0.toList) = true := by simp
      clear own2
      go_wp2_with (go_at_call 14; refine (CT2.out w2 b2).mono ?_; rintro e w3 ⟨rfl, b3⟩)
      go_ret
      exact ⟨rfl, ((b0.trans (bel.mono hw0)).trans (b2.mono (Nat.le_trans hw0 HSZ.out))).trans (b3.mono (Nat.le_trans (Nat.le_trans hw0 HSZ.out) b2.size))⟩
end Go.Proofs.YtibddlldgmidlabDoor

namespace Go.Proofs.YtibddlldgmidlabDoor
open Go.RowKit
set_option linter.unusedVariables false
set_option linter.unusedSimpArgs false

/-- What came, as a value. -/
structure CE where
  r : Bool
  v : Int
  aA : Option Addr
  aL : Nat
  aC : Nat
  rA : Option Addr
  rL : Nat
  rC : Nat
  ys : List Int
  bs : List Nat
instance : Inhabited CE := ⟨⟨false, 0, none, 0, 0, none, 0, 0, [], []⟩⟩
/-- Its cells. -/
def CE.cells (e : CE) : Array Value := #[.bool e.r, .int .i64 e.v, .slice e.aA e.aL e.aC, .slice e.rA e.rL e.rC]
theorem CE.one (e : CE) : e.cells.all (·.oneCell') = true := by simp [CE.cells, Value.oneCell']
/-- What it reads as. -/
structure CE.ok (w : World) (B : Nat) (e : CE) : Prop where
  at_ : Rd w B e.aA e.aL (I64 e.ys)
  ab : e.aL ≤ 9223372036854775807
  raw : Rd w B e.rA e.rL (U8 e.bs)
  r256 : ∀ b ∈ e.bs, b < 256
  rc : e.rL ≤ e.rC
  rc2 : e.rC ≤ 9223372036854775807
  rnone : e.rA = none → e.rL = 0 ∧ e.rC = 0
theorem CE.ok.below {w w' : World} {B : Nat} {e : CE} (h : e.ok w B) (hb : Below B w w') : e.ok w' B := ⟨h.at_.below hb, h.ab, h.raw.below hb, h.r256, h.rc, h.rc2, h.rnone⟩
/-- A row of what came. -/
structure CRow (w : World) (B : Nat) (A : Option Addr) (n : Nat) (es : Nat → CE) : Prop where
  at_ : 0 < n → ∃ b off, A = some ⟨b, off, none⟩ ∧ b < B ∧ ∀ i, i < n → ∀ j u, (es i).cells[j]? = some u → w.cell? ⟨b, off + 4 * i + j, none⟩ = some u
  ok : ∀ i, i < n → (es i).ok w B
theorem CRow.below {w w' : World} {B : Nat} {A : Option Addr} {n : Nat} {es : Nat → CE} (h : CRow w B A n es) (hb : Below B w w') : CRow w' B A n es :=
  ⟨fun hn => by
    obtain ⟨b, off, e, hlt, hc⟩ := h.at_ hn
    exact ⟨b, off, e, hlt, fun i hi j u hu => (hb.cell (p := ⟨b, off + 4 * i + j, none⟩) hlt).trans (hc i hi j u hu)⟩, fun i hi => (h.ok i hi).below hb⟩
/-- The places that are turned. -/
def atl (ys : List Int) (T k : Nat) : List Int := (ys.take k).map fun z => (((z % 18446744073709551616).toNat % T : Nat) : Int)
theorem atl_succ (ys : List Int) (T k : Nat) (h : k < ys.length) : atl ys T (k + 1) = atl ys T k ++ [(((ys.getD k 0 % 18446744073709551616).toNat % T : Nat) : Int)] := by
  unfold atl
  rw [List.take_succ_eq_append_getElem h, List.map_append, Bm.getD_lt _ _ _ h]
  rfl
theorem wrap_u64_of (a : Int) : IntKind.u64.wrap a = (((a % 18446744073709551616).toNat : Nat) : Int) := by
  have h : IntKind.u64.wrap a = a % 18446744073709551616 := IntKind.wrap_u64 a
  rw [h]; omega
/-- What part gives. -/
def pt (l : List Nat) (v : Nat) (e : CE) : List Nat := Bm.trn (Cv.pick (Cv.code l) v) (atl e.ys (l.length + 6) (min e.aL 30))
theorem pt_length (l : List Nat) (v : Nat) (e : CE) : (pt l v e).length = l.length + 6 := by unfold pt; rw [Bm.trn_length, Cv.pick_length, Cv.code_length]; omega
theorem pt_bit (l : List Nat) (hl : ∀ x ∈ l, x ≤ 1) (v : Nat) (e : CE) : ∀ x ∈ pt l v e, x ≤ 1 := fun x hx => by
  have := Bm.trn_lt 1 (by omega) (Cv.pick (Cv.code l) v) (atl e.ys (l.length + 6) (min e.aL 30)) (fun y hy => by have := Cv.pick_bit _ (Cv.code_bit l hl) v y hy; omega) x hx
  omega
theorem infoCame : (Tryd.prog.info? 42).map (·.size) = some 4 := by kernel_rfl
set_option maxHeartbeats 1000000 in
set_option maxRecDepth 100000 in
/-- (Came).part. -/
theorem partC (e0 : CE) (A : Option Addr) (n c v : Nat) (l : List Nat) (w : World) (he : e0.ok w w.heap.size) (hr : Rd w w.heap.size A n (U8 l)) (hl : ∀ x ∈ l, x ≤ 1) (hn : n ≤ 4096) (hv : v < 4) :
    Calls Tryd.prog 19 #[.agg e0.cells, .slice A n c, .int .i64 (v : Int)] w (Made w (pt l v e0)) := by
  have HN := Lib.hid hr.len8
  have HCL : Hid ((Cv.code l).length = 4 * (n + 6)) := by unfold Hid; rw [Cv.code_length, ← hr.len8]
  have CC := Lib.hid (fun (W : World) (h : Below w.heap.size w W) => refCode A n c l W ((hr.below h).up h.size) hl (by omega))
  have CP := Lib.hid (fun (Ac : Option Addr) (nc cc : Nat) (W : World) (h : Rd W W.heap.size Ac nc (U8 (Cv.code l))) => refPick Ac nc cc (n + 6) v (Cv.code l) W h (by rw [h.len8, HCL.out]) (by omega) hv)
  have HPL : Hid ((Cv.pick (Cv.code l) v).length = n + 6) := by unfold Hid; rw [Cv.pick_length, HCL.out]; omega
  have HPB := Lib.hid (Cv.pick_bit _ (Cv.code_bit l hl) v)
  have HRT : Hid (pt l v e0 = Bm.trn (Cv.pick (Cv.code l) v) (atl e0.ys (n + 6) (min e0.aL 30))) := by unfold Hid pt; rw [← hr.len8]
  have HC2 : Hid (e0.cells[2]? = some (.slice e0.aA e0.aL e0.aC)) := rfl
  rw [HRT.out]
  have HY := Lib.hid he.at_.len64
  have rA := he.at_
  have hab := he.ab
  clear hr hl he HRT
  generalize e0.cells = E at *
  generalize e0.aA = aA at *
  generalize e0.aL = aL at *
  generalize e0.aC = aC at *
  generalize e0.ys = ys at *
  generalize Cv.pick (Cv.code l) v = p at *
  generalize Cv.code l = cd at *
  obtain ⟨T, hT⟩ : ∃ T, T = n + 6 := ⟨_, rfl⟩
  rw [← hT] at HPL
  rw [← hT]
  have hT6 : 6 ≤ T := by omega
  have hT7 : T ≤ 5000 := by omega
  clear hT
  obtain ⟨m, hm⟩ : ∃ m, m = min aL 30 := ⟨_, rfl⟩
  rw [← hm]
  have hm1 : m ≤ aL := by omega
  have hm2 : m ≤ 30 := by omega
  have hm3 : ∀ i, i < m → i < aL ∧ i < 30 := fun i hi => by omega
  have hm4 : ∀ i, ¬ i < m → ¬ (i < aL ∧ i < 30) := fun i hi => by omega
  have HM3 := Lib.hid hm3
  have HM4 := Lib.hid hm4
  clear hm hm3 hm4
  go_enter Tryd.func19, Tryd.ntmps19
  go_upto_region 1 with (refine at_box rfl 42 _ rfl E rfl ?_; intro w1 h1)
  have q1 := h1.row
  have b1 := h1.bel
  go_upto_region 2 with (first | (go_at_call 26; refine (CC.out w1 b1).mono ?_; rintro e w2 ⟨A2, n2, c2, rfl, own2, b2⟩) | (go_at_call 25; refine (CP.out A2 n2 c2 w2 own2.rd).mono ?_; rintro e w3 ⟨A3, n3, c3, rfl, own3, b3⟩))
  have b13 := Below.then_ b2 b3
  have q3 := q1.after b13
  have bw3 := Below.then_ b1 b13
  have hn3 : n3 = T := by rw [own3.rd.len8, HPL.out]
  subst hn3
  have r3 := own3.rd
  have kA : w3.cell? ⟨w.heap.size, 2, none⟩ = some (.slice aA aL aC) := (q3.cell 2).trans HC2.out
  have lg := q3.lt
  obtain ⟨g3, hg3⟩ : ∃ g, g = w.heap.size := ⟨_, rfl⟩
  rw [← hg3] at kA lg
  rw [← hg3]
  have HG3 := Lib.hid hg3
  clear h1 q1 b1 b2 b3 b13 own2 own3 q3 hg3 CC CP
  have e64 : IntKind.u64.wrap (n3 : Int) = (n3 : Int) := by rw [IntKind.wrap_u64]; omega
  have hT0 : ((n3 : Int) == 0) = false := by simp; omega
  have hT1 : ¬ (n3 : Int) = 0 := by omega
  go_wp2
  go_loopw [8, 9] (fun s x wr => ∃ i : Nat, i ≤ m ∧ x = .int .i64 i ∧ ∃ A1 c1, s = .slice A1 i c1 ∧ Own wr w3.heap.size 3 A1 i c1 (I64 (atl ys n3 i)) ∧ Below w3.heap.size w3 wr) (fun _ x _ => m - (intOf x).toNat)
  case atStart => exact ⟨0, Nat.zero_le _, rfl, none, 0, rfl, Own.nil _ _ _, Below.refl _ _⟩
  case round =>
    obtain ⟨i, hi, rfl, A1, c1, rfl, own, bel⟩ := hrel
    have kAr := (bel.cell (p := ⟨g3, 2, none⟩) lg).trans kA
    have hsz := bel.size
    by_cases hlt : i < m
    · obtain ⟨hi1, hi2⟩ := HM3.out i hlt
      obtain ⟨b, off, hA, hb, kz⟩ := (rA.below (bw3.trans (bel.mono bw3.size))).cell64 i hi1
      subst hA
      have HS := Lib.hid (atl_succ ys n3 i (by rw [← HY.out]; exact hi1))
      generalize ys.getD i 0 = z at *
      have f1 := wrap_u64_of z
      obtain ⟨r, hr⟩ : ∃ r, r = (z % 18446744073709551616).toNat % n3 := ⟨_, rfl⟩
      have f2 : (((z % 18446744073709551616).toNat : Nat) : Int) % (n3 : Int) = (r : Int) := by rw [hr]; omega
      have hrT : r < n3 := by rw [hr]; exact Nat.mod_lt _ (by omega)
      have hub : (z % 18446744073709551616).toNat < 18446744073709551616 := by omega
      rw [← hr] at HS
      generalize (z % 18446744073709551616).toNat = uz at *
      have g1 : (i : Int) < (aL : Int) := by omega
      have d1 : decide ((i : Int) < (aL : Int)) = true := by simp; omega
      have d2 : decide ((i : Int) < 30) = true := by simp; omega
      clear hr
      go_wp2_with (at_builtin; refine app64 _ rfl _ _ rfl w3.heap.size _ _ _ _ (r : Int) rfl own rfl (by omega) hsz ?_; intro A4 c4 w4 own4 gr4)
      go_roundw
      case rel => exact ⟨i + 1, by omega, by go_num, A4, c4, rfl, by rw [HS.out]; exact own4, bel.grown gr4 hsz (fun j hj => (own.block j hj).1)⟩
      case measure => simp [intOf] <;> omega
    · have hno := HM4.out i hlt
      have hmi : Hid (i = m) := by unfold Hid; omega
      have CT := Lib.hid (refTurn A3 A1 n3 c3 i c1 p (atl ys n3 i) wr ((r3.below bel).up hsz) own.rd (bit256 HPB.out) (by omega) (by omega))
      rw [hmi.out] at CT
      by_cases ha : i < aL
      · have d1 : decide ((i : Int) < (aL : Int)) = true := by simp; omega
        have d2 : decide ((i : Int) < 30) = false := by simp; omega
        have CT2 : Hid (Calls Tryd.prog 43 #[.slice A3 n3 c3, .slice A1 i c1] wr (Made wr (Bm.trn p (atl ys n3 m)))) := by unfold Hid; rw [hmi.out]; exact CT.out
        clear hno CT
        go_wp2_with (go_at_call 43; refine CT2.out.mono ?_; rintro e w5 ⟨A5, n5, c5, rfl, own5, b5⟩)
        go_ret
        exact ⟨A5, n5, c5, rfl, own5.down (Nat.le_trans bw3.size hsz), Below.then_ (Below.then_ bw3 bel) b5⟩
      · have d1 : decide ((i : Int) < (aL : Int)) = false := by simp; omega
        have CT2 : Hid (Calls Tryd.prog 43 #[.slice A3 n3 c3, .slice A1 i c1] wr (Made wr (Bm.trn p (atl ys n3 m)))) := by unfold Hid; rw [hmi.out]; exact CT.out
        clear hno CT
        go_wp2_with (go_at_call 43; refine CT2.out.mono ?_; rintro e w5 ⟨A5, n5, c5, rfl, own5, b5⟩)
        go_ret
        exact ⟨A5, n5, c5, rfl, own5.down (Nat.le_trans bw3.size hsz), Below.then_ (Below.then_ bw3 bel) b5⟩
end Go.Proofs.YtibddlldgmidlabDoor

namespace Go.Proofs.YtibddlldgmidlabDoor
open Go.RowKit Go.WideShapes Go.ChangeShapes
set_option linter.unusedVariables false

theorem cellsCame : Tryd.prog.cellsOf 42 = 4 := by kernel_rfl
theorem cellsB : Tryd.prog.cellsOf 4 = 1 := by kernel_rfl
theorem cellsI : Tryd.prog.cellsOf 3 = 1 := by kernel_rfl
theorem cellsSI : Tryd.prog.cellsOf 31 = 1 := by kernel_rfl
theorem cellsSB : Tryd.prog.cellsOf 22 = 1 := by kernel_rfl
theorem cameInts {H : Type} {enc : TypeId × Value → H} {W : World} {n : Nat} {v : Value} {y : DataW H × List MemPlace} (h : DataW.trod enc Tryd.prog W 0 (fun _ => true) true n 31 [v] = some y) : ∃ a l c zs, v = .slice a l c ∧ Came .i64 W a l c zs := by
  rcases open_ints Tryd.underlying31 Tryd.underlying3 (by kernel_rfl) h with ⟨hcs, _⟩ | ⟨x, l, c, zs, hcs, _, hl, hm, hz, _, hcell, hwz⟩
  · simp at hcs
    exact ⟨none, 0, 0, [], hcs, .inl ⟨rfl, rfl, rfl, rfl⟩⟩
  · simp at hcs
    exact ⟨some x, l, c, zs, hcs, .inr ⟨_, rfl, hl, hm, by simpa using hz, hcell, hwz⟩⟩
theorem cameBytes {H : Type} {enc : TypeId × Value → H} {W : World} {n : Nat} {v : Value} {y : DataW H × List MemPlace} (h : DataW.trod enc Tryd.prog W 0 (fun _ => true) true n 22 [v] = some y) : ∃ a l c zs, v = .slice a l c ∧ Came .u8 W a l c zs := by
  rcases open_ints Tryd.underlying22 Tryd.underlying5 (by kernel_rfl) h with ⟨hcs, _⟩ | ⟨x, l, c, zs, hcs, _, hl, hm, hz, _, hcell, hwz⟩
  · simp at hcs
    exact ⟨none, 0, 0, [], hcs, .inl ⟨rfl, rfl, rfl, rfl⟩⟩
  · simp at hcs
    exact ⟨some x, l, c, zs, hcs, .inr ⟨_, rfl, hl, hm, by simpa using hz, hcell, hwz⟩⟩
set_option maxRecDepth 100000 in
theorem cameRows {H : Type} {enc : TypeId × Value → H} {W : World} {fuel len cap : Nat} {a : Option Addr} {x : DataW H × List MemPlace} (h : DataW.trod enc Tryd.prog W 0 (fun _ => true) true fuel 23 [.slice a len cap] = some x) :
    ∃ es : Nat → CE, CRow W W.heap.size a len es ∧ len ≤ cap ∧ cap ≤ 9223372036854775807 := by
  rcases Deep.open_slice Tryd.underlying23 h with ⟨hcs, _⟩ | ⟨ad, l, c, m, n, D, Pl, hcs, _, hl, hm, hmm, _, hx⟩
  · simp at hcs
    obtain ⟨rfl, rfl, rfl⟩ := hcs
    exact ⟨fun _ => default, ⟨fun h => absurd h (by omega), fun i hi => absurd hi (by omega)⟩, by omega, by omega⟩
  · simp at hcs
    obtain ⟨rfl, rfl, rfl⟩ := hcs
    have hlm : len ≤ m := by rw [hmm]; simp; exact hl
    have each : ∀ i, i < len → ∃ e : CE, (∀ j u, e.cells[j]? = some u → W.cell? (ad.add (i * 4 + j)) = some u) ∧ e.ok W W.heap.size := by
      intro i hi
      obtain ⟨cs', h1, h2⟩ := hx i (by omega)
      rw [cellsCame] at h1
      obtain ⟨_, hlen, hcell⟩ := World.cells?_some h1
      obtain ⟨xs, k, hk, hxy, _, hxl, hf⟩ := DataW.trod_struct Tryd.underlying42 h2
      match xs, hxl, cs', hlen with
      | [y0, y1, y2, y3], _, [v0, v1, v2, v3], _ =>
        have g0 := hf 0 _ rfl
        have g1 := hf 1 _ rfl
        have g2 := hf 2 _ rfl
        have g3 := hf 3 _ rfl
        simp [cellsB, cellsI, cellsSI, cellsSB] at g0 g1 g2 g3
        obtain ⟨b, e0, _⟩ := DataW.trod_bool Tryd.underlying4 g0
        obtain ⟨z, e1, _, _⟩ := DataW.trod_int Tryd.underlying3 g1
        obtain ⟨aA, aL, aC, zs, e2, ca⟩ := cameInts g2
        obtain ⟨rA, rL, rC, bs, e3, cr⟩ := cameBytes g3
        simp at e0 e1
        obtain ⟨ys, ra, _, al, ac, _⟩ := came64 ca
        obtain ⟨bb, rb, rb2, rl, rc, rn⟩ := came8 cr
        refine ⟨⟨b, z, aA, aL, aC, rA, rL, rC, ys, bb⟩, fun j u hu => ?_, ⟨ra, Nat.le_trans al ac, rb, rb2, rl, rc, rn⟩⟩
        subst e0 e1 e2 e3
        have hj : j < 4 := by
          have := (Array.getElem?_eq_some_iff.1 hu).1
          simpa [CE.cells] using this
        have hcj := hcell j hj
        rw [Deep.add_add] at hcj
        rw [hcj]
        have h4 : j = 0 ∨ j = 1 ∨ j = 2 ∨ j = 3 := by omega
        rcases h4 with rfl | rfl | rfl | rfl <;> simpa [CE.cells] using hu
    obtain ⟨q, hq⟩ := Deep.choose_lt each
    refine ⟨q, ⟨fun hn => ?_, fun i hi => (hq i hi).2⟩, hl, by unfold maxLen at hm; omega⟩
    obtain ⟨b, off, spot⟩ := ad
    have hc := (hq 0 hn).1 0 _ rfl
    have hspot : spot = none := by simpa [Addr.add] using World.cell?_spot hc
    subst hspot
    have e : ∀ i, (⟨b, off, none⟩ : Addr).add i = ⟨b, off + i, none⟩ := fun i => Addr.add_lit ..
    rw [e] at hc
    refine ⟨b, off, rfl, World.block_lt_of_cell? W _ hc, fun i hi j u hu => ?_⟩
    have h1 := (hq i hi).1 j u hu
    rw [e] at h1
    rw [show off + 4 * i + j = off + (i * 4 + j) by omega]
    exact h1
end Go.Proofs.YtibddlldgmidlabDoor
