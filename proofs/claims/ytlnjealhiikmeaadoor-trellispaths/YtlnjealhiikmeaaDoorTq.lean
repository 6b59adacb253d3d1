/-
  Layer 7: the reference's Path; Path of what are no bits.
-/
import Derived.Test.YtlnjealhiikmeaaDoorTp
import Derived.Test.YtlnjealhiikmeaaDoorTs
import Derived.Test.YtlnjealhiikmeaaDoorKg
namespace Go.Proofs.YtlnjealhiikmeaaDoor
open Go.RowKit
set_option linter.unusedVariables false

theorem infoR7p : (Tryd.prog.info? 49).map (fun i => (i.zero, i.size, i.bytes)) = some (some (.agg (C7 0 0 0 0 0 0 0)), 7, 24) := by kernel_rfl
/-- What the reference's Path gives. -/
def PathedR (w : World) (l : List Nat) (n : Nat) (e : Ending) (w' : World) : Prop := ∃ A1 c1, e = .returned (.slice A1 (n + 6) c1) ∧ OwnR w' w.heap.size 49 7 A1 (n + 6) c1 (PC l (n + 6)) ∧ Below w.heap.size w w'

set_option maxHeartbeats 400000 in
set_option maxRecDepth 100000 in
/-- The reference's Path of bits. -/
theorem refPath (A : Option Addr) (n c : Nat) (l : List Nat) (w : World) (hr : Rd w w.heap.size A n (U8 l)) (hl : ∀ x ∈ l, x ≤ 1) (hn : n ≤ 16384) :
    Calls Tryd.prog 27 #[.slice A n c] w (PathedR w l n) := by
  obtain ⟨i7, hi7, hz7, hs7, hb7⟩ := info_parts infoR7p
  have HN := Lib.hid hr.len8
  go_enter Tryd.func27, Tryd.ntmps27
  go_wp2
  go_loopw [3, 4, 5] (fun s t i wr => ∃ k : Nat, k ≤ n + 6 ∧ i = .int .i64 k ∧ t = .int .i64 (Cv.sv l k : Nat) ∧ ∃ A1 c1, s = .slice A1 k c1 ∧ OwnR wr w.heap.size 49 7 A1 k c1 (PC l k) ∧ Below w.heap.size w wr) (fun _ _ i _ => n + 6 - (intOf i).toNat)
  case atStart => exact ⟨0, Nat.zero_le _, rfl, rfl, none, 0, rfl, OwnR.nil _ _ _ _, Below.refl _ _⟩
  case round =>
    obtain ⟨k, hk, rfl, rfl, A1, c1, rfl, hown, hbel⟩ := hrel
    by_cases hlt : k < n + 6
    · have hx := Bm.bit_le l hl k
      have hs := Cv.sv_lt l hl k
      have D1 := Lib.hid (fun W => stepR (Cv.sv l k) (l.getD k 0) W hs hx)
      have HS1 : Hid (Cv.sv l (k + 1) = Cv.nx (Cv.sv l k) (l.getD k 0)) := rfl
      have HF1 : Hid (PC l (k + 1) = PC l k ++ (E7 (Cv.sv l k) (l.getD k 0)).toList) := rfl
      have HE1 : Hid ((E7 (Cv.sv l k) (l.getD k 0))[1]? = some (.int .i64 (Cv.nx (Cv.sv l k) (l.getD k 0) : Nat))) := rfl
      have HE2 := Lib.hid (E7_size (Cv.sv l k) (l.getD k 0))
      have HE3 := Lib.hid (E7_one (Cv.sv l k) (l.getD k 0))
      have HI : Hid ((Tryd.prog.info? 49).map (·.size) = some (E7 (Cv.sv l k) (l.getD k 0)).size) := infoR7
      have HZ : Hid ((C7 0 0 0 0 0 0 0).size = (E7 (Cv.sv l k) (l.getD k 0)).size) := rfl
      have HZE := Lib.hid ZR7_eq
      have HC : Hid (k < n → ∃ b off, A = some ⟨b, off, none⟩ ∧ wr.cell? ⟨b, off + k, none⟩ = some (.int .u8 ((l.getD k 0 : Nat) : Int))) := fun h => by
        obtain ⟨b, off, h1, _, h2⟩ := (hr.below hbel).cell8 k h
        exact ⟨b, off, h1, h2⟩
      have HX0 : Hid (¬ k < n → l.getD k 0 = 0) := fun h => Bm.getD_ge _ _ _ (by rw [← HN.out]; omega)
      generalize E7 (Cv.sv l k) (l.getD k 0) = E at *
      generalize Cv.nx (Cv.sv l k) (l.getD k 0) = s2 at *
      generalize l.getD k 0 = x at *
      generalize Cv.sv l k = s1 at *
      generalize C7 0 0 0 0 0 0 0 = Z at *
      have hlt3 : (k : Int) < (n : Int) + 6 := by omega
      have hsz := hbel.size
      by_cases hkn : k < n
      · obtain ⟨b, off, rfl, hcell⟩ := HC.out hkn
        clear HC HX0
        go_wp2_with (first | (go_at_call 25; refine (D1.out wr).mono ?_; rintro e w5 ⟨rfl, hb5⟩) | (refine at_alloc rfl 49 rfl Z HZE.out ?_; intro w6 h6) | (refine at_store rfl 49 _ _ rfl w5.heap.size E rfl rfl 49 Z h6.row HI.out HZ.out HE3.out ?_; intro w7 h7; have br7 := Below.then_ hb5 (h6.bel.trans (h7.below (Nat.le_refl _))); have own7 := hown.below br7 (Nat.le_refl _); have bel7 := hbel.trans (br7.mono hsz)) | (refine at_load rfl 49 _ rfl w5.heap.size rfl 49 E _ h7.row Tryd.underlying49 rfl HI.out ?_) | (refine at_build7 rfl 55 49 _ rfl i7 (.agg Z) Tryd.underlying55 hi7 hz7 hs7 E HE2.out rfl ?_) | (at_builtin; refine appR w7 rfl _ _ 55 rfl w.heap.size 49 i7 (.agg Z) 7 24 Tryd.underlying55 hi7 hz7 hs7 hb7 (by rw [show (Value.agg Z).cells = Z from rfl]; exact HZ.out.trans HE2.out) (by omega) _ _ _ _ E HE2.out HE3.out rfl own7 rfl (by omega) (by unfold maxLen; omega) bel7.size ?_; intro A8 c8 w8 hown8 hgrow8; have hr8 : w8.cell? ⟨w5.heap.size, 1, none⟩ = some (.int .i64 (s2 : Int)) := ((h7.row.grown hgrow8 (fun hq => absurd (hown.block _ hq).2 (by have := hb5.size; omega))).cell 1).trans HE1.out))
        go_roundw
        case rel =>
          refine ⟨k + 1, by omega, by go_num, by rw [HS1.out], A8, c8, rfl, ?_, bel7.grown hgrow8 bel7.size (fun j hj => (own7.block j hj).1)⟩
          rw [HF1.out]
          exact hown8
        case measure => simp [intOf] <;> omega
      · obtain rfl : x = 0 := HX0.out hkn
        clear HC HX0
        go_wp2_with (first | (go_at_call 25; refine (D1.out wr).mono ?_; rintro e w5 ⟨rfl, hb5⟩) | (refine at_alloc rfl 49 rfl Z HZE.out ?_; intro w6 h6) | (refine at_store rfl 49 _ _ rfl w5.heap.size E rfl rfl 49 Z h6.row HI.out HZ.out HE3.out ?_; intro w7 h7; have br7 := Below.then_ hb5 (h6.bel.trans (h7.below (Nat.le_refl _))); have own7 := hown.below br7 (Nat.le_refl _); have bel7 := hbel.trans (br7.mono hsz)) | (refine at_load rfl 49 _ rfl w5.heap.size rfl 49 E _ h7.row Tryd.underlying49 rfl HI.out ?_) | (refine at_build7 rfl 55 49 _ rfl i7 (.agg Z) Tryd.underlying55 hi7 hz7 hs7 E HE2.out rfl ?_) | (at_builtin; refine appR w7 rfl _ _ 55 rfl w.heap.size 49 i7 (.agg Z) 7 24 Tryd.underlying55 hi7 hz7 hs7 hb7 (by rw [show (Value.agg Z).cells = Z from rfl]; exact HZ.out.trans HE2.out) (by omega) _ _ _ _ E HE2.out HE3.out rfl own7 rfl (by omega) (by unfold maxLen; omega) bel7.size ?_; intro A8 c8 w8 hown8 hgrow8; have hr8 : w8.cell? ⟨w5.heap.size, 1, none⟩ = some (.int .i64 (s2 : Int)) := ((h7.row.grown hgrow8 (fun hq => absurd (hown.block _ hq).2 (by have := hb5.size; omega))).cell 1).trans HE1.out))
        go_roundw
        case rel =>
          refine ⟨k + 1, by omega, by go_num, by rw [HS1.out], A8, c8, rfl, ?_, bel7.grown hgrow8 bel7.size (fun j hj => (own7.block j hj).1)⟩
          rw [HF1.out]
          exact hown8
        case measure => simp [intOf] <;> omega
    · have hlt3 : ¬ (k : Int) < (n : Int) + 6 := by omega
      obtain rfl : k = n + 6 := by omega
      go_wp2
      go_ret
      exact ⟨A1, c1, rfl, hown, hbel⟩
set_option maxHeartbeats 400000 in
/-- trellis.Path of what are no bits. -/
theorem pathNo (A : Option Addr) (n c : Nat) (l : List Nat) (w : World) (hr : Rd w w.heap.size A n (U8 l)) (hb : ∀ x ∈ l, x < 256) (hl : Bm.isB l = false) (hn : n ≤ 16384) :
    Calls Tryd.prog 26 #[.slice A n c] w fun e w' => e = .returned (.tuple #[.slice none 0 0, .int .i64 5]) ∧ w = w' := by
  have C := Lib.hid (codeNo A n c l w hr hb hl hn)
  go_enter Tryd.func26, Tryd.ntmps26
  go_wp2_with (go_at_call 17; refine C.out.mono ?_; rintro e w' ⟨rfl, rfl⟩)
  go_ret2
  exact ⟨rfl, rfl⟩
end Go.Proofs.YtlnjealhiikmeaaDoor
