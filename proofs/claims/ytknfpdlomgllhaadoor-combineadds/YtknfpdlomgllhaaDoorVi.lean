/-
  Layer 9: Decode of whatever list; the statements' first test.
-/
import Derived.Test.YtknfpdlomgllhaaDoorVh
import Derived.Test.YtknfpdlomgllhaaDoorSz
namespace Go.Proofs.YtknfpdlomgllhaaDoor
open Go.RowKit
set_option maxRecDepth 100000
set_option linter.unusedVariables false
set_option linter.unusedSimpArgs false

/-- Decode of a list that a code may have. -/
theorem decodeR (A : Option Addr) (N n c : Nat) (l : List Int) (w : World) (hr : Rd w w.heap.size A N (I64 l)) (hin : ∀ z ∈ l, -31 ≤ z ∧ z ≤ 31) (hN : N = 4 * (n + 6)) (hn : n ≤ 4096) (hc : N ≤ c) (hc2 : c ≤ 9223372036854775807) (hT : Taps w) :
    Calls Tryd.prog 53 #[.slice A N c] w (Decoded w (Cv.rb l n 0 0) (Cv.mb l n 0 0)) := by
  obtain ⟨b, off, rfl, _, _⟩ := hr.at_ (by omega)
  exact decodeC b off N n c l w hr hin hN hn hc hc2 hT
theorem decodeO (A : Option Addr) (N n c base : Nat) (l : List Int) (w W : World) (ho : Own w base 3 A N c (I64 l)) (hB : Below w.heap.size w W) (hin : ∀ z ∈ l, -31 ≤ z ∧ z ≤ 31) (hN : N = 4 * (n + 6)) (hn : n ≤ 4096) (hT : Taps W) :
    Calls Tryd.prog 53 #[.slice A N c] W (Decoded W (Cv.rb l n 0 0) (Cv.mb l n 0 0)) := by
  have hb := ho.bounds
  unfold maxLen at hb
  exact decodeR A N n c l W (ho.rdOf hB) hin hN hn hb.1 (by omega) hT
set_option maxHeartbeats 400000 in
/-- Decode of a count that no code has. -/
theorem decodeArg (A : Option Addr) (N c : Nat) (w : World) (hN : N % 4 ≠ 0 ∨ N < 24 ∨ 16408 < N) (hN2 : N ≤ 1000000) :
    Calls Tryd.prog 53 #[.slice A N c] w fun e w' => e = .returned (.tuple #[.slice none 0 0, .int .i64 0, .int .i64 1]) ∧ w = w' := by
  have C1 := Lib.hid (countNo N w hN hN2)
  clear hN
  go_enter Tryd.func53, Tryd.ntmps53
  go_wp2_with (go_at_call 89; refine C1.out.mono ?_; rintro e w' ⟨⟨v, rfl⟩, rfl⟩)
  go_ret3
  exact ⟨rfl, rfl⟩
set_option maxHeartbeats 400000 in
/-- Decode of numbers beyond the bounds. -/
theorem decodeField (A : Option Addr) (N n c : Nat) (l : List Int) (w : World) (hr : Rd w w.heap.size A N (I64 l)) (hin : Cv.inB l = false) (hN : N = 4 * (n + 6)) (hn : n ≤ 4096) :
    Calls Tryd.prog 53 #[.slice A N c] w fun e w' => e = .returned (.tuple #[.slice none 0 0, .int .i64 0, .int .i64 5]) ∧ w = w' := by
  have C1 := Lib.hid (countYes N n w hN hn)
  have C2 := Lib.hid (vWithin A N c l w hr (by omega))
  rw [hin] at C2
  clear hN
  go_enter Tryd.func53, Tryd.ntmps53
  go_wp2_with (first | (go_at_call 89; refine C1.out.mono ?_; rintro e w' ⟨rfl, rfl⟩) | (go_at_call 90; refine C2.out.mono ?_; rintro e w' ⟨rfl, rfl⟩))
  go_ret3
  exact ⟨rfl, rfl⟩

theorem mend4 : Cv.rb (Cv.soft (Cv.code [1, 0, 1, 1])) 4 0 0 = [1, 0, 1, 1] ∧ Cv.mb (Cv.soft (Cv.code [1, 0, 1, 1])) 4 0 0 = 40 := by
  have hb : ∀ x ∈ [1, 0, 1, 1], x ≤ 1 := by decide
  have hap : Bm.ap (Cv.code [1, 0, 1, 1]) (Cv.code [1, 0, 1, 1]) = 0 := by
    have key : ∀ (l : List Nat) k, Bm.cnt (fun i => l.getD i 0 != l.getD i 0) k = 0 := by
      intro l k
      induction k with
      | zero => rfl
      | succ k ih => unfold Bm.cnt; rw [ih]; simp
    exact key _ _
  obtain ⟨h1, h2⟩ := Cv.mends [1, 0, 1, 1] (Cv.code [1, 0, 1, 1]) hb (Cv.code_bit _ hb) (Cv.code_length _) (by rw [hap]; omega)
  have e : Cv.rb (Cv.soft (Cv.code [1, 0, 1, 1])) 4 0 0 = [1, 0, 1, 1] := (Cv.rb_best _ 4).uniq h1
  refine ⟨e, ?_⟩
  rw [← Cv.rb_eq, e]
  rw [hap, Cv.code_length] at h2
  exact h2
theorem str4 : ((str [1, 0, 1, 1]).toList == [1, 0, 1, 1]) = true := by decide +kernel

end Go.Proofs.YtknfpdlomgllhaaDoor
