/-
  An ack frame is read as it was written.
-/
import Derived.Test.YtkmacepodomdmaaDoorFi
import Derived.Test.YtkmacepodomdmaaDoorFm
namespace Go.Proofs.YtkmacepodomdmaaDoor
open Go.RowKit
set_option maxRecDepth 100000
set_option linter.unusedVariables false
set_option linter.unusedSimpArgs false

theorem ok_seal (l : List Nat) (h : ∀ b ∈ l, b < 256) : Crc.ok16 (Crc.seal16 l) = true := by
  rw [Crc.ok16_eq _ (Crc.seal16_lt l h) (by rw [Crc.seal16_length]; omega), Crc.seal16_zero l h]
  rfl
theorem hb76_short {bs : List Nat} (h : bs.length ≤ 76) : hb76 bs = Bm.ofBytes bs := by unfold hb76; rw [List.take_of_length_le h]
/-- The bits of an ack frame. -/
theorem ack_bits {b m : Nat} (hb : b < 65536) (hm : m < 4294967296) : ∃ c1 c0, ackW b m = [32, b / 256, b % 256, m / 16777216, m / 65536 % 256, m / 256 % 256, m % 256, c1, c0] := ⟨_, _, by rw [ackW_eq hb hm]; rfl⟩
theorem ack_read {b m : Nat} (hb : b < 65536) (hm : m < 4294967296) : rdX (ackW b m) = .nil ∧ kd (ackW b m) = 2 ∧ num (((hb76 (ackW b m)).drop 4).drop 4 |>.take 16) = b ∧ num (((hb76 (ackW b m)).drop 4).drop 20 |>.take 32) = m := by
  have hl := ackW_length b m
  have hok : Crc.ok16 ((ackW b m).take 9) = true := by rw [List.take_of_length_le (by omega), ackW_eq hb hm]; exact ok_seal _ (ackH_lt hb hm)
  have e16 := num_all b 16 (by omega)
  have e32 := num_all m 32 (by omega)
  rw [pre16] at e16
  rw [pre32] at e32
  obtain ⟨c1, c0, hw⟩ := ack_bits hb hm
  have hx : hb76 (ackW b m) = Bm.ofBytes [32, b / 256, b % 256, m / 16777216, m / 65536 % 256, m / 256 % 256, m % 256, c1, c0] := by rw [hb76_short (by omega), hw]
  have h1 : kd (ackW b m) = 2 := by unfold kd; rw [hx]; rfl
  have h2 : restX 2 ((hb76 (ackW b m)).drop 4) = .nil := by
    unfold restX
    rw [if_pos rfl, if_neg (by rw [hx]; simp [Bm.ofBytes, Bm.bits8, num])]
  have h3 : restL 2 ((hb76 (ackW b m)).drop 4) = [] := by
    unfold restL
    rw [if_pos rfl, hx]; rfl
  refine ⟨?_, h1, ?_, ?_⟩
  · unfold rdX
    rw [h1, if_neg (by omega), if_neg (by omega), if_neg (by rw [hl]; decide), if_neg (by rw [show hdn 2 = 9 from rfl, hok]; simp), h2, h3]
    rfl
  · rw [hx]; exact e16
  · rw [hx]; exact e32
end Go.Proofs.YtkmacepodomdmaaDoor
