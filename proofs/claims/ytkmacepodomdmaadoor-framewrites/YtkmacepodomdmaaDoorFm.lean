/-
  Numbers as bits, bits through bytes; the bytes of heads.
-/
import Derived.Test.YtkmacepodomdmaaDoorFa
namespace Go.Proofs.YtkmacepodomdmaaDoor
open Go.RowKit
set_option maxRecDepth 100000
set_option linter.unusedVariables false
set_option linter.unusedSimpArgs false

theorem pre_getD (n width i : Nat) : ∀ j, i < j → (pre n width j).getD i 0 = n / 2 ^ (width - 1 - i) % 2
  | 0, h => by omega
  | j + 1, h => by
    rw [pre]
    by_cases hi : i < j
    · rw [Bm.getD_left _ _ _ _ (by rw [pre_length]; exact hi), pre_getD n width i j hi]
    · have e : i = j := by omega
      subst e
      rw [Bm.getD_right _ _ _ _ (by rw [pre_length]; omega), pre_length]
      simp
theorem mod_bit (N s k : Nat) (h : s < k) : N % 2 ^ k / 2 ^ s % 2 = N / 2 ^ s % 2 := by
  have h1 := Nat.testBit_mod_two_pow N k s
  rw [Nat.testBit_eq_decide_div_mod_eq, Nat.testBit_eq_decide_div_mod_eq] at h1
  simp only [h, decide_true, Bool.true_and, decide_eq_decide] at h1
  omega
/-- A number's bits are its halves'. -/
theorem pre_split (N h l : Nat) (hl : 0 < l) : pre N (h + l) (h + l) = pre (N / 2 ^ l) h h ++ pre (N % 2 ^ l) l l := by
  apply Bm.ext_getD
  · simp [pre_length]
  · intro i hi
    rw [pre_length] at hi
    rw [pre_getD N (h + l) i _ hi]
    by_cases hih : i < h
    · rw [Bm.getD_left _ _ _ _ (by rw [pre_length]; exact hih), pre_getD _ _ _ _ hih, Nat.div_div_eq_div_mul, ← Nat.pow_add, show l + (h - 1 - i) = h + l - 1 - i by omega]
    · rw [Bm.getD_right _ _ _ _ (by rw [pre_length]; omega), pre_length, pre_getD _ _ _ _ (by omega), mod_bit _ _ _ (by omega), show l - 1 - (i - h) = h + l - 1 - i by omega]
theorem hb_bit (l : List Nat) (hl : ∀ x ∈ l, x ≤ 1) (i k : Nat) (h : k < 8) : Bm.hb l i / 2 ^ (7 - k) % 2 = l.getD (i + k) 0 := by
  unfold Bm.hb
  have h0 := Bm.bit_le l hl i
  have h1 := Bm.bit_le l hl (i + 1)
  have h2 := Bm.bit_le l hl (i + 2)
  have h3 := Bm.bit_le l hl (i + 3)
  have h4 := Bm.bit_le l hl (i + 4)
  have h5 := Bm.bit_le l hl (i + 5)
  have h6 := Bm.bit_le l hl (i + 6)
  have h7 := Bm.bit_le l hl (i + 7)
  match k, h with
  | 0, _ | 1, _ | 2, _ | 3, _ | 4, _ | 5, _ | 6, _ | 7, _ =>
    simp only [Nat.add_zero, Nat.reduceSub, Nat.reducePow, Nat.sub_zero]
    omega
/-- Bits that went through bytes have noughts behind them. -/
theorem ofBytes_toBytes (l : List Nat) (hl : ∀ x ∈ l, x ≤ 1) : ∃ pad, pad < 8 ∧ Bm.ofBytes (Bm.toBytes l) = l ++ List.replicate pad 0 := by
  refine ⟨8 * ((l.length + 7) / 8) - l.length, by omega, ?_⟩
  apply Bm.ext_getD
  · rw [Bm.ofBytes_length, Bm.toBytes_length, List.length_append, List.length_replicate]; omega
  · intro i hi
    rw [Bm.ofBytes_length, Bm.toBytes_length] at hi
    obtain ⟨j, k, hk, rfl⟩ : ∃ j k, k < 8 ∧ i = 8 * j + k := ⟨i / 8, i % 8, by omega, by omega⟩
    rw [Bm.ofBytes_getD _ _ _ hk]
    have hj : j < (Bm.toBytes l).length := by rw [Bm.toBytes_length]; omega
    have e : (Bm.toBytes l).getD j 0 = Bm.hb l (8 * j) := by rw [Bm.getD_lt _ _ _ hj]; simp [Bm.toBytes]
    rw [e, hb_bit l hl _ _ hk]
    by_cases h : 8 * j + k < l.length
    · rw [Bm.getD_left _ _ _ _ h]
    · rw [Bm.getD_right _ _ _ _ (by omega), Bm.getD_ge _ _ _ (by omega)]
      by_cases h2 : 8 * j + k - l.length < (List.replicate (8 * ((l.length + 7) / 8) - l.length) 0).length
      · rw [Bm.getD_lt _ _ _ h2, List.getElem_replicate]
      · rw [Bm.getD_ge _ _ _ (by omega)]
theorem num_pre (N wd : Nat) (h : N < 2 ^ wd) : ∀ j, j ≤ wd → num (pre N wd j) = N / 2 ^ (wd - j)
  | 0, _ => by rw [Nat.sub_zero, Nat.div_eq_of_lt h]; rfl
  | j + 1, hj => by
    rw [pre, num_snoc, num_pre N wd h j (by omega)]
    have e : N / 2 ^ (wd - j) = N / 2 ^ (wd - 1 - j) / 2 := by rw [show wd - j = wd - 1 - j + 1 by omega, Nat.pow_succ, Nat.div_div_eq_div_mul]
    rw [e, show wd - (j + 1) = wd - 1 - j by omega]
    omega
theorem num_all (N wd : Nat) (h : N < 2 ^ wd) : num (pre N wd wd) = N := by
  rw [num_pre N wd h wd (Nat.le_refl _)]; simp
theorem pre8 (l : Nat) : pre l 8 8 = Bm.bits8 l := by simp [pre, Bm.bits8]
theorem pre16 (q : Nat) : pre q 16 16 = Bm.bits8 (q / 256) ++ Bm.bits8 (q % 256) := by rw [pre_split q 8 8 (by omega), pre8, pre8]
theorem pre24 (q : Nat) : pre q 24 24 = Bm.bits8 (q / 65536) ++ (Bm.bits8 (q / 256 % 256) ++ Bm.bits8 (q % 256)) := by
  rw [pre_split q 8 16 (by omega), pre8, pre16]
  congr 3 <;> omega
theorem pre32 (m : Nat) : pre m 32 32 = Bm.bits8 (m / 16777216) ++ (Bm.bits8 (m / 65536 % 256) ++ (Bm.bits8 (m / 256 % 256) ++ Bm.bits8 (m % 256))) := by
  rw [pre_split m 8 24 (by omega), pre8, pre24]
  congr 3 <;> (try congr 1) <;> omega
theorem preHead (v : Nat) (h : v < 4) : pre 1 4 4 ++ pre v 2 2 ++ pre 0 2 2 = Bm.bits8 (16 + 4 * v) := by
  have : v = 0 ∨ v = 1 ∨ v = 2 ∨ v = 3 := by omega
  rcases this with rfl | rfl | rfl | rfl <;> rfl
theorem preAck : pre 2 4 4 ++ pre 0 4 4 = Bm.bits8 32 := by rfl
/-- A head's bytes, without its sum. -/
def dataH (v l q : Nat) : List Nat := [16 + 4 * v, l, q / 256, q % 256]
def ackH (b m : Nat) : List Nat := [32, b / 256, b % 256, m / 16777216, m / 65536 % 256, m / 256 % 256, m % 256]
theorem dataBits_eq (v l q : Nat) (hv : v < 4) : dataBits v l q = Bm.ofBytes (dataH v l q) := by
  unfold dataBits dataH
  rw [preHead v hv, pre8, pre16]
  simp [Bm.ofBytes]
theorem ackBits_eq (b m : Nat) : ackBits b m = Bm.ofBytes (ackH b m) := by
  unfold ackBits ackH
  rw [preAck, pre16, pre32]
  simp [Bm.ofBytes]
theorem dataH_lt {v l q : Nat} (hv : v < 4) (hl : l < 256) (hq : q < 65536) : ∀ b ∈ dataH v l q, b < 256 := by
  intro b hb
  simp [dataH] at hb
  omega
theorem ackH_lt {b m : Nat} (hb : b < 65536) (hm : m < 4294967296) : ∀ x ∈ ackH b m, x < 256 := by
  intro x hx
  simp [ackH] at hx
  omega
theorem dataW_eq {v l q : Nat} (body : List Nat) (hv : v < 4) (hl : l < 256) (hq : q < 65536) : dataW v l q body = Crc.seal16 (dataH v l q) ++ Bm.toBytes body := by
  unfold dataW
  rw [dataBits_eq v l q hv, Bm.toBytes_ofBytes _ (dataH_lt hv hl hq)]
theorem ackW_eq {b m : Nat} (hb : b < 65536) (hm : m < 4294967296) : ackW b m = Crc.seal16 (ackH b m) := by
  unfold ackW
  rw [ackBits_eq, Bm.toBytes_ofBytes _ (ackH_lt hb hm)]
theorem dataW_length (v l q : Nat) (body : List Nat) : (dataW v l q body).length = 6 + (body.length + 7) / 8 := by
  unfold dataW
  rw [List.length_append, Crc.seal16_length, Bm.toBytes_length, Bm.toBytes_length, dataBits_length]
theorem ackW_length (b m : Nat) : (ackW b m).length = 9 := by
  unfold ackW
  rw [Crc.seal16_length, Bm.toBytes_length, ackBits_length]
end Go.Proofs.YtkmacepodomdmaaDoor
