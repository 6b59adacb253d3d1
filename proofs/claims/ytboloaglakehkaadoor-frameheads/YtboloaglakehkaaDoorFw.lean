/-
  Heads of which bits are turned.
-/
import Derived.Test.YtboloaglakehkaaDoorFu
namespace Go.Proofs.YtboloaglakehkaaDoor.Crc
/-- The bit at a place (of each byte the highest first) is turned. -/
def fl (bs : List Nat) (p : Nat) : List Nat := bs.set (p / 8) (bs.getD (p / 8) 0 ^^^ 2 ^ (7 - p % 8))
theorem fl_length (bs : List Nat) (p : Nat) : (fl bs p).length = bs.length := by simp [fl]
theorem fl_lt (bs : List Nat) (p : Nat) (h : ∀ b ∈ bs, b < 256) : ∀ b ∈ fl bs p, b < 256 := by
  intro b hb
  rcases List.mem_or_eq_of_mem_set hb with h2 | rfl
  · exact h b h2
  · have h1 : 2 ^ (7 - p % 8) ≤ 2 ^ 7 := Nat.pow_le_pow_right (by decide) (by omega)
    exact Nat.xor_lt_two_pow (n := 8) (Bm.byte_lt bs h _) (by omega)
theorem bit_flip (x r k : Nat) (hr : r ≤ 7) (hk : k ≤ 7) : (x ^^^ 2 ^ (7 - r)) / 2 ^ (7 - k) % 2 = if r = k then x / 2 ^ (7 - k) % 2 ^^^ 1 else x / 2 ^ (7 - k) % 2 := by
  rw [bit_xor]
  by_cases h : r = k
  · subst h
    rw [if_pos rfl, Nat.div_self (Nat.two_pow_pos _)]
    have hb : x / 2 ^ (7 - r) % 2 = 0 ∨ x / 2 ^ (7 - r) % 2 = 1 := by omega
    rcases hb with e | e <;> rw [e] <;> rfl
  · rw [if_neg h]
    have e : 2 ^ (7 - r) / 2 ^ (7 - k) % 2 = 0 := by
      by_cases h2 : 7 - r < 7 - k
      · rw [Nat.div_eq_of_lt (Nat.pow_lt_pow_right (by decide) h2)]
      · rw [Nat.pow_div (by omega) (by decide), show 7 - r - (7 - k) = (7 - r - (7 - k) - 1) + 1 by omega, Nat.pow_succ]
        omega
    rw [e]; omega
theorem ofBytes_fl (bs : List Nat) (p : Nat) (hp : p < 8 * bs.length) : Bm.ofBytes (fl bs p) = (Bm.ofBytes bs).set p ((Bm.ofBytes bs).getD p 0 ^^^ 1) := by
  apply Bm.ext_getD (by rw [List.length_set, Bm.ofBytes_length, Bm.ofBytes_length, fl_length])
  intro i hi
  rw [Bm.ofBytes_length, fl_length] at hi
  rw [Bm.set_getD _ _ _ _ (by rw [Bm.ofBytes_length]; exact hp)]
  obtain ⟨j, k, hk, rfl⟩ : ∃ j k, k < 8 ∧ i = 8 * j + k := ⟨i / 8, i % 8, by omega, by omega⟩
  obtain ⟨q, r, hr, rfl⟩ : ∃ q r, r < 8 ∧ p = 8 * q + r := ⟨p / 8, p % 8, by omega, by omega⟩
  rw [Bm.ofBytes_getD _ j k hk, Bm.ofBytes_getD _ j k hk, Bm.ofBytes_getD _ q r hr]
  unfold fl
  rw [show (8 * q + r) / 8 = q by omega, show (8 * q + r) % 8 = r by omega, Bm.set_getD _ _ _ _ (by omega)]
  by_cases hq : q = j
  · subst hq
    rw [if_pos rfl, bit_flip _ r k (by omega) (by omega)]
    by_cases hrk : r = k
    · subst hrk
      rw [if_pos rfl, if_pos rfl]
    · rw [if_neg hrk, if_neg (by omega)]
  · rw [if_neg hq, if_neg (by omega)]
end Go.Proofs.YtboloaglakehkaaDoor.Crc
namespace Go.Proofs.YtboloaglakehkaaDoor
open Go.RowKit
set_option maxRecDepth 100000
set_option linter.unusedVariables false
set_option linter.unusedSimpArgs false
theorem bit_u16 (s k : Nat) (hs : s < 65536) : bits BinOp.and IntKind.u16 ((s : Int) / 2 ^ k) 1 = ((s / 2 ^ k % 2 : Nat) : Int) := by
  have e : ((s : Int) / 2 ^ k) = ((s / 2 ^ k : Nat) : Int) := by simp
  have hle : s / 2 ^ k ≤ s := Nat.div_le_self _ _
  rw [e, show (1 : Int) = ((1 : Nat) : Int) from rfl, u16_and_nat _ _ (by omega) (by omega), nat_mask1]
/-- What is needed of bytes for the head. -/
structure HeadOk (bs : List Nat) (h : Nat) : Prop where
  le : h ≤ bs.length
  le75 : bs.length ≤ 75
  lt : ∀ b ∈ bs, b < 256
  zero : Crc.r16 (bs.take h) = 0
  kd : (kd bs = 1 ∧ h = 6) ∨ (kd bs = 2 ∧ h = 9)
theorem head_ack {b m : Nat} (hb : b < 65536) (hm : m < 4294967296) : HeadOk (ackW b m) 9 := by
  have hl := ackW_length b m
  have hlt : ∀ x ∈ ackW b m, x < 256 := by rw [ackW_eq hb hm]; exact Crc.seal16_lt _ (ackH_lt hb hm)
  obtain ⟨c1, c0, hw⟩ := ack_bits hb hm
  refine ⟨by omega, by omega, hlt, ?_, .inr ⟨by rw [hw]; exact kd_ack _, rfl⟩⟩
  rw [List.take_of_length_le (by omega), ackW_eq hb hm]
  exact Crc.seal16_zero _ (ackH_lt hb hm)
theorem head_data {v l q : Nat} {body : List Nat} (hv : v < 4) (hl : l ≤ 64) (hq : q < 65536) (hbit : ∀ x ∈ body, x ≤ 1) (hbl : body.length = 8 * (l + 4) + 6) : HeadOk (dataW v l q body) 6 := by
  have hlen : (dataW v l q body).length = 11 + l := by rw [dataW_length, hbl]; omega
  have hdw := dataW_eq (v := v) (l := l) (q := q) body hv (by omega) hq
  have hsl : (Crc.seal16 (dataH v l q)).length = 6 := by rw [Crc.seal16_length]; rfl
  have hlt : ∀ x ∈ dataW v l q body, x < 256 := by
    rw [hdw]
    exact append_lt (Crc.seal16_lt _ (dataH_lt hv (by omega) hq)) (toBytes256 _ hbit)
  obtain ⟨c1, c0, hw⟩ : ∃ c1 c0, dataW v l q body = (16 + 4 * v) :: l :: (q / 256) :: (q % 256) :: c1 :: c0 :: Bm.toBytes body := ⟨_, _, by rw [hdw]; rfl⟩
  refine ⟨by omega, by omega, hlt, ?_, .inl ⟨by rw [hw]; exact kd_data hv _, rfl⟩⟩
  rw [hdw, List.take_append_of_le_length (by omega), List.take_of_length_le (by omega)]
  exact Crc.seal16_zero _ (dataH_lt hv (by omega) hq)
/-- A frame that can be written. -/
theorem head_write {kind ver len : Int} {q b m : Nat} {body : List Nat} (hq : q < 65536) (hb : b < 65536) (hm : m < 4294967296) (h : WE kind ver len body = 0) : (kind = 1 ∧ HeadOk (WB kind q ver len body b m) 6) ∨ (kind = 2 ∧ HeadOk (WB kind q ver len body b m) 9) := by
  unfold WE at h
  unfold WB
  by_cases h1 : kind = 1
  · left
    refine ⟨h1, ?_⟩
    rw [if_pos h1] at h
    rw [if_pos h1]
    unfold wB
    rw [if_pos h]
    unfold wE at h
    by_cases g1 : ver < 0 ∨ 3 < ver ∨ Bm.isB body = false
    · rw [if_pos g1] at h; cases h
    · rw [if_neg g1] at h
      by_cases g2 : ¬ (0 ≤ len ∧ len ≤ 64)
      · rw [if_pos g2] at h; cases h
      · rw [if_neg g2] at h
        by_cases g3 : (body.length : Int) ≠ fb len
        · rw [if_pos g3] at h; cases h
        · have g2' : 0 ≤ len ∧ len ≤ 64 := Decidable.not_not.1 g2
          have g3' : (body.length : Int) = fb len := Decidable.not_not.1 g3
          unfold fb at g3'
          rw [if_pos g2'] at g3'
          have hB : Bm.isB body = true := by
            cases hc : Bm.isB body with
            | true => rfl
            | false => exact absurd (.inr (.inr hc)) g1
          exact head_data (by omega) (by omega) hq (Bm.isB_true hB) (by omega)
  · rw [if_neg h1] at h ⊢
    by_cases h2 : kind = 2
    · right
      refine ⟨h2, ?_⟩
      rw [if_pos h2]; exact head_ack hb hm
    · rw [if_neg h2] at h; cases h
/-- What holds while bits are turned. -/
structure TurnIs (bs ys : List Nat) (h k t j : Nat) : Prop where
  len : ys.length = bs.length
  lt : ∀ b ∈ ys, b < 256
  four : (Bm.ofBytes ys).take 4 = (Bm.ofBytes bs).take 4
  sum : Crc.r16 (ys.take h) = Crc.it Crc.s16 (8 * h - k) (Crc.top16 t j)
theorem TurnIs.start {bs : List Nat} {h : Nat} (H : HeadOk bs h) (k t : Nat) : TurnIs bs bs h k t 0 := ⟨rfl, H.lt, rfl, by rw [H.zero]; exact (Crc.s16_lin.it _).zero.symm⟩
theorem TurnIs.no {bs ys : List Nat} {h k t j : Nat} (H : TurnIs bs ys h k t j) (hb : ¬ t / 2 ^ j % 2 = 1) : TurnIs bs ys h k t (j + 1) := ⟨H.len, H.lt, H.four, by
  rw [H.sum]
  congr 1
  show _ = Crc.top16 t j ^^^ (t / 2 ^ j % 2) * 2 ^ (15 - j)
  rw [show t / 2 ^ j % 2 = 0 by omega]; simp⟩
theorem TurnIs.yes {bs ys : List Nat} {h k t j : Nat} (H : TurnIs bs ys h k t j) (hb : t / 2 ^ j % 2 = 1) (hj : j < 16) (hk : 4 ≤ k) (hk2 : k + 16 ≤ 8 * h) (hh : h ≤ ys.length) : TurnIs bs (Crc.fl ys (k + j)) h k t (j + 1) := by
  have hp : k + j < 8 * ys.length := by omega
  refine ⟨by rw [Crc.fl_length]; exact H.len, Crc.fl_lt ys _ H.lt, ?_, ?_⟩
  · rw [Crc.ofBytes_fl ys (k + j) hp, List.take_set, List.set_eq_of_length_le (by rw [List.length_take]; omega)]
    exact H.four
  · have e : (Crc.fl ys (k + j)).take h = (ys.take h).set ((k + j) / 8) ((ys.take h).getD ((k + j) / 8) 0 ^^^ 2 ^ (7 - (k + j) % 8)) := by
      unfold Crc.fl
      rw [List.take_set]
      congr 2
      rw [Bm.getD_lt _ _ _ (by omega), Bm.getD_lt _ _ _ (by rw [List.length_take]; omega), List.getElem_take]
    have hl : (ys.take h).length = h := by rw [List.length_take]; omega
    rw [e, Crc.flip16 (ys.take h) ((k + j) / 8) ((k + j) % 8) k j (by omega) (by omega) (by omega) (by rw [hl]; omega), H.sum, hl]
    rw [← (Crc.s16_lin.it _) _ _]
    congr 1
    show _ = Crc.top16 t j ^^^ (t / 2 ^ j % 2) * 2 ^ (15 - j)
    rw [hb, Nat.one_mul]
theorem TurnIs.stop {bs ys : List Nat} {h k t : Nat} (H : TurnIs bs ys h k t 16) (ho : HeadOk bs h) (ht : t < 65536) (h0 : t ≠ 0) : rdX ys = .sent 2 := by
  have hle := ho.le
  have hl75 := ho.le75
  have hn : Crc.r16 (ys.take h) ≠ 0 := by
    rw [H.sum]
    intro hc
    exact Crc.top16_ne t ht h0 (Crc.it16_zero _ _ (Crc.top16_lt t 16) hc)
  have hlen : (ys.take h).length = h := by rw [List.length_take, H.len]; omega
  have h6 : 6 ≤ h := by rcases ho.kd with ⟨_, e⟩ | ⟨_, e⟩ <;> omega
  have hok : Crc.ok16 (ys.take h) = false := by
    rw [Crc.ok16_eq _ (fun b hb => H.lt b (List.mem_of_mem_take hb)) (by omega), decide_eq_false hn]
  have hk : kd ys = kd bs := by
    unfold kd
    rw [hb76_short (by rw [H.len]; omega), hb76_short (by omega), H.four]
  have hh : hdn (kd ys) = h := by
    rw [hk]
    rcases ho.kd with ⟨e1, e2⟩ | ⟨e1, e2⟩ <;> rw [e1, e2] <;> rfl
  unfold rdX
  rw [if_neg (by rw [H.len]; omega), if_neg (by rw [hk]; rcases ho.kd with ⟨e1, _⟩ | ⟨e1, _⟩ <;> omega), hh, if_neg (by rw [H.len]; omega), if_pos hok]
theorem readSent2 {ys : List Nat} (hx : rdX ys = .sent 2) (hlt : ∀ b ∈ ys, b < 256) (a : Nat → Addr) (A' : Option Addr) (n' c' : Nat) (W : World) (h1 : Rd W W.heap.size A' n' (U8 ys)) (h2 : n' ≤ c') (h3 : c' ≤ 9223372036854775807) (h4 : ErrsAt W a) :
    Calls Tryd.prog 15 #[.slice A' n' c'] W fun e w' => e = .returned (.tuple #[.agg (FV 0 0 0 0 (.slice none 0 0) 0 0), .int .i64 6]) ∧ Below W.heap.size W w' := by
  have e1 : ErN (rdX ys) = 6 := by rw [hx]; rfl
  have e2 : rdX ys ≠ .nil := by rw [hx]; simp
  refine (readTopC A' n' c' ys a W h1 hlt h2 h3 h4).mono ?_
  rintro e w' ⟨F, he, _, hno, hbl⟩
  exact ⟨by rw [he, hno e2, e1], hbl⟩
end Go.Proofs.YtboloaglakehkaaDoor
