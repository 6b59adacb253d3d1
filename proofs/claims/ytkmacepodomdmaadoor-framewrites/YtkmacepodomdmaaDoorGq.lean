/-
  Layer 16: what was written is read as it was.
-/
import Derived.Test.YtkmacepodomdmaaDoorGk
namespace Go.Proofs.YtkmacepodomdmaaDoor
open Go.RowKit
set_option maxRecDepth 100000
set_option linter.unusedVariables false

theorem wE0 {ver len : Int} {body : List Nat} (h : wE ver len body = 0) : ∃ v l : Nat, ver = (v : Int) ∧ len = (l : Int) ∧ v < 4 ∧ l ≤ 64 ∧ (∀ x ∈ body, x ≤ 1) ∧ body.length = 8 * (l + 4) + 6 := by
  unfold wE at h
  split at h
  · omega
  · rename_i h1
    split at h
    · omega
    · rename_i h2
      split at h
      · omega
      · rename_i h3
        have hB : Bm.isB body = true := by
          cases hb : Bm.isB body with
          | true => rfl
          | false => exact absurd (.inr (.inr hb)) h1
        have h3' : (body.length : Int) = fb len := by
          apply Classical.byContradiction
          exact h3
        unfold fb at h3'
        have hv1 : ¬ ver < 0 := fun h => h1 (.inl h)
        have hv2 : ¬ 3 < ver := fun h => h1 (.inr (.inl h))
        rw [if_pos (by omega)] at h3'
        exact ⟨ver.toNat, len.toNat, by omega, by omega, by omega, by omega, Bm.isB_true hB, by omega⟩
/-- Data as bytes. -/
theorem dataW_cons {v l q : Nat} (body : List Nat) (hv : v < 4) (hl : l ≤ 64) (hq : q < 65536) : ∃ c1 c0, c1 < 256 ∧ c0 < 256 ∧ dataW v l q body = (16 + 4 * v) :: l :: (q / 256) :: (q % 256) :: c1 :: c0 :: Bm.toBytes body := by
  have h := Crc.r16_lt (dataH v l q) (dataH_lt hv (by omega) hq)
  exact ⟨Crc.r16 (dataH v l q) / 256, Crc.r16 (dataH v l q) % 256, by omega, by omega, by rw [dataW_eq body hv (by omega) hq]; rfl⟩
theorem data_nil {v l q : Nat} {body : List Nat} (hv : v < 4) (hl : l ≤ 64) (hq : q < 65536) (hbit : ∀ x ∈ body, x ≤ 1) (hbl : body.length = 8 * (l + 4) + 6) : rdX (dataW v l q body) = .nil := by
  have hlen : (dataW v l q body).length = 11 + l := by rw [dataW_length, hbl]; omega
  have hdw := dataW_eq (v := v) (l := l) (q := q) body hv (by omega) hq
  have hok : Crc.ok16 (Crc.seal16 (dataH v l q)) = true := ok_seal _ (dataH_lt hv (by omega) hq)
  have hsl : (Crc.seal16 (dataH v l q)).length = 6 := by rw [Crc.seal16_length]; rfl
  have h6 : (dataW v l q body).take 6 = Crc.seal16 (dataH v l q) := by
    rw [hdw, List.take_append_of_le_length (by omega), List.take_of_length_le (by omega)]
  obtain ⟨c1, c0, hc1, hc0, hw⟩ := dataW_cons body hv hl hq
  have hk : kd (dataW v l q body) = 1 := by rw [hw]; exact kd_data hv _
  obtain ⟨pad, hp, hpad⟩ := ofBytes_toBytes body hbit
  have eX : Bm.ofBytes (dataW v l q body) = Bm.bits8 (16 + 4 * v) ++ (Bm.bits8 l ++ (Bm.bits8 (q / 256) ++ (Bm.bits8 (q % 256) ++ (Bm.bits8 c1 ++ (Bm.bits8 c0 ++ (body ++ List.replicate pad 0)))))) := by
    rw [hw, ← hpad]; rfl
  have e8 : ((Bm.ofBytes (dataW v l q body)).drop 8).take 8 = Bm.bits8 l := by rw [eX]; simp [Bm.bits8]
  have e6 : ((Bm.ofBytes (dataW v l q body)).drop 6).take 2 = ((Bm.bits8 (16 + 4 * v)).drop 6).take 2 := by rw [eX]; simp [Bm.bits8]
  have eL : l = num (((Bm.ofBytes (dataW v l q body)).drop 8).take 8) := by rw [e8, num8 l (by omega)]
  have ez : num (((Bm.ofBytes (dataW v l q body)).drop 6).take 2) = 0 := by
    have h2 : num (((Bm.bits8 (16 + 4 * v)).drop 6).take 2) = (16 + 4 * v) % 4 := bits8_end ⟨16 + 4 * v, by omega⟩
    rw [e6, h2]; omega
  have ew : Bm.wt ((Bm.ofBytes (dataW v l q body)).drop (8 * (l + 4) + 54)) = 0 := by
    have : (Bm.ofBytes (dataW v l q body)).drop (8 * (l + 4) + 54) = List.replicate pad 0 := by
      have e48 : (Bm.ofBytes (dataW v l q body)).drop 48 = body ++ List.replicate pad 0 := by rw [eX]; simp [Bm.bits8]
      rw [show 8 * (l + 4) + 54 = 48 + (8 * (l + 4) + 6) by omega, ← List.drop_drop, e48, ← hbl, List.drop_left]
    rw [this, wt0]
    intro j _
    exact getD_rep0 _ _
  rw [rdX_data (by omega) hk (by rw [h6]; exact hok) l eL, if_neg (by rw [ez]; simp), if_neg (by omega), if_neg (by omega), if_neg (by omega), if_pos ew]
/-- What is written is some bytes, and tells what it was. -/
theorem toBytes_inj {a b : List Nat} (ha : ∀ x ∈ a, x ≤ 1) (hb : ∀ x ∈ b, x ≤ 1) (hl : a.length = b.length) (h : Bm.toBytes a = Bm.toBytes b) : a = b := by
  obtain ⟨p1, _, e1⟩ := ofBytes_toBytes a ha
  obtain ⟨p2, _, e2⟩ := ofBytes_toBytes b hb
  rw [h, e2] at e1
  have h1 : (b ++ List.replicate p2 0).take a.length = (a ++ List.replicate p1 0).take a.length := by rw [e1]
  rw [List.take_left, hl, List.take_left] at h1
  exact h1.symm
structure RW16 (kind : Int) (q : Nat) (ver len : Int) (body : List Nat) (b m : Nat) (k : Int) (q' : Nat) (ve le : Int) (b' m' : Nat) : Prop where
  d : kind = 1 → q' = q ∧ ve = ver ∧ le = len ∧ rB (WB kind q ver len body b m) = body
  a : kind = 2 → b' = b ∧ m' = m
  k12 : kind = 1 ∨ kind = 2
  nil : rdX (WB kind q ver len body b m) = .nil
  lt : ∀ x ∈ WB kind q ver len body b m, x < 256
  len : (WB kind q ver len body b m).length ≤ 75
theorem read_write {kind ver len : Int} {q b m : Nat} {body : List Nat} (hq : q < 65536) (hb : b < 65536) (hm : m < 4294967296) (h : WE kind ver len body = 0) {k : Int} {q' : Nat} {ve le : Int} {b' m' : Nat} (hN : FN (WB kind q ver len body b m) k q' ve le b' m') :
    RW16 kind q ver len body b m k q' ve le b' m' := by
  obtain ⟨_, hle, hlt, _, _⟩ := cut_write (kind := kind) (ver := ver) (len := len) (q := q) (b := b) (m := m) (body := body) hq hb hm h
  have hk : kind = 1 ∨ kind = 2 := by
    unfold WE at h
    split at h
    · left; assumption
    · split at h
      · right; assumption
      · omega
  have hnil : rdX (WB kind q ver len body b m) = .nil := by
    rcases hk with rfl | rfl
    · unfold WE at h
      rw [if_pos rfl] at h
      obtain ⟨v, l, rfl, rfl, hv, hl, hbit, hbl⟩ := wE0 h
      unfold WB
      rw [if_pos rfl]
      unfold wB
      rw [if_pos h]
      exact data_nil hv hl hq hbit hbl
    · unfold WB
      rw [if_neg (by omega), if_pos rfl]
      exact (ack_read hb hm).1
  obtain ⟨_, _, hbit', hwe', hwb'⟩ := hN.yes hnil
  refine ⟨fun h1 => ?_, fun h2 => ?_, hk, hnil, hlt, hle⟩
  · subst h1
    generalize hX : WB 1 q ver len body b m = X at *
    unfold WE at h
    rw [if_pos rfl] at h
    unfold WB at hX
    rw [if_pos rfl] at hX
    unfold wB at hX
    rw [if_pos h] at hX
    obtain ⟨v, l, rfl, rfl, hv, hl, hbit, hbl⟩ := wE0 h
    obtain ⟨c1, c0, _, _, hw⟩ := dataW_cons (q := q) body hv hl hq
    rw [show ((v : Int)).toNat = v by omega, show ((l : Int)).toNat = l by omega, hw] at hX
    have hk' : k = 1 ∨ k = 2 := by
      unfold WE at hwe'
      split at hwe'
      · left; assumption
      · split at hwe'
        · right; assumption
        · omega
    rcases hk' with rfl | rfl
    · unfold WE at hwe'
      rw [if_pos rfl] at hwe'
      unfold WB at hwb'
      rw [if_pos rfl] at hwb'
      unfold wB at hwb'
      rw [if_pos hwe'] at hwb'
      obtain ⟨v2, l2, rfl, rfl, hv2, hl2, hbit2, hbl2⟩ := wE0 hwe'
      obtain ⟨d1, d0, _, _, hw2⟩ := dataW_cons (q := q') (rB X) hv2 hl2 hN.hq
      rw [show ((v2 : Int)).toNat = v2 by omega, show ((l2 : Int)).toNat = l2 by omega, hw2, ← hX] at hwb'
      injection hwb' with a1 hwb'
      injection hwb' with a2 hwb'
      injection hwb' with a3 hwb'
      injection hwb' with a4 hwb'
      injection hwb' with a5 hwb'
      injection hwb' with a6 hwb'
      refine ⟨by omega, by omega, by omega, ?_⟩
      rw [hX] at hwb'
      exact toBytes_inj hbit2 hbit (by rw [hbl2, hbl, a2]) hwb'
    · exfalso
      unfold WB at hwb'
      rw [if_neg (by omega), if_pos rfl] at hwb'
      obtain ⟨d1, d0, hw2⟩ := ack_bits hN.hb hN.hm
      rw [hw2, ← hX] at hwb'
      injection hwb' with a1 hwb'
      omega
  · subst h2
    generalize hX : WB 2 q ver len body b m = X at *
    unfold WB at hX
    rw [if_neg (by omega), if_pos rfl] at hX
    obtain ⟨c1, c0, hw⟩ := ack_bits hb hm
    rw [hw] at hX
    have hk' : k = 1 ∨ k = 2 := by
      unfold WE at hwe'
      split at hwe'
      · left; assumption
      · split at hwe'
        · right; assumption
        · omega
    rcases hk' with rfl | rfl
    · exfalso
      unfold WE at hwe'
      rw [if_pos rfl] at hwe'
      unfold WB at hwb'
      rw [if_pos rfl] at hwb'
      unfold wB at hwb'
      rw [if_pos hwe'] at hwb'
      obtain ⟨v2, l2, rfl, rfl, hv2, hl2, hbit2, hbl2⟩ := wE0 hwe'
      obtain ⟨d1, d0, _, _, hw2⟩ := dataW_cons (q := q') (rB X) hv2 hl2 hN.hq
      rw [show ((v2 : Int)).toNat = v2 by omega, show ((l2 : Int)).toNat = l2 by omega, hw2, ← hX] at hwb'
      injection hwb' with a1 hwb'
      omega
    · unfold WB at hwb'
      rw [if_neg (by omega), if_pos rfl] at hwb'
      obtain ⟨d1, d0, hw2⟩ := ack_bits hN.hb hN.hm
      rw [hw2, ← hX] at hwb'
      injection hwb' with a1 hwb'
      injection hwb' with a2 hwb'
      injection hwb' with a3 hwb'
      injection hwb' with a4 hwb'
      injection hwb' with a5 hwb'
      injection hwb' with a6 hwb'
      injection hwb' with a7 hwb'
      have := hN.hm
      refine ⟨by omega, by omega⟩
end Go.Proofs.YtkmacepodomdmaaDoor
