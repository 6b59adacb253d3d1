/-
  Frames that are cut short, or have more behind them. No program but the words for reading.
-/
import Derived.Test.YtkmacepodomdmaaDoorFq
import Derived.Test.YtkmacepodomdmaaDoorFj
namespace Go.Proofs.YtkmacepodomdmaaDoor
open Go.RowKit
set_option maxRecDepth 100000
set_option linter.unusedVariables false
set_option linter.unusedSimpArgs false

theorem hb76_cons (x : Nat) (t : List Nat) : hb76 (x :: t) = Bm.bits8 x ++ Bm.ofBytes (t.take 75) := by
  unfold hb76
  rw [List.take_succ_cons]
  simp [Bm.ofBytes]
theorem kd_data {v : Nat} (hv : v < 4) (t : List Nat) : kd ((16 + 4 * v) :: t) = 1 := by
  unfold kd
  rw [hb76_cons]
  have : v = 0 ∨ v = 1 ∨ v = 2 ∨ v = 3 := by omega
  rcases this with rfl | rfl | rfl | rfl <;> rfl
theorem kd_ack (t : List Nat) : kd (32 :: t) = 2 := by
  unfold kd
  rw [hb76_cons]
  rfl
theorem data_cs {v l q1 q0 c1 c0 : Nat} (rest : List Nat) (hv : v < 4) (hl : l < 256) (hlen : rest.length ≤ 70) :
    num ((((hb76 ((16 + 4 * v) :: l :: q1 :: q0 :: c1 :: c0 :: rest)).drop 4).drop 2).take 2) = 0 ∧ num ((((hb76 ((16 + 4 * v) :: l :: q1 :: q0 :: c1 :: c0 :: rest)).drop 4).drop 4).take 8) = l ∧ ((hb76 ((16 + 4 * v) :: l :: q1 :: q0 :: c1 :: c0 :: rest)).drop 4).length = 44 + 8 * rest.length := by
  have e8 := num_all l 8 (by omega)
  rw [pre8] at e8
  have hx : hb76 ((16 + 4 * v) :: l :: q1 :: q0 :: c1 :: c0 :: rest) = Bm.bits8 (16 + 4 * v) ++ (Bm.bits8 l ++ Bm.ofBytes (q1 :: q0 :: c1 :: c0 :: rest)) := by
    rw [hb76_short (by simp; omega)]
    simp [Bm.ofBytes]
  rw [hx]
  refine ⟨?_, ?_, ?_⟩
  · have : v = 0 ∨ v = 1 ∨ v = 2 ∨ v = 3 := by omega
    rcases this with rfl | rfl | rfl | rfl <;> rfl
  · exact e8
  · rw [List.length_drop, List.length_append, List.length_append, Bm.ofBytes_length]
    simp [Bm.bits8]
    omega
/-- What is needed of bytes for the cut. -/
structure CutOk (bs : List Nat) : Prop where
  pos : 0 < bs.length
  le : bs.length ≤ 75
  lt : ∀ b ∈ bs, b < 256
  cut : ∀ n, n < bs.length → ErN (rdX (bs.take n)) = 2 ∧ rdX (bs.take n) ≠ .nil
  more : ∀ m, ErN (rdX (bs ++ [m])) = 3 ∧ rdX (bs ++ [m]) ≠ .nil
theorem padE3 {ys : List Nat} (h : 8 ≤ ys.length) : padE ys = 3 := by unfold padE; rw [if_pos h]
theorem rdX_short {bs : List Nat} (h0 : 0 < bs.length) (hk : kd bs = 1 ∨ kd bs = 2) (h : bs.length < hdn (kd bs)) : rdX bs = .sent 1 := by
  unfold rdX
  rw [if_neg (by omega), if_neg (by omega), if_pos h]
theorem rdX_rest {bs : List Nat} (h0 : 0 < bs.length) (hk : kd bs = 1 ∨ kd bs = 2) (h : ¬ bs.length < hdn (kd bs)) (hok : Crc.ok16 (bs.take (hdn (kd bs))) = true) : rdX bs = match restX (kd bs) ((hb76 bs).drop 4) with
    | .nil => if padE (restL (kd bs) ((hb76 bs).drop 4)) = 0 then .nil else .told (padE (restL (kd bs) ((hb76 bs).drop 4)))
    | x => x := by
  unfold rdX
  rw [if_neg (by omega), if_neg (by omega), if_neg h, if_neg (by rw [hok]; simp)]
  cases restX (kd bs) ((hb76 bs).drop 4) <;> rfl
theorem cut_ack {b m : Nat} (hb : b < 65536) (hm : m < 4294967296) : CutOk (ackW b m) := by
  have hl := ackW_length b m
  have hok : Crc.ok16 (ackW b m) = true := by rw [ackW_eq hb hm]; exact ok_seal _ (ackH_lt hb hm)
  have hlt : ∀ x ∈ ackW b m, x < 256 := by rw [ackW_eq hb hm]; exact Crc.seal16_lt _ (ackH_lt hb hm)
  obtain ⟨c1, c0, hw⟩ := ack_bits hb hm
  refine ⟨by omega, by omega, hlt, fun n hn => ?_, fun x => ?_⟩
  · by_cases h0 : n = 0
    · subst h0
      rw [List.take_zero]
      exact ⟨rfl, by rw [nil_rd]; simp⟩
    · obtain ⟨k, rfl⟩ : ∃ k, n = k + 1 := ⟨n - 1, by omega⟩
      have hx : rdX ((ackW b m).take (k + 1)) = .sent 1 := by
        have hk2 : kd ((ackW b m).take (k + 1)) = 2 := by rw [hw, List.take_succ_cons]; exact kd_ack _
        refine rdX_short (by rw [List.length_take]; omega) (.inr hk2) ?_
        rw [hk2, List.length_take]
        show _ < 9
        omega
      rw [hx]
      exact ⟨rfl, by simp⟩
  · have hk2 : kd (ackW b m ++ [x]) = 2 := by rw [hw]; exact kd_ack _
    have hxl : (ackW b m ++ [x]).length = 10 := by rw [List.length_append, hl]; rfl
    have hr := rdX_rest (bs := ackW b m ++ [x]) (by omega) (.inr hk2) (by rw [hk2, hxl]; decide) (by
      rw [hk2, show hdn 2 = 9 from rfl, List.take_append_of_le_length (by omega), List.take_of_length_le (by omega)]; exact hok)
    rw [hk2] at hr
    have hX : restX 2 ((hb76 (ackW b m ++ [x])).drop 4) = .nil := by
      unfold restX
      rw [if_pos rfl, if_neg (by rw [hw]; show ¬ num (((hb76 (32 :: _)).drop 4).take 4) ≠ 0; rw [hb76_cons]; simp [Bm.bits8, num])]
    have hp : padE (restL 2 ((hb76 (ackW b m ++ [x])).drop 4)) = 3 := by
      refine padE3 ?_
      unfold restL
      rw [if_pos rfl, List.length_drop, List.length_drop, hb76_length, hxl]
      decide
    rw [hX, hp] at hr
    rw [hr]
    exact ⟨rfl, by simp⟩
theorem cut_data {v l q : Nat} {body : List Nat} (hv : v < 4) (hl : l ≤ 64) (hq : q < 65536) (hbit : ∀ x ∈ body, x ≤ 1) (hbl : body.length = 8 * (l + 4) + 6) : CutOk (dataW v l q body) := by
  have hlen : (dataW v l q body).length = 11 + l := by rw [dataW_length, hbl]; omega
  have hdw := dataW_eq (v := v) (l := l) (q := q) body hv (by omega) hq
  have hok : Crc.ok16 (Crc.seal16 (dataH v l q)) = true := ok_seal _ (dataH_lt hv (by omega) hq)
  have hsl : (Crc.seal16 (dataH v l q)).length = 6 := by rw [Crc.seal16_length]; rfl
  have htl : (Bm.toBytes body).length = l + 5 := by rw [Bm.toBytes_length, hbl]; omega
  have hlt : ∀ x ∈ dataW v l q body, x < 256 := by
    rw [hdw]
    exact append_lt (Crc.seal16_lt _ (dataH_lt hv (by omega) hq)) (toBytes256 _ hbit)
  obtain ⟨c1, c0, hw⟩ : ∃ c1 c0, dataW v l q body = (16 + 4 * v) :: l :: (q / 256) :: (q % 256) :: c1 :: c0 :: Bm.toBytes body := ⟨_, _, by rw [hdw]; rfl⟩
  have h6 : (dataW v l q body).take 6 = Crc.seal16 (dataH v l q) := by
    rw [hdw, List.take_append_of_le_length (by omega), List.take_of_length_le (by omega)]
  refine ⟨by omega, by omega, hlt, fun n hn => ?_, fun x => ?_⟩
  · by_cases h0 : n = 0
    · subst h0
      rw [List.take_zero]
      exact ⟨rfl, by rw [nil_rd]; simp⟩
    · have hk1 : kd ((dataW v l q body).take n) = 1 := by
        obtain ⟨k, rfl⟩ : ∃ k, n = k + 1 := ⟨n - 1, by omega⟩
        rw [hw, List.take_succ_cons]; exact kd_data hv _
      have hnl : ((dataW v l q body).take n).length = n := by rw [List.length_take]; omega
      by_cases h5 : n < 6
      · have hx : rdX ((dataW v l q body).take n) = .sent 1 := by
          refine rdX_short (by omega) (.inl hk1) ?_
          rw [hk1, hnl]
          exact h5
        rw [hx]
        exact ⟨rfl, by simp⟩
      · obtain ⟨k, rfl⟩ : ∃ k, n = k + 6 := ⟨n - 6, by omega⟩
        have hr := rdX_rest (bs := (dataW v l q body).take (k + 6)) (by omega) (.inl hk1) (by rw [hk1, hnl]; show ¬ _ < 6; omega) (by
          rw [hk1, show hdn 1 = 6 from rfl, List.take_take, show min 6 (k + 6) = 6 by omega, h6]; exact hok)
        rw [hk1] at hr
        have hcs := data_cs (v := v) (l := l) (q1 := q / 256) (q0 := q % 256) (c1 := c1) (c0 := c0) ((Bm.toBytes body).take k) hv (by omega) (by rw [List.length_take]; omega)
        have hbs : (dataW v l q body).take (k + 6) = (16 + 4 * v) :: l :: (q / 256) :: (q % 256) :: c1 :: c0 :: (Bm.toBytes body).take k := by rw [hw]; rfl
        rw [← hbs] at hcs
        obtain ⟨z1, z2, z3⟩ := hcs
        rw [List.length_take, htl] at z3
        have hX : restX 1 ((hb76 ((dataW v l q body).take (k + 6))).drop 4) = .told 2 := by
          unfold restX
          rw [if_neg (by omega), if_neg (by rw [z1]; simp), if_neg (by rw [z2]; omega), if_pos (by rw [z2, z3]; omega)]
        rw [hX] at hr
        rw [hr]
        exact ⟨rfl, by simp⟩
  · have hk1 : kd (dataW v l q body ++ [x]) = 1 := by rw [hw]; exact kd_data hv _
    have hxl : (dataW v l q body ++ [x]).length = 12 + l := by rw [List.length_append, hlen]; simp; omega
    have hr := rdX_rest (bs := dataW v l q body ++ [x]) (by omega) (.inl hk1) (by rw [hk1, hxl]; show ¬ _ < 6; omega) (by
      rw [hk1, show hdn 1 = 6 from rfl, List.take_append_of_le_length (by omega), h6]; exact hok)
    rw [hk1] at hr
    have hcs := data_cs (v := v) (l := l) (q1 := q / 256) (q0 := q % 256) (c1 := c1) (c0 := c0) (Bm.toBytes body ++ [x]) hv (by omega) (by rw [List.length_append, htl]; simp; omega)
    have hbs : dataW v l q body ++ [x] = (16 + 4 * v) :: l :: (q / 256) :: (q % 256) :: c1 :: c0 :: (Bm.toBytes body ++ [x]) := by rw [hw]; rfl
    rw [← hbs] at hcs
    obtain ⟨z1, z2, z3⟩ := hcs
    rw [List.length_append, htl] at z3
    have hX : restX 1 ((hb76 (dataW v l q body ++ [x])).drop 4) = .nil := by
      unfold restX
      rw [if_neg (by omega), if_neg (by rw [z1]; simp), if_neg (by rw [z2]; omega), if_neg (by rw [z2, z3]; simp; omega)]
    have hp : padE (restL 1 ((hb76 (dataW v l q body ++ [x])).drop 4)) = 3 := by
      refine padE3 ?_
      unfold restL
      rw [if_neg (by omega), List.length_drop, z2, z3]
      simp; omega
    rw [hX, hp] at hr
    rw [hr]
    exact ⟨rfl, by simp⟩
/-- A frame that can be written. -/
theorem cut_write {kind ver len : Int} {q b m : Nat} {body : List Nat} (hq : q < 65536) (hb : b < 65536) (hm : m < 4294967296) (h : WE kind ver len body = 0) : CutOk (WB kind q ver len body b m) := by
  unfold WE at h
  unfold WB
  by_cases h1 : kind = 1
  · rw [if_pos h1] at h
    rw [if_pos h1]
    unfold wB
    rw [if_pos h]
    unfold wE at h
    by_cases g1 : ver < 0 ∨ 3 < ver ∨ Bm.isB body = false
    · rw [if_pos g1] at h; cases h
    · rw [if_neg g1] at h
      by_cases g2 : ¬ (0 ≤ len ∧ len ≤ 64)
      · rw [if_pos g2] at h; cases h
      · rw [if_neg g2] at h
        by_cases g3 : (body.length : Int) ≠ fb len
        · rw [if_pos g3] at h; cases h
        · have g2' : 0 ≤ len ∧ len ≤ 64 := Decidable.not_not.1 g2
          have g3' : (body.length : Int) = fb len := Decidable.not_not.1 g3
          unfold fb at g3'
          rw [if_pos g2'] at g3'
          have hB : Bm.isB body = true := by
            cases hc : Bm.isB body with
            | true => rfl
            | false => exact absurd (.inr (.inr hc)) g1
          exact cut_data (by omega) (by omega) hq (Bm.isB_true hB) (by omega)
  · rw [if_neg h1] at h ⊢
    by_cases h2 : kind = 2
    · rw [if_pos h2]; exact cut_ack hb hm
    · rw [if_neg h2] at h; cases h
end Go.Proofs.YtkmacepodomdmaaDoor
