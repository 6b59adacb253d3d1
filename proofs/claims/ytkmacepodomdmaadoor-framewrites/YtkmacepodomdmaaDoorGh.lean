/-
  Layer 16: why bytes can't be read, told by the bytes and their bits; what is read. Of the program only its words.
-/
import Derived.Test.YtkmacepodomdmaaDoorFu
import Derived.Test.YtkmacepodomdmaaDoorFq
import Derived.Test.YtkmacepodomdmaaDoorFt
namespace Go.Proofs.YtkmacepodomdmaaDoor
open Go.RowKit
set_option maxRecDepth 100000
set_option linter.unusedVariables false

theorem ofBytes_takeK (bs : List Nat) : ∀ k, Bm.ofBytes (bs.take k) = (Bm.ofBytes bs).take (8 * k) := by
  induction bs with
  | nil => intro k; simp [Bm.ofBytes]
  | cons b bs ih =>
    intro k
    cases k with
    | zero => simp [Bm.ofBytes]
    | succ k =>
      rw [List.take_succ_cons]
      show Bm.bits8 b ++ Bm.ofBytes (bs.take k) = (Bm.bits8 b ++ Bm.ofBytes bs).take (8 * (k + 1))
      have e : (Bm.bits8 b).take (8 * (k + 1)) = Bm.bits8 b := List.take_of_length_le (by show 8 ≤ 8 * (k + 1); omega)
      rw [ih k, List.take_append, show (Bm.bits8 b).length = 8 from rfl, e, show 8 * (k + 1) - 8 = 8 * k by omega]
theorem ofBytes_dropK (bs : List Nat) : ∀ k, Bm.ofBytes (bs.drop k) = (Bm.ofBytes bs).drop (8 * k) := by
  induction bs with
  | nil => intro k; simp [Bm.ofBytes]
  | cons b bs ih =>
    intro k
    cases k with
    | zero => simp [Bm.ofBytes]
    | succ k =>
      rw [List.drop_succ_cons]
      show Bm.ofBytes (bs.drop k) = (Bm.bits8 b ++ Bm.ofBytes bs).drop (8 * (k + 1))
      have e : (Bm.bits8 b).drop (8 * (k + 1)) = [] := List.drop_of_length_le (by show 8 ≤ 8 * (k + 1); omega)
      rw [ih k, List.drop_append, show (Bm.bits8 b).length = 8 from rfl, e, show 8 * (k + 1) - 8 = 8 * k by omega, List.nil_append]
theorem hb76_eq (bs : List Nat) : hb76 bs = (Bm.ofBytes bs).take 608 := ofBytes_takeK bs 76
theorem cutTD (xs : List Nat) (M i j : Nat) (h : i + j ≤ M) : ((xs.take M).drop i).take j = (xs.drop i).take j := by
  rw [List.drop_take, List.take_take, Nat.min_eq_left (by omega)]
theorem hbCut (bs : List Nat) (i j : Nat) (h : i + j ≤ 604) : ((((hb76 bs).drop 4).drop i).take j) = ((Bm.ofBytes bs).drop (4 + i)).take j := by
  rw [hb76_eq, List.drop_drop, cutTD _ _ _ _ (by omega)]
theorem bits8_hi : ∀ b : Fin 256, num ((Bm.bits8 b.val).take 4) = b.val / 16 := by decide +kernel
theorem bits8_lo : ∀ b : Fin 256, num (((Bm.bits8 b.val).drop 4).take 4) = b.val % 16 := by decide +kernel
theorem bits8_mid : ∀ b : Fin 256, num (((Bm.bits8 b.val).drop 4).take 2) = b.val % 16 / 4 := by decide +kernel
theorem bits8_end : ∀ b : Fin 256, num (((Bm.bits8 b.val).drop 6).take 2) = b.val % 4 := by decide +kernel
theorem num8 (b : Nat) (h : b < 256) : num (Bm.bits8 b) = b := by
  have e := num_all b 8 (by omega)
  rw [pre8] at e; exact e
theorem num16 (a b : Nat) (ha : a < 256) (hb : b < 256) : num (Bm.bits8 a ++ Bm.bits8 b) = 256 * a + b := by
  have e := num_all (256 * a + b) 16 (by omega)
  rw [pre16, show (256 * a + b) / 256 = a by omega, show (256 * a + b) % 256 = b by omega] at e; exact e
theorem num32 (a b c d : Nat) (ha : a < 256) (hb : b < 256) (hc : c < 256) (hd : d < 256) : num (Bm.bits8 a ++ (Bm.bits8 b ++ (Bm.bits8 c ++ Bm.bits8 d))) = 16777216 * a + 65536 * b + 256 * c + d := by
  have e := num_all (16777216 * a + 65536 * b + 256 * c + d) 32 (by omega)
  rw [pre32, show (16777216 * a + 65536 * b + 256 * c + d) / 16777216 = a by omega, show (16777216 * a + 65536 * b + 256 * c + d) / 65536 % 256 = b by omega, show (16777216 * a + 65536 * b + 256 * c + d) / 256 % 256 = c by omega, show (16777216 * a + 65536 * b + 256 * c + d) % 256 = d by omega] at e; exact e
theorem getD_rep0 (p i : Nat) : (List.replicate p 0).getD i 0 = 0 := by
  by_cases h : i < p
  · rw [Bm.getD_lt _ _ _ (by simpa using h)]; simp
  · rw [Bm.getD_ge _ _ _ (by simpa using h)]
theorem kd_byte (bs : List Nat) (hb : ∀ b ∈ bs, b < 256) (hn : 0 < bs.length) : kd bs = bs.getD 0 0 / 16 := by
  cases bs with
  | nil => simp at hn
  | cons b t =>
    unfold kd
    rw [hb76_cons]
    have := bits8_hi ⟨b, hb b (by simp)⟩
    simpa [Bm.bits8] using this
theorem wt0 (l : List Nat) : Bm.wt l = 0 ↔ ∀ j, j < l.length → l.getD j 0 = 0 := by
  unfold Bm.wt
  have key : ∀ k, Bm.cnt (fun i => l.getD i 0 != 0) k = 0 ↔ ∀ j, j < k → l.getD j 0 = 0 := by
    intro k
    induction k with
    | zero => exact ⟨fun _ j h => absurd h (by omega), fun _ => rfl⟩
    | succ k ih =>
      have e : Bm.cnt (fun i => l.getD i 0 != 0) (k + 1) = Bm.cnt (fun i => l.getD i 0 != 0) k + (if (l.getD k 0 != 0) = true then 1 else 0) := rfl
      rw [e]
      constructor
      · intro h j hj
        by_cases hjk : j = k
        · subst hjk
          by_cases hz : l.getD j 0 = 0
          · exact hz
          · rw [if_pos (by simpa using hz)] at h; omega
        · exact (ih.1 (by omega)) j (by omega)
      · intro h
        have h1 := ih.2 (fun j hj => h j (by omega))
        rw [h1, if_neg (by simpa using h k (by omega))]
  exact key _

/-- An ack's bytes. -/
theorem rdX_ack {bs : List Nat} (h9 : 9 ≤ bs.length) (hk : kd bs = 2) (hok : Crc.ok16 (bs.take 9) = true) :
    rdX bs = if num (((Bm.ofBytes bs).drop 4).take 4) ≠ 0 then .sent 3 else if 9 < bs.length then .told 3 else .nil := by
  have hl := hb76_length bs
  have e4 : ((hb76 bs).drop 4).take 4 = ((Bm.ofBytes bs).drop 4).take 4 := by rw [hb76_eq, cutTD _ _ _ _ (by omega)]
  have hr : restX 2 ((hb76 bs).drop 4) = if num (((Bm.ofBytes bs).drop 4).take 4) ≠ 0 then .sent 3 else .nil := by
    unfold restX
    rw [if_pos rfl, e4]
  have hL : restL 2 ((hb76 bs).drop 4) = (hb76 bs).drop 72 := by
    unfold restL
    rw [if_pos rfl, List.drop_drop]
  have hLl : ((hb76 bs).drop 72).length = 8 * min 76 bs.length - 72 := by rw [List.length_drop, hl]
  rw [rdX_rest (by omega) (Or.inr hk) (by rw [hk]; show ¬ _ < 9; omega) (by rw [hk]; exact hok), hk]
  by_cases h1 : num (((Bm.ofBytes bs).drop 4).take 4) ≠ 0
  · rw [hr, if_pos h1, if_pos h1]
  · rw [hr, if_neg h1, if_neg h1, hL]
    by_cases h2 : 9 < bs.length
    · have hp : padE ((hb76 bs).drop 72) = 3 := padE3 (by rw [hLl]; omega)
      rw [if_pos h2, hp]; rfl
    · have hp : padE ((hb76 bs).drop 72) = 0 := by
        have : (hb76 bs).drop 72 = [] := List.eq_nil_of_length_eq_zero (by rw [hLl]; omega)
        rw [this]; rfl
      rw [if_neg h2, hp]; rfl
/-- Data's bytes. -/
theorem rdX_data {bs : List Nat} (h6 : 6 ≤ bs.length) (hk : kd bs = 1) (hok : Crc.ok16 (bs.take 6) = true) (L : Nat) (hL : L = num (((Bm.ofBytes bs).drop 8).take 8)) :
    rdX bs = if num (((Bm.ofBytes bs).drop 6).take 2) ≠ 0 then .sent 3 else if 64 < L then .sent 4 else if bs.length < L + 11 then .told 2 else if L + 11 < bs.length then .told 3 else if Bm.wt ((Bm.ofBytes bs).drop (8 * (L + 4) + 54)) = 0 then .nil else .told 5 := by
  have hl := hb76_length bs
  have e2 := hbCut bs 2 2 (by omega)
  have e8 := hbCut bs 4 8 (by omega)
  have hr : restX 1 ((hb76 bs).drop 4) = if num (((Bm.ofBytes bs).drop 6).take 2) ≠ 0 then .sent 3 else if 64 < L then .sent 4 else if 8 * min 76 bs.length - 48 < 8 * (L + 4) + 6 then .told 2 else .nil := by
    unfold restX
    rw [if_neg (by omega), e2, e8, ← hL, List.length_drop, hl, show 8 * min 76 bs.length - 4 - 44 = 8 * min 76 bs.length - 48 by omega]
  have hLL : restL 1 ((hb76 bs).drop 4) = (hb76 bs).drop (8 * (L + 4) + 54) := by
    unfold restL
    rw [if_neg (by omega), e8, ← hL, List.drop_drop, show 4 + (44 + (8 * (L + 4) + 6)) = 8 * (L + 4) + 54 by omega]
  have hLl : ((hb76 bs).drop (8 * (L + 4) + 54)).length = 8 * min 76 bs.length - (8 * (L + 4) + 54) := by rw [List.length_drop, hl]
  rw [rdX_rest (by omega) (Or.inl hk) (by rw [hk]; show ¬ _ < 6; omega) (by rw [hk]; exact hok), hk]
  by_cases h1 : num (((Bm.ofBytes bs).drop 6).take 2) ≠ 0
  · rw [hr, if_pos h1, if_pos h1]
  · by_cases h2 : 64 < L
    · rw [hr, if_neg h1, if_neg h1, if_pos h2, if_pos h2]
    · by_cases h3 : bs.length < L + 11
      · rw [hr, if_neg h1, if_neg h1, if_neg h2, if_neg h2, if_pos h3, if_pos (by omega)]
      · rw [hr, if_neg h1, if_neg h1, if_neg h2, if_neg h2, if_neg h3, if_neg (by omega), hLL]
        by_cases h4 : L + 11 < bs.length
        · have hp : padE ((hb76 bs).drop (8 * (L + 4) + 54)) = 3 := padE3 (by rw [hLl]; omega)
          rw [if_pos h4, hp]; rfl
        · rw [if_neg h4]
          have hp : padE ((hb76 bs).drop (8 * (L + 4) + 54)) = if Bm.wt ((Bm.ofBytes bs).drop (8 * (L + 4) + 54)) = 0 then 0 else 5 := by
            unfold padE
            rw [if_neg (by rw [hLl]; omega), hb76_short (by omega)]
          rw [hp]
          by_cases h5 : Bm.wt ((Bm.ofBytes bs).drop (8 * (L + 4) + 54)) = 0
          · rw [if_pos h5, if_pos h5]; rfl
          · rw [if_neg h5, if_neg h5]; rfl

/-- What was read, as the reference has it. -/
def restR (k : Nat) (xs : List Nat) (B : Value) : Array Value :=
  if k = 2 then RV 2 0 0 0 B (num ((xs.drop 4).take 16) : Nat) (num ((xs.drop 20).take 32))
  else RV 1 (num ((xs.drop 12).take 16) : Nat) (num (xs.take 2) : Nat) (num ((xs.drop 4).take 8) : Nat) B 0 0
open Classical in
noncomputable def rF (bs : List Nat) (B : Value) : Array Value := if rdX bs = .nil then restR (kd bs) ((hb76 bs).drop 4) B else RV 0 0 0 0 B 0 0
open Classical in
noncomputable def rB (bs : List Nat) : List Nat := if rdX bs = .nil then restB (kd bs) ((hb76 bs).drop 4) else []
/-- What the reference's Read gives. -/
def R16 (w : World) (bs : List Nat) (e : Ending) (w' : World) : Prop := ∃ A n c, e = .returned (.tuple #[.agg (rF bs (.slice A n c)), .int .i64 (ErN (rdX bs))]) ∧ Rd w' w'.heap.size A n (U8 (rB bs)) ∧ (A = none → n = 0) ∧ n ≤ 1000 ∧ Below w.heap.size w w'

/-- What was read as an ack, by its bytes. -/
theorem ack_of {bs : List Nat} (hb : ∀ b ∈ bs, b < 256) (h9 : bs.length = 9) (hk : kd bs = 2) (hok : Crc.ok16 (bs.take 9) = true) (hz : num (((Bm.ofBytes bs).drop 4).take 4) = 0) :
    ackW (num (((Bm.ofBytes bs).drop 8).take 16)) (num (((Bm.ofBytes bs).drop 24).take 32)) = bs := by
  obtain ⟨b0, b1, b2, b3, b4, b5, b6, b7, b8, rfl⟩ : ∃ b0 b1 b2 b3 b4 b5 b6 b7 b8, bs = [b0, b1, b2, b3, b4, b5, b6, b7, b8] := by
    match bs, h9 with
    | [b0, b1, b2, b3, b4, b5, b6, b7, b8], _ => exact ⟨b0, b1, b2, b3, b4, b5, b6, b7, b8, rfl⟩
  have H0 := hb b0 (by simp)
  have H1 := hb b1 (by simp)
  have H2 := hb b2 (by simp)
  have H3 := hb b3 (by simp)
  have H4 := hb b4 (by simp)
  have H5 := hb b5 (by simp)
  have H6 := hb b6 (by simp)
  have H7 := hb b7 (by simp)
  have H8 := hb b8 (by simp)
  have e0 := kd_byte _ hb (by rw [h9]; omega)
  rw [hk] at e0
  have e0' : b0 / 16 = 2 := by simpa using e0.symm
  have z0 : b0 % 16 = 0 := by
    have h3 : num (((Bm.bits8 b0).drop 4).take 4) = b0 % 16 := bits8_lo ⟨b0, H0⟩
    have h2 : (((Bm.ofBytes [b0, b1, b2, b3, b4, b5, b6, b7, b8]).drop 4).take 4) = ((Bm.bits8 b0).drop 4).take 4 := by simp [Bm.ofBytes, Bm.bits8]
    rw [h2] at hz
    omega
  have hb0 : b0 = 32 := by omega
  have ea : ((Bm.ofBytes [b0, b1, b2, b3, b4, b5, b6, b7, b8]).drop 8).take 16 = Bm.bits8 b1 ++ Bm.bits8 b2 := by simp [Bm.ofBytes, Bm.bits8]
  have em : ((Bm.ofBytes [b0, b1, b2, b3, b4, b5, b6, b7, b8]).drop 24).take 32 = Bm.bits8 b3 ++ (Bm.bits8 b4 ++ (Bm.bits8 b5 ++ Bm.bits8 b6)) := by simp [Bm.ofBytes, Bm.bits8]
  rw [ea, em, num16 b1 b2 H1 H2, num32 b3 b4 b5 b6 H3 H4 H5 H6, ackW_eq (by omega) (by omega)]
  have eh : ackH (256 * b1 + b2) (16777216 * b3 + 65536 * b4 + 256 * b5 + b6) = [b0, b1, b2, b3, b4, b5, b6] := by
    unfold ackH
    rw [hb0]
    congr 1
    congr 1
    · omega
    congr 1
    · omega
    congr 1
    · omega
    congr 1
    · omega
    congr 1
    · omega
    congr 1
    omega
  rw [eh]
  have hok' : Crc.r16 [b0, b1, b2, b3, b4, b5, b6] = b7 * 256 + b8 := by
    have : Crc.ok16 [b0, b1, b2, b3, b4, b5, b6, b7, b8] = true := hok
    unfold Crc.ok16 at this
    have h3 := of_decide_eq_true this
    exact h3.2
  unfold Crc.seal16
  rw [hok', show (b7 * 256 + b8) / 256 = b7 by omega, show (b7 * 256 + b8) % 256 = b8 by omega]
  rfl
theorem toBytes_pad (l : List Nat) (p : Nat) (h : (l.length + p + 7) / 8 = (l.length + 7) / 8) : Bm.toBytes (l ++ List.replicate p 0) = Bm.toBytes l := by
  unfold Bm.toBytes
  rw [List.length_append, List.length_replicate, h]
  have g : ∀ i, (l ++ List.replicate p 0).getD i 0 = l.getD i 0 := by
    intro i
    by_cases hi : i < l.length
    · rw [Bm.getD_left _ _ _ _ hi]
    · rw [Bm.getD_right _ _ _ _ (by omega), Bm.getD_ge l 0 i (by omega)]
      by_cases h2 : i - l.length < p
      · rw [Bm.getD_lt _ _ _ (by simpa using h2)]; simp
      · rw [Bm.getD_ge _ _ _ (by simpa using h2)]
  apply List.map_congr_left
  intro j _
  unfold Bm.hb
  simp only [g]
/-- What was read as data, by its bytes. -/
theorem data_of {bs : List Nat} (hb : ∀ b ∈ bs, b < 256) (L : Nat) (hL : L = num (((Bm.ofBytes bs).drop 8).take 8)) (hn : bs.length = L + 11) (hk : kd bs = 1) (hok : Crc.ok16 (bs.take 6) = true) (hz : num (((Bm.ofBytes bs).drop 6).take 2) = 0)
    (hp : Bm.wt ((Bm.ofBytes bs).drop (8 * (L + 4) + 54)) = 0) :
    num (((Bm.ofBytes bs).drop 4).take 2) < 4 ∧ dataW (num (((Bm.ofBytes bs).drop 4).take 2)) L (num (((Bm.ofBytes bs).drop 16).take 16)) (((Bm.ofBytes bs).drop 48).take (8 * (L + 4) + 6)) = bs := by
  obtain ⟨b0, b1, b2, b3, b4, b5, t, rfl⟩ : ∃ b0 b1 b2 b3 b4 b5 t, bs = b0 :: b1 :: b2 :: b3 :: b4 :: b5 :: t := by
    match bs, hn with
    | b0 :: b1 :: b2 :: b3 :: b4 :: b5 :: t, _ => exact ⟨b0, b1, b2, b3, b4, b5, t, rfl⟩
    | [], h => simp at h
    | [_], h => simp at h
    | [_, _], h => simp at h
    | [_, _, _], h => simp at h
    | [_, _, _, _], h => simp at h
    | [_, _, _, _, _], h => simp at h
  have H0 := hb b0 (by simp)
  have H1 := hb b1 (by simp)
  have H2 := hb b2 (by simp)
  have H3 := hb b3 (by simp)
  have H4 := hb b4 (by simp)
  have H5 := hb b5 (by simp)
  have HT : ∀ x ∈ t, x < 256 := fun x hx => hb x (by simp [hx])
  have e0 := kd_byte _ hb (by rw [hn]; omega)
  rw [hk] at e0
  have e0' : b0 / 16 = 1 := by simpa using e0.symm
  have eX : Bm.ofBytes (b0 :: b1 :: b2 :: b3 :: b4 :: b5 :: t) = Bm.bits8 b0 ++ (Bm.bits8 b1 ++ (Bm.bits8 b2 ++ (Bm.bits8 b3 ++ (Bm.bits8 b4 ++ (Bm.bits8 b5 ++ Bm.ofBytes t))))) := rfl
  have z0 : b0 % 4 = 0 := by
    have h3 : num (((Bm.bits8 b0).drop 6).take 2) = b0 % 4 := bits8_end ⟨b0, H0⟩
    have h2 : (((Bm.ofBytes (b0 :: b1 :: b2 :: b3 :: b4 :: b5 :: t)).drop 6).take 2) = ((Bm.bits8 b0).drop 6).take 2 := by rw [eX]; simp [Bm.bits8]
    rw [h2] at hz
    omega
  have ev : num (((Bm.ofBytes (b0 :: b1 :: b2 :: b3 :: b4 :: b5 :: t)).drop 4).take 2) = b0 % 16 / 4 := by
    have h2 : (((Bm.ofBytes (b0 :: b1 :: b2 :: b3 :: b4 :: b5 :: t)).drop 4).take 2) = ((Bm.bits8 b0).drop 4).take 2 := by rw [eX]; simp [Bm.bits8]
    rw [h2]; exact bits8_mid ⟨b0, H0⟩
  have el : L = b1 := by
    have h2 : (((Bm.ofBytes (b0 :: b1 :: b2 :: b3 :: b4 :: b5 :: t)).drop 8).take 8) = Bm.bits8 b1 := by rw [eX]; simp [Bm.bits8]
    rw [h2, num8 b1 H1] at hL; exact hL
  have eq : num (((Bm.ofBytes (b0 :: b1 :: b2 :: b3 :: b4 :: b5 :: t)).drop 16).take 16) = 256 * b2 + b3 := by
    have h2 : (((Bm.ofBytes (b0 :: b1 :: b2 :: b3 :: b4 :: b5 :: t)).drop 16).take 16) = Bm.bits8 b2 ++ Bm.bits8 b3 := by rw [eX]; simp [Bm.bits8]
    rw [h2, num16 b2 b3 H2 H3]
  have eb : (Bm.ofBytes (b0 :: b1 :: b2 :: b3 :: b4 :: b5 :: t)).drop 48 = Bm.ofBytes t := by rw [eX]; simp [Bm.bits8]
  have hv : b0 = 16 + 4 * (b0 % 16 / 4) := by omega
  have htl : t.length = L + 5 := by simp at hn; omega
  have hXl := Bm.ofBytes_length t
  refine ⟨by rw [ev]; omega, ?_⟩
  rw [ev, eq, eb, dataW_eq _ (by omega) (by omega) (by omega)]
  have eh : dataH (b0 % 16 / 4) L (256 * b2 + b3) = [b0, b1, b2, b3] := by
    unfold dataH
    rw [← hv, el, show (256 * b2 + b3) / 256 = b2 by omega, show (256 * b2 + b3) % 256 = b3 by omega]
  have hok' : Crc.r16 [b0, b1, b2, b3] = b4 * 256 + b5 := by
    have : Crc.ok16 [b0, b1, b2, b3, b4, b5] = true := hok
    unfold Crc.ok16 at this
    have h3 := of_decide_eq_true this
    exact h3.2
  have hpad : Bm.ofBytes t = (Bm.ofBytes t).take (8 * (L + 4) + 6) ++ List.replicate 2 0 := by
    apply Bm.ext_getD
    · rw [List.length_append, List.length_take, List.length_replicate]; omega
    · intro i hi
      by_cases h : i < 8 * (L + 4) + 6
      · rw [Bm.getD_left _ _ _ _ (by rw [List.length_take]; omega), Bm.take_getD, if_pos h]
      · have hw := (wt0 _).1 hp (i - (8 * (L + 4) + 6)) (by rw [List.length_drop, Bm.ofBytes_length, hn]; omega)
        have e1 : ((Bm.ofBytes (b0 :: b1 :: b2 :: b3 :: b4 :: b5 :: t)).drop (8 * (L + 4) + 54)) = (Bm.ofBytes t).drop (8 * (L + 4) + 6) := by
          rw [← eb, List.drop_drop, show 48 + (8 * (L + 4) + 6) = 8 * (L + 4) + 54 by omega]
        rw [e1, List.getD_eq_getElem?_getD, List.getElem?_drop, show 8 * (L + 4) + 6 + (i - (8 * (L + 4) + 6)) = i by omega, ← List.getD_eq_getElem?_getD] at hw
        rw [hw, Bm.getD_right _ _ _ _ (by rw [List.length_take]; omega)]
        rw [List.length_take]
        have : i - min (8 * (L + 4) + 6) (Bm.ofBytes t).length < 2 := by omega
        exact (getD_rep0 _ _).symm
  have htb : Bm.toBytes ((Bm.ofBytes t).take (8 * (L + 4) + 6)) = t := by
    rw [← toBytes_pad _ 2 (by rw [List.length_take]; omega), ← hpad, Bm.toBytes_ofBytes t HT]
  rw [eh, htb]
  unfold Crc.seal16
  rw [hok', show (b4 * 256 + b5) / 256 = b4 by omega, show (b4 * 256 + b5) % 256 = b5 by omega]
  rfl
end Go.Proofs.YtkmacepodomdmaaDoor
