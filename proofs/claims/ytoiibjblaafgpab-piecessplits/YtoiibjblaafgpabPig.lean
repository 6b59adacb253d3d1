/-
  Layer 34: a joiner beside rows of messages; the walks of PiecesSizes, PiecesLong.
-/
import Derived.Test.YtoiibjblaafgpabPif
import Derived.Test.YtoiibjblaafgpabArg
namespace Go.Proofs.Ytoiibjblaafgpab
open Go.RowKit
set_option linter.unusedVariables false
set_option linter.unusedSimpArgs false
set_option maxRecDepth 100000

/-- A joiner that goes on since wh, where its blocks were among P0. -/
structure JL (wh w : World) (P0 : Nat → Prop) (g : Nat) (half : List Nat) (bad : Nat) : Prop where
  jt : ∃ P : Nat → Prop, JT w P g half bad ∧ ∀ k, P k → P0 k ∨ wh.heap.size ≤ k
  kr : Kr wh w P0
theorem JL.start {w : World} {P : Nat → Prop} {g : Nat} {half : List Nat} {bad : Nat} (h : JT w P g half bad) : JL w w P g half bad := ⟨⟨P, h, fun k hk => .inl hk⟩, kr_refl _ _⟩
theorem JL.after {wh w w' : World} {P0 : Nat → Prop} {g : Nat} {half : List Nat} {bad : Nat} (h : JL wh w P0 g half bad) (hb : Below w.heap.size w w') : JL wh w' P0 g half bad := by
  obtain ⟨P, h1, h2⟩ := h.jt
  exact ⟨⟨P, h1.after hb, h2⟩, ⟨hb.os.trans h.kr.os, hb.tape.trans h.kr.tape, hb.output.trans h.kr.output, Nat.le_trans h.kr.size hb.size, fun k hk hp => (hb.block k (Nat.lt_of_lt_of_le hk h.kr.size)).trans (h.kr.block k hk hp)⟩⟩
/-- Blocks that are none of it, as they were. -/
theorem JL.same {wh w : World} {P0 : Nat → Prop} {g : Nat} {half : List Nat} {bad : Nat} (h : JL wh w P0 g half bad) (R : Nat → Prop) (hR : ∀ k, R k → k < wh.heap.size ∧ ¬ P0 k) : ∀ k, R k → w.heap[k]? = wh.heap[k]? := fun k hk => h.kr.block k (hR k hk).1 (hR k hk).2
/-- It takes the i-th message of a text. -/
theorem jlStep {wh w : World} {P0 R : Nat → Prop} {g bad : Nat} {half bs : List Nat} {T : TypeId} {A : Option Addr} {n c : Nat} {k : Nat} (i : Nat) (h : JL wh w P0 g half bad) (hR : ∀ k, R k → k < wh.heap.size ∧ ¬ P0 k)
    (B : Option Addr) (d : Nat) (ho : Own wh 0 5 B (mg bs i).length d (U8 (mg bs i))) (hB : ∀ k, blk B = some k → R k) (hi : i ≤ lst bs.length) (hb : bad ≤ 1000000) (hlen : bs.length ≤ 65536) (hh : i = 0 ∧ half.length ≤ 65000 ∨ half = bs.take (63 * i)) :
    Calls Try.prog 13 #[.pointer (some ⟨g, 0, none⟩), .slice B (mg bs i).length d] w fun e w' =>
      if decide (i = lst bs.length) = true then (∃ A c, e = .returned (.tuple #[.slice A bs.length c, .bool true, .int .i64 0]) ∧ Own w' 0 5 A bs.length c (U8 bs)) ∧ JL wh w' P0 g [] (bad + if i = 0 ∧ 0 < half.length then 1 else 0)
      else e = .returned (.tuple #[.slice none 0 0, .bool false, .int .i64 0]) ∧ JL wh w' P0 g (bs.take (63 * (i + 1))) (bad + if i = 0 ∧ 0 < half.length then 1 else 0) := by
  obtain ⟨P, h1, h2⟩ := h.jt
  have hsame := h.same R hR
  have ho' : Own w 0 5 B (mg bs i).length d (U8 (mg bs i)) := ho.heap (fun k hk => hsame k (hB k hk))
  have hBP : ∀ k, blk B = some k → ¬ P k := fun k hk hp => by
    have h3 := hR k (hB k hk)
    rcases h2 k hp with e | e
    · exact h3.2 e
    · omega
  refine (jMsg w P g bad half bs i B d h1 hb ho' hBP hi hlen hh).mono ?_
  rintro e w' ⟨k', P', hP', hh'⟩
  have hkr : Kr wh w' P0 := by
    refine ⟨k'.os.trans h.kr.os, k'.tape.trans h.kr.tape, k'.output.trans h.kr.output, Nat.le_trans h.kr.size k'.size, fun k hk hp => ?_⟩
    refine (k'.block k (Nat.lt_of_lt_of_le hk h.kr.size) (fun hpp => ?_)).trans (h.kr.block k hk hp)
    rcases h2 k hpp with e | e
    · exact hp e
    · omega
  have hPP : ∀ k, P' k → P0 k ∨ wh.heap.size ≤ k := fun k hk => by
    rcases hP' k hk with e | e
    · exact h2 k e
    · exact .inr (Nat.le_trans h.kr.size e)
  by_cases hl : i = lst bs.length
  · rw [if_pos (decide_eq_true hl)] at hh' ⊢
    rw [hl, take_all] at hh'
    obtain ⟨⟨A', c', he, ho'⟩, hj⟩ := hh'
    refine ⟨⟨A', c', he, ho'⟩, ⟨⟨P', ?_, hPP⟩, hkr⟩⟩
    rw [hl]; exact hj
  · rw [if_neg (by simp [hl])] at hh' ⊢
    exact ⟨hh'.1, ⟨⟨P', hh'.2, hPP⟩, hkr⟩⟩
theorem hd_mid_q (i : Nat) : hd i 0 / 64 % 2 = 0 := by unfold hd; split <;> omega
theorem hd_last_q (i : Nat) : hd i 64 / 64 % 2 = 1 := by unfold hd; split <;> omega
/-- A header's first byte. -/
theorem Own.first8 {w : World} {B : Option Addr} {n d h : Nat} {ps : List Nat} (ho : Own w 0 5 B n d (U8 (h :: ps))) : ∃ b, B = some ⟨b, 0, none⟩ ∧ 0 < n ∧ w.cell? ⟨b, 0, none⟩ = some (.int .u8 (h : Int)) := by
  have hl := ho.len
  rw [U8_length, List.length_cons] at hl
  rcases ho.row.2 with ⟨hv, h0⟩ | ⟨g', cap, cur, hv, rest⟩
  · omega
  · injection hv with e1 e2 e3
    subst e1
    refine ⟨g', rfl, by omega, ?_⟩
    obtain ⟨b, off, e, _, hc⟩ := ho.rd.cell8 0 (by omega)
    injection e with e
    injection e with e1 e2
    subst e1 e2
    exact hc
set_option maxHeartbeats 2000000 in
/-- PiecesSizes: the walk. -/
theorem piecesSizes (x : Int) (w : World) : Calls Try.prog 6 #[.int .i64 x] w fun e w' => e = .returned (.bool true) ∧ Below w.heap.size w w' := by
  obtain ⟨i0, hi0, hz0, hz1, hz2⟩ := info_parts info5
  obtain ⟨u, hu, hu2⟩ := wrap_u64 x
  obtain ⟨n, hn1, hn2⟩ : ∃ n : Nat, n < 2000 ∧ (u : Int) % 2000 = (n : Int) := ⟨u % 2000, by omega, by omega⟩
  have CS : Hid (∀ W (g : Nat), Rd W W.heap.size (some ⟨g, 0, none⟩) n (U8 (List.replicate n 0)) → Calls Try.prog 9 #[.slice (some ⟨g, 0, none⟩) n n] W fun e w' => ∃ A' c', e = .returned (.tuple #[.slice A' (lst n + 1) c', .int .i64 0]) ∧ SplitOk W (List.replicate n 0) A' c' w') := fun W g hr => by
    have := pSplit _ n n (List.replicate n 0) W hr (fun e => by cases e) (by omega) (by omega) (by omega)
    rw [List.length_replicate] at this
    exact this
  have CT := Lib.hid splitsC
  have HBL : Hid ((List.replicate n 0).length = n) := List.length_replicate
  obtain ⟨L, hL⟩ : ∃ L, L = lst n := ⟨_, rfl⟩
  have HL := Lib.hid hL
  have hLb : L ≤ 100 := by rw [hL]; unfold lst; omega
  have em : Hid (max ((n + 62) / 63) 1 = L + 1) := by rw [hL]; unfold lst; unfold Hid; omega
  rw [← hL] at CS
  have t1 : (((n : Int) + 62).tdiv 63) = (((n + 62) / 63 : Nat) : Int) := by
    rw [show (n : Int) + 62 = ((n + 62 : Nat) : Int) by omega]; rfl
  obtain ⟨q, hq⟩ : ∃ q, q = (n + 62) / 63 := ⟨_, rfl⟩
  rw [← hq] at em t1
  have hqb : q ≤ 100 := by omega
  have mx1 : (if (q : Int) < 1 then (1 : Int) else (q : Int)) = ((L + 1 : Nat) : Int) := by have := em.out; split <;> omega
  have mx2 : max (q : Int) 1 = ((L + 1 : Nat) : Int) := by have := em.out; omega
  have mx3 : (if q < 1 then (1 : Int) else (q : Int)) = ((L + 1 : Nat) : Int) := by have := em.out; split <;> omega
  obtain ⟨L1, hL1⟩ : ∃ L1, L1 = L + 1 := ⟨_, rfl⟩
  rw [← hL1] at mx1 mx2 mx3 CS
  have HL1 := Lib.hid hL1
  have tL : ((L1 : Int) != (L1 : Int)) = false := by simp
  have hL1b : L1 ≤ 101 := by omega
  clear hL hq hL1
  go_enter Try.func6, Try.ntmps6
  go_upto_region 3 with (first | (at_make; refine wpList_make_full _ rfl _ _ 22 rfl w.heap.size 5 i0 (.int .u8 0) 1 Try.underlying22 hi0 hz0 hz1 .i64 .i64 _ _ n rfl rfl (by first | rfl | omega) (by first | rfl | omega) (by rw [hz2]; omega) (by unfold maxLen; omega) (Nat.le_refl _) ?_; intro w1 hown1 hgrow1; rw [made8] at hown1) | (go_at_call 9; refine (CS.out w1 w.heap.size (show Rd w1 w1.heap.size (some ⟨w.heap.size, 0, none⟩) n (U8 (List.replicate n 0)) from (⟨hown1⟩ : Own w1 w.heap.size 5 _ n n _).rd)).mono ?_; rintro e w2 ⟨A, c, rfl, m2, b2⟩))
  have b1 : Below w.heap.size w w1 := (Below.refl _ _).grown hgrow1 (Nat.le_refl _) (fun k h => by cases h)
  have b12 := Below.then_ b1 b2
  clear hown1 hgrow1 b1 b2 CS hi0 hz0 hz1 hz2
  go_upto_region 6 with (go_at_call 12; refine (CT.out _).mono ?_; rintro e w3 ⟨rfl, b3⟩)
  have m3 := m2.after b3 (fun k hk => hk.2)
  have b13 := Below.then_ b12 b3
  have eL1 : lst (List.replicate n 0).length + 1 = L1 := by rw [HBL.out, HL1.out, HL.out]
  rw [eL1] at m3
  have HM3 := Lib.hid m3
  clear m2 b3 b12 CT m3 eL1
  go_loopw [5] (fun s5 wr => ∃ i : Nat, s5 = .int .i64 (i : Int) ∧ i ≤ L ∧ wr = w3) (fun s5 _ => L1 - (intOf s5).toNat)
  case atStart => exact ⟨0, rfl, by omega, rfl⟩
  case round =>
    obtain ⟨i, rfl, hi, rfl⟩ := hrel
    by_cases hlt : i < L
    · have hlt1 : i < L1 := by have := HL1.out; omega
      obtain ⟨b, off, B, d, hA, hbR, kc, ob, hB⟩ := HM3.out.get i hlt1
      subst hA
      rw [show (msgs (List.replicate n 0)).getD i [] = mg (List.replicate n 0) i from msk_get _ _ i (by rw [HBL.out, ← HL.out]; omega)] at kc ob
      have hmid : mg (List.replicate n 0) i = hd i 0 :: part (List.replicate n 0) i := by unfold mg lbit; rw [if_neg (by rw [HBL.out, ← HL.out]; omega)]
      have hlen : (mg (List.replicate n 0) i).length = 64 := by rw [mg_len, part_len _ _ (by rw [HBL.out, ← HL.out]; exact hlt)]
      rw [hmid] at ob
      rw [hlen] at kc
      obtain ⟨b', hb', _, kf⟩ := ob.first8
      subst hb'
      have hh := hd_lt i 0 (.inl rfl)
      have q1 : ((hd i 0 : Int).tdiv 64) = ((hd i 0 / 64 : Nat) : Int) := rfl
      have q2 : (((hd i 0 / 64 : Nat) : Int).tmod 2) = 0 := by
        have : ((hd i 0 / 64 : Nat) : Int).tmod 2 = ((hd i 0 / 64 % 2 : Nat) : Int) := rfl
        rw [this, hd_mid_q]; rfl
      have q3 : ((hd i 0 : Int).tmod 64) = ((i % 64 : Nat) : Int) := by
        have : ((hd i 0 : Int).tmod 64) = ((hd i 0 % 64 : Nat) : Int) := rfl
        rw [this, hd_num i 0 (.inl rfl)]
      have q4 : ((i : Int).tmod 64) = ((i % 64 : Nat) : Int) := rfl
      have q5 : (((i % 64 : Nat) : Int) != ((i % 64 : Nat) : Int)) = false := by simp
      have q6 : (hd i 0 / 64) < 4 := by omega
      have q7 : i % 64 < 64 := Nat.mod_lt _ (by omega)
      generalize hd i 0 / 64 = z1 at *
      generalize hd i 0 = h at *
      generalize i % 64 = z2 at *
      have d1 : decide ((i : Int) + 1 < (L1 : Int)) = true := by have := HL1.out; simp; omega
      have f1 : (i : Int) < (L1 : Int) := by omega
      clear ob hmid hlen hB hbR
      go_wp2
      go_roundw
      case rel => exact ⟨i + 1, by go_num, by omega, by first | rfl | trivial⟩
      case measure => simp [intOf] <;> omega
    · have hiL : i = L := by omega
      have HIL := Lib.hid hiL
      have d1 : decide ((i : Int) + 1 < (L1 : Int)) = false := by have := HL1.out; simp; omega
      have hlt1 : L < L1 := by have := HL1.out; omega
      obtain ⟨b, off, B, d, hA, hbR, kc, ob, hB⟩ := HM3.out.get L hlt1
      subst hA
      rw [show (msgs (List.replicate n 0)).getD L [] = mg (List.replicate n 0) L from msk_get _ _ L (by rw [HBL.out, ← HL.out]; omega)] at kc ob
      have hmid : mg (List.replicate n 0) L = hd L 64 :: part (List.replicate n 0) L := by unfold mg lbit; rw [if_pos (by rw [HBL.out, ← HL.out])]
      have hlen : Hid ((mg (List.replicate n 0) L).length = 1 + n - 63 * L) := by
        unfold Hid
        rw [mg_len, part_length, HBL.out, HL.out]; unfold lst; omega
      rw [hmid] at ob
      obtain ⟨b', hb', _, kf⟩ := ob.first8
      subst hb'
      obtain ⟨k, hk⟩ : ∃ k, k = (mg (List.replicate n 0) L).length := ⟨_, rfl⟩
      rw [← hk] at kc hlen
      have hkn : k ≤ 64 ∧ 63 * L ≤ n := by
        rw [hlen.out, HL.out]; unfold lst; omega
      have hk1 : 0 < k := by rw [hlen.out, HL.out]; unfold lst; omega
      have hh := hd_lt L 64 (.inr rfl)
      have q1 : ((hd L 64 : Int).tdiv 64) = ((hd L 64 / 64 : Nat) : Int) := rfl
      have q2 : (((hd L 64 / 64 : Nat) : Int).tmod 2) = 1 := by
        have : ((hd L 64 / 64 : Nat) : Int).tmod 2 = ((hd L 64 / 64 % 2 : Nat) : Int) := rfl
        rw [this, hd_last_q]; rfl
      have q6 : (hd L 64 / 64) < 4 := by omega
      generalize hd L 64 / 64 = z1 at *
      generalize hd L 64 = h at *
      have eL : (L1 : Int) - 1 = (L : Int) := by have := HL1.out; omega
      have wL : IntKind.i64.wrap ((L1 : Int) - 1) = (L : Int) := by rw [eL]; exact IntWalk.i64_in _ (by omega)
      have eK : 1 + (n : Int) - 63 * (L : Int) = (k : Int) := by have := hlen.out; omega
      have tk : ((k : Int) == (k : Int)) = true := by simp
      have f1 : (L : Int) < (L1 : Int) := by omega
      clear ob hmid hlen hB hbR hiL hk
      go_wp2
      go_ret
      exact ⟨rfl, b13⟩
end Go.Proofs.Ytoiibjblaafgpab
