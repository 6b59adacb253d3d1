/-
  The walk of PiecesLong.
-/
import Derived.Test.YtoiibjblaafgpabPig
namespace Go.Proofs.Ytoiibjblaafgpab
open Go.RowKit
set_option linter.unusedVariables false
set_option linter.unusedSimpArgs false
set_option maxRecDepth 100000

/-- What a joiner has behind i messages of a text. -/
def hf (bs : List Nat) (i : Nat) : List Nat := if i = lst bs.length + 1 then [] else bs.take (63 * i)
theorem hf_zero (bs : List Nat) : hf bs 0 = [] := by unfold hf; simp
theorem hf_end (bs : List Nat) : hf bs (lst bs.length + 1) = [] := by unfold hf; simp
theorem hf_lt (bs : List Nat) (i : Nat) (h : i ≤ lst bs.length) : hf bs i = bs.take (63 * i) := by unfold hf; rw [if_neg (by omega)]
/-- The i-th message, where none was lost. -/
theorem jlNext {wh w : World} {P0 R : Nat → Prop} {g bad : Nat} {bs : List Nat} (i : Nat) (h : JL wh w P0 g (hf bs i) bad) (hR : ∀ k, R k → k < wh.heap.size ∧ ¬ P0 k)
    (B : Option Addr) (d : Nat) (ho : Own wh 0 5 B (mg bs i).length d (U8 (mg bs i))) (hB : ∀ k, blk B = some k → R k) (hi : i ≤ lst bs.length) (hb : bad ≤ 1000000) (hlen : bs.length ≤ 65536) :
    Calls Try.prog 13 #[.pointer (some ⟨g, 0, none⟩), .slice B (mg bs i).length d] w fun e w' =>
      JL wh w' P0 g (hf bs (i + 1)) bad ∧ (if decide (i = lst bs.length) = true then ∃ A c, e = .returned (.tuple #[.slice A bs.length c, .bool true, .int .i64 0]) ∧ Own w' 0 5 A bs.length c (U8 bs)
      else e = .returned (.tuple #[.slice none 0 0, .bool false, .int .i64 0])) := by
  have e0 : (bad + if i = 0 ∧ 0 < (hf bs i).length then 1 else 0) = bad := by
    rw [if_neg]
    · rfl
    · rintro ⟨h0, h1⟩
      rw [h0, hf_zero] at h1
      exact absurd h1 (by simp)
  refine (jlStep (T := 0) (A := none) (n := 0) (c := 0) (k := 0) i h hR B d ho hB hi hb hlen (.inr (hf_lt bs i hi))).mono ?_
  rintro e w' hh
  rw [e0] at hh
  by_cases hl : i = lst bs.length
  · rw [if_pos (decide_eq_true hl)] at hh ⊢
    refine ⟨?_, hh.1⟩
    rw [hl, hf_end]; exact hh.2
  · rw [if_neg (by simp [hl])] at hh ⊢
    refine ⟨?_, hh.1⟩
    rw [hf_lt _ _ (by omega)]; exact hh.2
set_option maxHeartbeats 2000000 in
/-- PiecesLong: the walk. -/
theorem piecesLong (x : Int) (w : World) : Calls Try.prog 4 #[.int .i64 x] w fun e w' => e = .returned (.bool true) ∧ Below w.heap.size w w' := by
  obtain ⟨i0, hi0, hz0, hz1, hz2⟩ := info_parts info5
  obtain ⟨u, hu, hu2⟩ := wrap_u64 x
  obtain ⟨n, hn1, hn2, hn3⟩ : ∃ n : Nat, 65535 ≤ n ∧ n ≤ 65538 ∧ 65535 + (u : Int) % 4 = (n : Int) := ⟨65535 + u % 4, by omega, by omega, by omega⟩
  have CT := Lib.hid splitsC
  by_cases hok : n ≤ 65536
  · obtain ⟨bs, hbs⟩ : ∃ bs : List Nat, bs = List.replicate n 0 := ⟨_, rfl⟩
    have HBS := Lib.hid hbs
    have HBL : Hid (bs.length = n) := by rw [hbs]; exact List.length_replicate
    have CS : Hid (∀ W (g : Nat), Rd W W.heap.size (some ⟨g, 0, none⟩) n (U8 bs) → Calls Try.prog 9 #[.slice (some ⟨g, 0, none⟩) n n] W fun e w' => ∃ A' c', e = .returned (.tuple #[.slice A' (lst n + 1) c', .int .i64 0]) ∧ SplitOk W bs A' c' w') := fun W g hr => by
      have := pSplit _ n n bs W hr (fun e => by cases e) (by omega) (by omega) (by omega)
      rw [HBL.out] at this
      exact this
    clear hbs
    obtain ⟨L1, hL1⟩ : ∃ L1, L1 = lst n + 1 := ⟨_, rfl⟩
    have hL1b : L1 ≤ 2000 := by rw [hL1]; unfold lst; omega
    have HL1 : Hid (lst bs.length + 1 = L1) := by rw [HBL.out, hL1]; exact rfl
    have t1 : (((n : Int) + 62).tdiv 63) = (L1 : Int) := by
      rw [show (n : Int) + 62 = ((n + 62 : Nat) : Int) by omega]
      show (((n + 62) / 63 : Nat) : Int) = _
      rw [hL1]; unfold lst; omega
    rw [← hL1] at CS
    have tL : ((L1 : Int) == (L1 : Int)) = true := by simp
    have d0 : decide ((n : Int) ≤ 65536) = true := by simp; omega
    have CN := Lib.hid pNew
    clear hL1
    go_enter Try.func4, Try.ntmps4
    go_upto_region 3 with (first | (at_make; refine wpList_make_full _ rfl _ _ 22 rfl w.heap.size 5 i0 (.int .u8 0) 1 Try.underlying22 hi0 hz0 hz1 .i64 .i64 _ _ n rfl rfl (by first | rfl | omega) (by first | rfl | omega) (by rw [hz2]; omega) (by unfold maxLen; omega) (Nat.le_refl _) ?_; intro w1 hown1 hgrow1; rw [made8, ← HBS.out] at hown1) | (go_at_call 9; refine (CS.out w1 w.heap.size (show Rd w1 w1.heap.size (some ⟨w.heap.size, 0, none⟩) n (U8 bs) from (⟨hown1⟩ : Own w1 w.heap.size 5 _ n n _).rd)).mono ?_; rintro e w2 ⟨A, c, rfl, m2, b2⟩))
    have b1 : Below w.heap.size w w1 := (Below.refl _ _).grown hgrow1 (Nat.le_refl _) (fun k h => by cases h)
    have b12 := Below.then_ b1 b2
    clear hown1 hgrow1 b1 b2 CS hi0 hz0 hz1 hz2
    go_upto_region 8 with (first | (go_at_call 12; refine (CT.out _).mono ?_; rintro e w3 ⟨rfl, b3⟩) | (go_at_call 11; refine (CN.out _).mono ?_; rintro e w4 ⟨rfl, j4, b4⟩))
    have b13 := Below.then_ b12 b3
    have m4 := (m2.after b3 (fun k hk => hk.2)).after b4 (fun k hk => by have := b3.size; omega)
    rw [HL1.out] at m4
    have HM := Lib.hid m4
    have hJL := JL.start j4
    have b14 := Below.then_ b13 b4
    have HB14 := Lib.hid b14
    have HR : Hid (∀ k, (w1.heap.size ≤ k ∧ k < w2.heap.size) → k < w4.heap.size ∧ ¬ k = w3.heap.size) := fun k hk => by have := b3.size; have := b4.size; omega
    have HGW : Hid (w.heap.size ≤ w3.heap.size) := b13.size
    obtain ⟨g, hg⟩ : ∃ g, g = w3.heap.size := ⟨_, rfl⟩
    rw [← hg] at hJL HR HGW
    rw [← hg]
    have hJ0 : Hid (JL w4 w4 (fun k => k = g) g (hf bs 0) 0) := by rw [hf_zero]; exact hJL
    clear m2 b3 b12 CT m4 b13 j4 b4 hJL b14 hg CN
    go_wp2_with fail
    go_loopw [7] (fun s7 wr => ∃ i : Nat, s7 = .int .i64 (i : Int) ∧ i ≤ L1 ∧ Hid (JL w4 wr (fun k => k = g) g (hf bs i) 0)) (fun s7 _ => L1 - (intOf s7).toNat)
    case atStart => exact ⟨0, rfl, by omega, hJ0⟩
    case round =>
      clear hJ0
      obtain ⟨i, rfl, hi, HJ⟩ := hrel
      by_cases hlt : i < L1
      · have d1 : decide ((i : Int) < (L1 : Int)) = true := by simp; omega
        obtain ⟨b, off, B, d, hA, hbR, kc, ob, hB⟩ := HM.out.get i hlt
        subst hA
        rw [show (msgs bs).getD i [] = mg bs i from msk_get _ _ i (by rw [HL1.out]; exact hlt)] at kc ob
        have hb2 := HR.out b hbR
        have kc' := (World.cell?_of_block (w := w4) (w' := wr) (a := ⟨b, off + i, none⟩) (HJ.out.kr.block b hb2.1 hb2.2)).trans kc
        have CTk := jlNext i HJ.out HR.out B d ob hB (by have := HL1.out; omega) (by omega) (by rw [HBL.out]; omega)
        have eL : (L1 : Int) - 1 = ((L1 - 1 : Nat) : Int) := by omega
        obtain ⟨l0, hl0⟩ : ∃ l0, l0 = L1 - 1 := ⟨_, rfl⟩
        have wL : IntKind.i64.wrap ((L1 : Int) - 1) = (l0 : Int) := by rw [eL, ← hl0]; exact IntWalk.i64_in _ (by omega)
        have eL' : (L1 : Int) - 1 = (l0 : Int) := by omega
        obtain ⟨ml, hml⟩ : ∃ ml, ml = (mg bs i).length := ⟨_, rfl⟩
        rw [← hml] at kc' CTk
        have f1 : (i : Int) < (L1 : Int) := by omega
        by_cases hlast : i = lst bs.length
        · rw [decide_eq_true hlast] at CTk
          have ht : ((i : Int) == (l0 : Int)) = true := by have := HL1.out; simp; omega
          have HC := Lib.hid CTk
          have HI1 := Lib.hid (show i + 1 ≤ L1 by omega)
          clear CTk hlast hml hl0 kc ob eL
          go_wp2_with (go_at_call 13; refine HC.out.mono ?_; rintro e w5 ⟨j5, h5⟩; rw [if_pos rfl] at h5; obtain ⟨A5, c5, rfl, o5⟩ := h5; rw [HBL.out]; have tn : ((n : Int) != (n : Int)) = false := by simp)
          go_roundw
          case rel => exact ⟨i + 1, by go_num, HI1.out, j5⟩
          case measure => simp [intOf] <;> omega
        · rw [decide_eq_false hlast] at CTk
          have ht : ((i : Int) == (l0 : Int)) = false := by have := HL1.out; simp; omega
          have HC := Lib.hid CTk
          have HI1 := Lib.hid (show i + 1 ≤ L1 by omega)
          clear CTk hlast hml hl0 kc ob eL
          go_wp2_with (go_at_call 13; refine HC.out.mono ?_; rintro e w5 ⟨j5, h5⟩; rw [if_neg (by simp)] at h5; subst h5)
          go_roundw
          case rel => exact ⟨i + 1, by go_num, HI1.out, j5⟩
          case measure => simp [intOf] <;> omega
      · have d1 : decide ((i : Int) < (L1 : Int)) = false := by simp; omega
        have hbel : Hid (Below w.heap.size w wr) := HB14.out.trans (HJ.out.kr.below (fun k hk => by have : k = g := hk; rw [this]; exact HGW.out) HB14.out.size)
        go_wp2
        go_ret
        exact ⟨rfl, hbel.out⟩
  · have CS := Lib.hid (fun W (g : Nat) => pSplitNo (some ⟨g, 0, none⟩) n n W (by omega))
    have d0 : decide ((n : Int) ≤ 65536) = false := by simp; omega
    clear hok
    go_enter Try.func4, Try.ntmps4
    go_wp2_with (first | (at_make; refine wpList_make_full _ rfl _ _ 22 rfl w.heap.size 5 i0 (.int .u8 0) 1 Try.underlying22 hi0 hz0 hz1 .i64 .i64 _ _ n rfl rfl (by first | rfl | omega) (by first | rfl | omega) (by rw [hz2]; omega) (by unfold maxLen; omega) (Nat.le_refl _) ?_; intro w1 hown1 hgrow1) | (go_at_call 9; refine (CS.out w1 w.heap.size).mono ?_; rintro e w2 ⟨rfl, rfl⟩) | (go_at_call 12; refine (CT.out _).mono ?_; rintro e w3 ⟨rfl, b3⟩))
    have b1 : Below w.heap.size w w1 := (Below.refl _ _).grown hgrow1 (Nat.le_refl _) (fun k h => by cases h)
    go_ret
    exact ⟨rfl, Below.then_ b1 b3⟩
end Go.Proofs.Ytoiibjblaafgpab
