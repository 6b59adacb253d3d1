/-
  The walk of PiecesSplits.
-/
import Derived.Test.YtoiibjblaafgpabPih
import Derived.Test.YtoiibjblaafgpabPic
namespace Go.Proofs.Ytoiibjblaafgpab
open Go.RowKit
set_option linter.unusedVariables false
set_option linter.unusedSimpArgs false
set_option maxRecDepth 100000

theorem Own.spot {w : World} {base : Nat} {e : TypeId} {A : Option Addr} {n c : Nat} {xs : List Value} (h : Own w base e A n c xs) : ∀ ad, A = some ad → ad.spot = none := by
  intro ad hA
  rcases h.row.2 with ⟨hv, _⟩ | ⟨g, cap, cur, hv, rest⟩
  · injection hv with e1
    rw [hA] at e1; cases e1
  · injection hv with e1
    rw [hA] at e1
    injection e1 with e1
    rw [e1]
/-- No JT block: what a joiner tells in the end. -/
theorem jlHalf {wh w : World} {P0 : Nat → Prop} {g bad : Nat} {half : List Nat} (h : JL wh w P0 g half bad) : Calls Try.prog 14 #[.pointer (some ⟨g, 0, none⟩)] w fun e w' => e = .returned (.int .i64 (half.length : Int)) ∧ w = w' := by
  obtain ⟨P, h1, _⟩ := h.jt
  exact jHalf w P g bad half h1
theorem jlBad {wh w : World} {P0 : Nat → Prop} {g bad : Nat} {half : List Nat} (h : JL wh w P0 g half bad) : Calls Try.prog 15 #[.pointer (some ⟨g, 0, none⟩)] w fun e w' => e = .returned (.int .i64 (bad : Int)) ∧ w = w' := by
  obtain ⟨P, h1, _⟩ := h.jt
  exact jBad w P g bad half h1
set_option maxHeartbeats 4000000 in
/-- PiecesSplits: the walk. -/
theorem piecesSplits (A : Option Addr) (n0 c0 : Nat) (xs : List Nat) (x : Int) (w : World) (hr0 : Rd w w.heap.size A n0 (U8 xs)) (hxs : ∀ b ∈ xs, b < 256) (hnc : n0 ≤ c0) (hc0 : c0 ≤ 9223372036854775807) (hnone : A = none → n0 = 0 ∧ c0 = 0) :
    Calls Try.prog 3 #[.slice A n0 c0, .int .i64 x] w fun e w' => e = .returned (.bool true) ∧ Below w.heap.size w w' := by
  obtain ⟨i0, hi0, hz0, hz1, hz2⟩ := info_parts info5
  obtain ⟨n, hk, hk2, hk3⟩ := min_if n0 200
  obtain ⟨hm1, hm2⟩ := hk3 200 rfl
  clear hk3
  have r1 := hr0.cut8 n hk2
  have hlb : ∀ b ∈ xs.take n, b < 256 := take256 hxs n
  generalize xs.take n = l at *
  have bel0 : Below w.heap.size w (w.alloc (.cells #[] 5)) := (Below.refl _ _).alloc (Nat.le_refl _) _
  have hn2 : A = none → n = 0 ∧ c0 = 0 := fun h => ⟨by have := (hnone h).1; omega, (hnone h).2⟩
  have o1 : Own (w.alloc (.cells #[] 5)) w.heap.size 5 (some ⟨w.heap.size, 0, none⟩) 0 0 [] := ⟨World.ownsRow_made w #[] 0 (Nat.le_refl _) (by unfold maxLen; omega) (by simp)⟩
  obtain ⟨m, hm3, hm4⟩ : ∃ m : Nat, m < 300 ∧ ((x % 18446744073709551616) % 300) = (m : Int) := ⟨((x % 18446744073709551616) % 300).toNat, by omega, by omega⟩
  have CX := Lib.hid (fun W => textC 3 x m W (by omega) hm4)
  have CT := Lib.hid splitsC
  have CN := Lib.hid pNew
  have HLB := Lib.hid hlb
  have HLN := Lib.hid r1.len8
  clear hr0 hxs hnone hlb hm4
  go_enter Try.func3, Try.ntmps3
  go_upto_region 2 with (first
    | (go_at_call 8; refine (CX.out _).mono ?_; rintro e w2 ⟨tx, A2, rfl, htl, htb, o2, hA2, b2⟩)
    | (at_builtin; refine wpList_app _ rfl _ _ 22 rfl w.heap.size 5 i0 _ 1 Try.underlying22 hi0 hz0 hz1 hz2 rfl _ 0 0 [] rfl o1 w.heap.size A n c0 (U8 l) rfl (r1.below bel0) hn2 (U8_one l) (by omega) (by unfold maxLen; omega) bel0.size ?_; intro A1 c1 w1 hown1 hgrow1; have own1 := hown1.to (Nat.zero_add n) (List.nil_append (U8 l)); have b1 : Below w.heap.size w w1 := bel0.grown hgrow1 bel0.size (fun j hj => by simp [Value.ownBlock] at hj; omega))
    | (at_builtin; refine wpList_app _ rfl _ _ 22 rfl w.heap.size 5 i0 _ 1 Try.underlying22 hi0 hz0 hz1 hz2 rfl A1 n c1 (U8 l) rfl (own1.below b2 (Nat.le_refl _)) w2.heap.size A2 m m (U8 tx) rfl o2.rd (fun e => absurd e hA2) (U8_one tx) (by omega) (by unfold maxLen; omega) (Nat.le_trans b1.size b2.size) ?_; intro A3 c3 w3 o3 g3))
  have b3 : Below w.heap.size w w3 := (b1.trans (b2.mono b1.size)).grown g3 (Nat.le_trans b1.size b2.size) (fun j hj => (own1.block j hj).1)
  obtain ⟨bs, hbs⟩ : ∃ bs, bs = l ++ tx := ⟨_, rfl⟩
  rw [← U8_append, ← hbs] at o3
  have HBB : Hid (∀ b ∈ bs, b < 256) := by rw [hbs]; exact append_lt HLB.out htb
  obtain ⟨N, hN⟩ : ∃ N, N = n + m := ⟨_, rfl⟩
  rw [← hN] at o3
  have hN2 : N ≤ 500 := by omega
  rw [← hN]
  have HBL := Lib.hid o3.rd.len8
  clear hbs hN htb htl own1 hown1 hgrow1 o2 hA2 b2 g3 b1 o1 r1 CX hi0 hz0 hz1 hz2 HLB HLN hn2 bel0
  obtain ⟨L1, hL1⟩ : ∃ L1, L1 = lst bs.length + 1 := ⟨_, rfl⟩
  have HL1 := Lib.hid hL1.symm
  have hL1b : L1 ≤ 100 := by rw [hL1]; unfold lst; rw [← HBL.out]; omega
  have hob := o3.bounds
  have hcm : c3 ≤ 9223372036854775807 := by have := hob.2; unfold maxLen at this; omega
  have CS1 := pSplit A3 N c3 bs w3 o3.rd o3.none_ hob.1 hcm (by omega)
  rw [← hL1] at CS1
  have CS2 : ∀ W, Below w3.heap.size w3 W → Calls Try.prog 10 #[.slice A3 N c3] W fun e w' => ∃ A' c', e = .returned (.slice A' (lst bs.length + 1) c') ∧ SplitOk W bs A' c' w' := fun W hW => refSplit34 A3 N c3 bs W ((o3.rd.below hW).up hW.size) o3.none_ hob.1 hcm (by omega) o3.spot
  rw [← hL1] at CS2
  have HS1 := Lib.hid CS1
  have HS2 := Lib.hid CS2
  have HC : Hid (∀ W, Below w3.heap.size w3 W → (convert 22 9 (.slice A3 N c3)).run Try.prog W = .ok (.string (str bs)) W) := fun W hW => o3.conv W hW
  obtain ⟨s, hs⟩ : ∃ s, s = str bs := ⟨_, rfl⟩
  rw [← hs] at HC
  have HSS := Lib.hid hs
  have kc3 := HC.out w3 (Below.refl _ _)
  have ts1 : (s.toList != s.toList) = false := by simp
  have HB3 := Lib.hid b3
  have tL : ((L1 : Int) != (L1 : Int)) = false := by simp
  clear CS1 CS2 hs hL1 o3 b3 hob hcm
  go_upto_region 4 with (go_at_call 9; refine HS1.out.mono ?_; rintro e w4 ⟨A6, c6, rfl, m4, b4⟩)
  have CS2' := Lib.hid (HS2.out w4 b4)
  rw [HL1.out] at m4
  clear kc3 HS1 HS2
  go_upto_region 5 with (go_at_call 10; refine CS2'.out.mono ?_; rintro e w5 ⟨A8, c8, rfl, m5, b5⟩)
  rw [HL1.out] at m5
  have m45 := m4.after b5 (fun k hk => hk.2)
  have b35 := Below.then_ b4 b5
  clear CS2' m4
  go_upto_region 6 with (go_at_call 11; refine (CN.out _).mono ?_; rintro e w6 ⟨rfl, j6, b6⟩)
  have b36 := Below.then_ b35 b6
  have HC6 : Hid (∀ W, Below w6.heap.size w6 W → (convert 22 9 (.slice A3 N c3)).run Try.prog W = .ok (.string s) W) := fun W hW => HC.out W (Below.then_ b36 hW)
  go_upto_region 8 with (go_at_call 12; refine (CT.out _).mono ?_; rintro e w7 ⟨rfl, b7⟩; have kc7 := HC6.out w7 b7)
  have m47 := (m45.after b6 (fun k hk => by have := b5.size; omega)).after b7 (fun k hk => by have := b5.size; have := b6.size; omega)
  have m57 := (m5.after b6 (fun k hk => hk.2)).after b7 (fun k hk => by have := b6.size; omega)
  have j7 := j6.after b7
  have hJL := JL.start j7
  have HR4 : Hid (∀ k, (w3.heap.size ≤ k ∧ k < w4.heap.size) → k < w7.heap.size ∧ ¬ k = w5.heap.size) := fun k hk => by have := b5.size; have := b6.size; have := b7.size; omega
  have HR5 : Hid (∀ k, (w4.heap.size ≤ k ∧ k < w5.heap.size) → k < w7.heap.size ∧ ¬ k = w5.heap.size) := fun k hk => by have := b6.size; have := b7.size; omega
  have HB7 : Hid (Below w.heap.size w w7) := Below.then_ (Below.then_ HB3.out b36) b7
  have HGW : Hid (w.heap.size ≤ w5.heap.size) := (Below.then_ HB3.out b35).size
  obtain ⟨g, hg⟩ : ∃ g, g = w5.heap.size := ⟨_, rfl⟩
  rw [← hg] at hJL HR4 HR5 HGW m57
  rw [← hg]
  have HM4 := Lib.hid m47
  have HM5 := Lib.hid m57
  have hJ0 : Hid (JL w7 w7 (fun k => k = g) g (hf bs 0) 0) := by rw [hf_zero]; exact hJL
  clear m47 m57 m45 m5 j6 j7 b4 b5 b6 b7 b35 b36 hJL hg CN CT kc7 HC6 HC
  go_wp2_with fail
  go_loopw [10] (fun s10 wr => ∃ i : Nat, s10 = .int .i64 (i : Int) ∧ i ≤ L1 ∧ Hid (JL w7 wr (fun k => k = g) g (hf bs i) 0)) (fun s10 _ => L1 - (intOf s10).toNat)
  case atStart => exact ⟨0, rfl, by omega, hJ0⟩
  case round =>
    clear hJ0
    obtain ⟨i, rfl, hi, HJ⟩ := hrel
    by_cases hlt : i < L1
    · have d1 : decide ((i : Int) < (L1 : Int)) = true := by simp; omega
      obtain ⟨b, off, B, d, hA, hbR, kc, ob, hB⟩ := HM4.out.get i hlt
      subst hA
      obtain ⟨b8, off8, B8, d8, hA, hbR8, kc8, ob8, hB8⟩ := HM5.out.get i hlt
      subst hA
      rw [show (msgs bs).getD i [] = mg bs i from msk_get _ _ i (by rw [HL1.out]; exact hlt)] at kc ob kc8 ob8
      have hb2 := HR4.out b hbR
      have hb28 := HR5.out b8 hbR8
      have kc' := (World.cell?_of_block (w := w7) (w' := wr) (a := ⟨b, off + i, none⟩) (HJ.out.kr.block b hb2.1 hb2.2)).trans kc
      have CTk := jlNext i HJ.out HR4.out B d ob hB (by have := HL1.out; omega) (by omega) (by rw [← HBL.out]; omega)
      have eL : (L1 : Int) - 1 = ((L1 - 1 : Nat) : Int) := by omega
      obtain ⟨l0, hl0⟩ : ∃ l0, l0 = L1 - 1 := ⟨_, rfl⟩
      have wL : IntKind.i64.wrap ((L1 : Int) - 1) = (l0 : Int) := by rw [eL, ← hl0]; exact IntWalk.i64_in _ (by omega)
      have eL' : (L1 : Int) - 1 = (l0 : Int) := by omega
      have hml64 : (mg bs i).length ≤ 64 := by rw [mg_len, part_length]; omega
      -- what is read behind Take
      have HK1 : Hid (∀ w8, JL w7 w8 (fun k => k = g) g (hf bs (i + 1)) 0 → w8.cell? ⟨b, off + i, none⟩ = some (.slice B (mg bs i).length d) ∧ w8.cell? ⟨b8, off8 + i, none⟩ = some (.slice B8 (mg bs i).length d8) ∧
          (∀ W, Below w8.heap.size w8 W → (convert 22 9 (.slice B (mg bs i).length d)).run Try.prog W = .ok (.string (str (mg bs i))) W) ∧ (∀ W, Below w8.heap.size w8 W → (convert 22 9 (.slice B8 (mg bs i).length d8)).run Try.prog W = .ok (.string (str (mg bs i))) W)) := fun w8 h8 => by
        refine ⟨(World.cell?_of_block (w := w7) (w' := w8) (a := ⟨b, off + i, none⟩) (h8.kr.block b hb2.1 hb2.2)).trans kc, (World.cell?_of_block (w := w7) (w' := w8) (a := ⟨b8, off8 + i, none⟩) (h8.kr.block b8 hb28.1 hb28.2)).trans kc8, fun W hW => ?_, fun W hW => ?_⟩
        · exact (ob.heap (fun k hk => h8.same _ HR4.out k (hB k hk))).conv W hW
        · exact (ob8.heap (fun k hk => h8.same _ HR5.out k (hB8 k hk))).conv W hW
      obtain ⟨sm, hsm⟩ : ∃ sm, sm = str (mg bs i) := ⟨_, rfl⟩
      rw [← hsm] at HK1
      have tsm : (sm.toList != sm.toList) = false := by simp
      obtain ⟨ml, hml⟩ : ∃ ml, ml = (mg bs i).length := ⟨_, rfl⟩
      rw [← hml] at kc' CTk HK1 hml64
      have d64 : decide ((ml : Int) > 64) = false := by simp; omega
      have d64' : decide ((64 : Int) < (ml : Int)) = false := by simp; omega
      have f1 : (i : Int) < (L1 : Int) := by omega
      have HI1 := Lib.hid (show i + 1 ≤ L1 by omega)
      by_cases hlast : i = lst bs.length
      · rw [decide_eq_true hlast] at CTk
        have ht : ((i : Int) == (l0 : Int)) = true := by have := HL1.out; simp; omega
        have HCC := Lib.hid CTk
        clear CTk hlast hml hl0 kc ob eL hsm kc8 ob8
        go_upto_region 12 with (go_at_call 13; refine HCC.out.mono ?_; rintro e w8 ⟨j8, h8⟩; rw [if_pos rfl] at h8; obtain ⟨A9, c9, rfl, o9⟩ := h8)
        obtain ⟨k1, k2, k3, k4⟩ := HK1.out w8 j8
        have k3' : ∀ j, (convert 22 9 (.slice B ml d)).run Try.prog (w8.drewN j) = .ok (.string sm) (w8.drewN j) := fun j => k3 _ (below_drawn _)
        have k4' : ∀ j, (convert 22 9 (.slice B8 ml d8)).run Try.prog (w8.drewN j) = .ok (.string sm) (w8.drewN j) := fun j => k4 _ (below_drawn _)
        have k5' : ∀ j, (convert 22 9 (.slice A9 bs.length c9)).run Try.prog (w8.drewN j) = .ok (.string s) (w8.drewN j) := fun j => by rw [HSS.out]; exact o9.conv _ (below_drawn _)
        clear k3 k4 o9
        go_quiet (fail)
        go_wp2
        go_roundw
        case rel => exact ⟨i + 1, by go_num, HI1.out, j8.after (below_drawn _)⟩
        case measure => simp [intOf] <;> omega
      · rw [decide_eq_false hlast] at CTk
        have ht : ((i : Int) == (l0 : Int)) = false := by have := HL1.out; simp; omega
        have HCC := Lib.hid CTk
        clear CTk hlast hml hl0 kc ob eL hsm kc8 ob8
        go_upto_region 12 with (go_at_call 13; refine HCC.out.mono ?_; rintro e w8 ⟨j8, h8⟩; rw [if_neg (by simp)] at h8; subst h8)
        obtain ⟨k1, k2, k3, k4⟩ := HK1.out w8 j8
        have k3' : ∀ j, (convert 22 9 (.slice B ml d)).run Try.prog (w8.drewN j) = .ok (.string sm) (w8.drewN j) := fun j => k3 _ (below_drawn _)
        have k4' : ∀ j, (convert 22 9 (.slice B8 ml d8)).run Try.prog (w8.drewN j) = .ok (.string sm) (w8.drewN j) := fun j => k4 _ (below_drawn _)
        clear k3 k4
        go_quiet (fail)
        go_wp2
        go_roundw
        case rel => exact ⟨i + 1, by go_num, HI1.out, j8.after (below_drawn _)⟩
        case measure => simp [intOf] <;> omega
    · have d1 : decide ((i : Int) < (L1 : Int)) = false := by simp; omega
      have hje : JL w7 wr (fun k => k = g) g [] 0 := by
        have h1 := HJ.out
        rw [show i = lst bs.length + 1 by have := HL1.out; omega, hf_end] at h1
        exact h1
      have C1 := Lib.hid (jlHalf hje)
      have C2 := Lib.hid (jlBad hje)
      have hbel : Hid (Below w.heap.size w wr) := HB7.out.trans (HJ.out.kr.below (fun k hk => by have : k = g := hk; rw [this]; exact HGW.out) HB7.out.size)
      clear hje HJ
      go_wp2_with (first | (go_at_call 14; refine C1.out.mono ?_; rintro e w' ⟨rfl, rfl⟩) | (go_at_call 15; refine C2.out.mono ?_; rintro e w' ⟨rfl, rfl⟩))
      go_ret
      exact ⟨rfl, hbel.out⟩
end Go.Proofs.Ytoiibjblaafgpab
