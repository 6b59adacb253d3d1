/-
  Layer 34: the reference's Split.
-/
import Derived.Test.YtoiibjblaafgpabPib
namespace Go.Proofs.Ytoiibjblaafgpab
open Go.RowKit
set_option linter.unusedVariables false
set_option linter.unusedSimpArgs false
set_option maxRecDepth 100000

theorem Rd.mid8_ {w : World} {B : Nat} {b off n : Nat} {bs : List Nat} (h : Rd w B (some ⟨b, off, none⟩) n (U8 bs)) (p k : Nat) (hm : p + k ≤ n) (hn : 0 < n) : Rd w B (some ⟨b, off + p, none⟩) k (U8 ((bs.drop p).take k)) :=
  (h.from8_ p (by omega) hn).cut8 k (by omega)
set_option maxHeartbeats 4000000 in
/-- The reference's Split, of some bytes. -/
theorem refSplit34Pos (b off : Nat) (n c : Nat) (bs : List Nat) (w : World) (hr : Rd w w.heap.size (some ⟨b, off, none⟩) n (U8 bs)) (hn0 : 0 < n) (hnc : n ≤ c) (hc : c ≤ 9223372036854775807) (hn : n ≤ 65536) :
    Calls Try.prog 10 #[.slice (some ⟨b, off, none⟩) n c] w fun e w' => ∃ A' c', e = .returned (.slice A' (lst bs.length + 1) c') ∧ SplitOk w bs A' c' w' := by
  obtain ⟨i0, hi0, hz0, hz1, hz2⟩ := info_parts info5
  obtain ⟨j0, hj0, hy0, hy1, hy2⟩ := info_parts infoSl8
  have HN := Lib.hid hr.len8
  have hsl : ∀ (A : Option Addr) (n c : Nat), (Value.slice A n c).oneCell' = true := fun _ _ _ => rfl
  have HSL := Lib.hid hsl
  have HFO := Lib.hid (fun (h : Nat) (w1 : World) => (show Own (w1.alloc (.cells #[.int .u8 (h : Int)] 5)) w1.heap.size 5 (some ⟨w1.heap.size, 0, none⟩) 1 1 [.int .u8 (h : Int)] from ⟨⟨by simp, .inr ⟨w1.heap.size, 1, _, rfl, Nat.le_refl _, heap_alloc_new w1 _, Nat.le_refl _, by unfold maxLen; omega, by simp, by simp⟩⟩⟩))
  obtain ⟨L, hL⟩ : ∃ L, L = lst bs.length := ⟨_, rfl⟩
  have HLS := Lib.hid hL
  have hLb : L ≤ 2000 := by rw [hL, ← hr.len8]; unfold lst; omega
  have HL1 : Hid (∀ i, i < L + 1 ↔ (i = 0 ∨ 63 * i < n)) := fun i => by rw [hL, ← hr.len8]; unfold lst; omega
  have HL2 : Hid (∀ i, i < L + 1 → (i = L ↔ n ≤ 63 * i + 63)) := fun i hi => by rw [hL, ← hr.len8] at *; unfold lst at *; omega
  rw [← hL]
  clear hsl hL
  go_enter Try.func10, Try.ntmps10
  go_wp2
  go_loopw [3, 4] (fun s3 s4 wr => ∃ (i : Nat) (A1 : Option Addr) (c1 : Nat), s3 = .slice A1 i c1 ∧ s4 = .int .i64 (i : Int) ∧ i ≤ L + 1 ∧ Mrow wr 22 (fun k => w.heap.size ≤ k ∧ k < wr.heap.size) A1 i c1 (msk bs i) ∧ Below w.heap.size w wr) (fun _ s4 _ => L + 1 - (intOf s4).toNat)
  case atStart => exact ⟨0, none, 0, rfl, rfl, by omega, Mrow.nil _ _ _, Below.refl _ _⟩
  case round =>
    obtain ⟨i, A1, c1, rfl, rfl, hi, m1, bw⟩ := hrel
    obtain ⟨hs, oh, hl, hm⟩ := m1.at_
    have HM := Lib.hid hm
    have hsz := bw.size
    obtain ⟨p, hp⟩ : ∃ p, p = 63 * i := ⟨_, rfl⟩
    have ep : 63 * (i : Int) = (p : Int) := by omega
    have hp2 : p ≤ 63 * 2001 := by omega
    have wp : IntKind.i64.wrap (63 * (i : Int)) = (p : Int) := by rw [ep]; exact IntWalk.i64_in _ (by omega)
    by_cases hlt : i < L + 1
    · have hcond := (HL1.out i).1 hlt
      have hlast := HL2.out i hlt
      rw [← hp] at hcond hlast
      have hpn : p < n := by omega
      -- the part
      obtain ⟨q, hq⟩ : ∃ q, q = min (p + 63) n := ⟨_, rfl⟩
      have mq1 : (if (n : Int) < (p : Int) + 63 then (n : Int) else (p : Int) + 63) = (q : Int) := by split <;> omega
      have mq2 : min ((p : Int) + 63) (n : Int) = (q : Int) := by omega
      have hpq : p ≤ q ∧ q ≤ n ∧ q - p ≤ 63 := by omega
      have HPL : Hid ((part bs i).length = q - p) := by unfold Hid; rw [part_length, ← HN.out, ← hp]; omega
      have HRP : Hid (∀ W, Below w.heap.size w W → Rd W w.heap.size (some ⟨b, off + p, none⟩) (q - p) (U8 (part bs i))) := fun W hW => by
        refine ⟨by rw [U8_length]; exact HPL.out, fun h0 => ?_⟩
        have h1 := (hr.below hW).mid8_ p (q - p) (by omega) (by omega)
        obtain ⟨b', off', e, hlt', hcc⟩ := h1.at_ h0
        injection e with e
        injection e with e1 e2
        subst e1 e2
        refine ⟨b, off + p, rfl, hlt', fun j u hu => hcc j u ?_⟩
        have : part bs i = (bs.drop p).take (q - p) := by
          unfold part
          rw [← hp]
          by_cases hx : q - p = 63
          · rw [hx]
          · rw [List.take_of_length_le (by rw [List.length_drop, ← HN.out]; omega), List.take_of_length_le (by rw [List.length_drop, ← HN.out]; omega)]
        rw [← this]; exact hu
      obtain ⟨k, hk⟩ : ∃ k, k = q - p := ⟨_, rfl⟩
      have ek : q - p = k := hk.symm
      have ek2 : (q : Int) - (p : Int) = (k : Int) := by omega
      have ek3 : ((q : Int) - (p : Int)).toNat = k := by omega
      have hk63 : k ≤ 63 := by omega
      rw [← hk] at HPL HRP
      have t1 : ((i : Int).tmod 64) = ((i % 64 : Nat) : Int) := by simp [Int.tmod]
      have t1' : ((i : Int) % 64) = ((i % 64 : Nat) : Int) := by simp
      have hmm : i % 64 < 64 := Nat.mod_lt _ (by omega)
      have HMG : Hid (mg bs i = hd i (lbit bs.length i) :: part bs i) := rfl
      have HLB : Hid (lbit bs.length i = if i = L then 64 else 0) := by unfold Hid lbit; rw [HLS.out]
      have HHD : Hid (∀ l, hd i l = i % 64 + l + (if i = 0 then 128 else 0)) := fun l => rfl
      obtain ⟨m, hmdef⟩ : ∃ m, m = i % 64 := ⟨_, rfl⟩
      rw [← hmdef] at t1 t1' hmm HHD
      have HO := Lib.hid oh
      have HMr := Lib.hid m1
      have HI := Lib.hid hi
      have dn : decide ((p : Int) < (n : Int)) = decide (p < n) := by apply decide_eq_decide.2; omega
      clear m1 oh hl
      obtain ⟨h, hh⟩ : ∃ h, h = hd i (lbit bs.length i) := ⟨_, rfl⟩
      have hh2 : h < 256 := by rw [hh]; exact hd_lt _ _ (lbit_or _ _)
      rw [← hh] at HMG
      have HHV : Hid (h = m + (if i = L then 64 else 0) + (if i = 0 then 128 else 0)) := by unfold Hid; rw [hh, HHD.out, HLB.out]
      have e8 : IntKind.u8.wrap (h : Int) = (h : Int) := IntWalk.u8_in _ (by omega)
      have HF := Lib.hid (fun W => HFO.out h W)
      have HE : Hid (Value.int .u8 (h : Int) :: U8 (part bs i) = U8 (mg bs i)) := by unfold Hid; rw [HMG.out]; rfl
      have HML : Hid ((mg bs i).length = 1 + k) := by unfold Hid; rw [HMG.out, List.length_cons, HPL.out]; omega
      have hi1 : i + 1 ≤ L + 1 := by omega
      have HP := Lib.hid hp
      clear hh hk HHD hmdef HLB hp hq
      have b2F : Hid (∀ (W : World) (row : Option Nat), (wr.alloc (.cells #[.int .u8 (h : Int)] 5)).grownBy W row → row = some wr.heap.size → Below wr.heap.size wr W) := fun W row g e => ((Below.refl _ _).alloc (Nat.le_refl _) _).grown g (by simp) (fun j hj => by rw [e] at hj; injection hj with hj; omega)
      by_cases hi0i : i = 0
      · have d0 : ((i : Int) == 0) = true := by simp; omega
        rw [if_pos hi0i] at HHV
        by_cases hiL : i = L
        · have d2 : decide ((p : Int) + 63 ≥ (n : Int)) = true := by simp; omega
          have d2' : decide ((n : Int) ≤ (p : Int) + 63) = true := by simp; omega
          rw [if_pos hiL] at HHV
          have eh : (m : Int) + 128 + 64 = (h : Int) := by have := HHV.out; omega
          clear HHV hcond hlast hi0i hiL
          go_wp2_with (first | (at_builtin; refine wpList_app _ rfl _ _ 22 rfl wr.heap.size 5 i0 _ 1 Try.underlying22 hi0 hz0 hz1 hz2 rfl _ 1 1 [.int .u8 (h : Int)] rfl (HF.out _) w.heap.size _ k _ (U8 (part bs i)) rfl (HRP.out _ (bw.trans (((Below.refl _ _).alloc (Nat.le_refl _) _).mono hsz))) (fun e => by cases e) (U8_one _) (by omega) (by unfold maxLen; omega) (by simp) ?_; intro A2 c2 w2 o2 g2) | (at_builtin; refine app1 w2 rfl _ _ 24 22 rfl j0 _ 24 Try.underlying24 hj0 hy0 hy1 hy2 rfl 0 A1 i c1 hs (.slice A2 (1 + k) c2) (HSL.out _ _ _) rfl (HO.out.below (b2F.out w2 _ g2 rfl) (Nat.le_refl _)) rfl (by omega) (by unfold maxLen; omega) (Nat.zero_le _) ?_; intro A3 c3 w3 o3 g3 l3))
          have b2 := b2F.out w2 _ g2 rfl
          have o2' := (o2.to rfl HE.out)
          rw [← HML.out] at o2' o3
          have hM3 := mrow_push HMr.out hsz HO.out HM.out b2 o2' o3 g3 l3
          rw [← msk_succ] at hM3
          have bw3 : Below w.heap.size w w3 := (bw.trans (b2.mono hsz)).grown g3 (Nat.le_trans hsz b2.size) (fun k hk => by rw [blk_own] at hk; exact (HMr.out.blks k hk).1)
          go_roundw
          case rel => exact ⟨i + 1, A3, c3, rfl, by go_num, hi1, hM3, bw3⟩
          case measure => simp [intOf] <;> omega
        · have d2 : decide ((p : Int) + 63 ≥ (n : Int)) = false := by simp; omega
          have d2' : decide ((n : Int) ≤ (p : Int) + 63) = false := by simp; omega
          rw [if_neg hiL] at HHV
          have eh : (m : Int) + 128 = (h : Int) := by have := HHV.out; omega
          clear HHV hcond hlast hi0i
          go_wp2_with (first | (at_builtin; refine wpList_app _ rfl _ _ 22 rfl wr.heap.size 5 i0 _ 1 Try.underlying22 hi0 hz0 hz1 hz2 rfl _ 1 1 [.int .u8 (h : Int)] rfl (HF.out _) w.heap.size _ k _ (U8 (part bs i)) rfl (HRP.out _ (bw.trans (((Below.refl _ _).alloc (Nat.le_refl _) _).mono hsz))) (fun e => by cases e) (U8_one _) (by omega) (by unfold maxLen; omega) (by simp) ?_; intro A2 c2 w2 o2 g2) | (at_builtin; refine app1 w2 rfl _ _ 24 22 rfl j0 _ 24 Try.underlying24 hj0 hy0 hy1 hy2 rfl 0 A1 i c1 hs (.slice A2 (1 + k) c2) (HSL.out _ _ _) rfl (HO.out.below (b2F.out w2 _ g2 rfl) (Nat.le_refl _)) rfl (by omega) (by unfold maxLen; omega) (Nat.zero_le _) ?_; intro A3 c3 w3 o3 g3 l3))
          have b2 := b2F.out w2 _ g2 rfl
          have o2' := (o2.to rfl HE.out)
          rw [← HML.out] at o2' o3
          have hM3 := mrow_push HMr.out hsz HO.out HM.out b2 o2' o3 g3 l3
          rw [← msk_succ] at hM3
          have bw3 : Below w.heap.size w w3 := (bw.trans (b2.mono hsz)).grown g3 (Nat.le_trans hsz b2.size) (fun k hk => by rw [blk_own] at hk; exact (HMr.out.blks k hk).1)
          go_roundw
          case rel => exact ⟨i + 1, A3, c3, rfl, by go_num, hi1, hM3, bw3⟩
          case measure => simp [intOf] <;> omega
      · have d0 : ((i : Int) == 0) = false := by simp; omega
        rw [if_neg hi0i] at HHV
        by_cases hiL : i = L
        · have d2 : decide ((p : Int) + 63 ≥ (n : Int)) = true := by simp; omega
          have d2' : decide ((n : Int) ≤ (p : Int) + 63) = true := by simp; omega
          rw [if_pos hiL] at HHV
          have eh : (m : Int) + 64 = (h : Int) := by have := HHV.out; omega
          have d3 : decide ((p : Int) < (n : Int)) = true := by simp; omega
          clear HHV hcond hlast hiL
          go_wp2_with (first | (at_builtin; refine wpList_app _ rfl _ _ 22 rfl wr.heap.size 5 i0 _ 1 Try.underlying22 hi0 hz0 hz1 hz2 rfl _ 1 1 [.int .u8 (h : Int)] rfl (HF.out _) w.heap.size _ k _ (U8 (part bs i)) rfl (HRP.out _ (bw.trans (((Below.refl _ _).alloc (Nat.le_refl _) _).mono hsz))) (fun e => by cases e) (U8_one _) (by omega) (by unfold maxLen; omega) (by simp) ?_; intro A2 c2 w2 o2 g2) | (at_builtin; refine app1 w2 rfl _ _ 24 22 rfl j0 _ 24 Try.underlying24 hj0 hy0 hy1 hy2 rfl 0 A1 i c1 hs (.slice A2 (1 + k) c2) (HSL.out _ _ _) rfl (HO.out.below (b2F.out w2 _ g2 rfl) (Nat.le_refl _)) rfl (by omega) (by unfold maxLen; omega) (Nat.zero_le _) ?_; intro A3 c3 w3 o3 g3 l3))
          have b2 := b2F.out w2 _ g2 rfl
          have o2' := (o2.to rfl HE.out)
          rw [← HML.out] at o2' o3
          have hM3 := mrow_push HMr.out hsz HO.out HM.out b2 o2' o3 g3 l3
          rw [← msk_succ] at hM3
          have bw3 : Below w.heap.size w w3 := (bw.trans (b2.mono hsz)).grown g3 (Nat.le_trans hsz b2.size) (fun k hk => by rw [blk_own] at hk; exact (HMr.out.blks k hk).1)
          go_roundw
          case rel => exact ⟨i + 1, A3, c3, rfl, by go_num, hi1, hM3, bw3⟩
          case measure => simp [intOf] <;> omega
        · have d2 : decide ((p : Int) + 63 ≥ (n : Int)) = false := by simp; omega
          have d2' : decide ((n : Int) ≤ (p : Int) + 63) = false := by simp; omega
          rw [if_neg hiL] at HHV
          have eh : (m : Int) = (h : Int) := by have := HHV.out; omega
          have d3 : decide ((p : Int) < (n : Int)) = true := by simp; omega
          clear HHV hcond hlast
          go_wp2_with (first | (at_builtin; refine wpList_app _ rfl _ _ 22 rfl wr.heap.size 5 i0 _ 1 Try.underlying22 hi0 hz0 hz1 hz2 rfl _ 1 1 [.int .u8 (h : Int)] rfl (HF.out _) w.heap.size _ k _ (U8 (part bs i)) rfl (HRP.out _ (bw.trans (((Below.refl _ _).alloc (Nat.le_refl _) _).mono hsz))) (fun e => by cases e) (U8_one _) (by omega) (by unfold maxLen; omega) (by simp) ?_; intro A2 c2 w2 o2 g2) | (at_builtin; refine app1 w2 rfl _ _ 24 22 rfl j0 _ 24 Try.underlying24 hj0 hy0 hy1 hy2 rfl 0 A1 i c1 hs (.slice A2 (1 + k) c2) (HSL.out _ _ _) rfl (HO.out.below (b2F.out w2 _ g2 rfl) (Nat.le_refl _)) rfl (by omega) (by unfold maxLen; omega) (Nat.zero_le _) ?_; intro A3 c3 w3 o3 g3 l3))
          have b2 := b2F.out w2 _ g2 rfl
          have o2' := (o2.to rfl HE.out)
          rw [← HML.out] at o2' o3
          have hM3 := mrow_push HMr.out hsz HO.out HM.out b2 o2' o3 g3 l3
          rw [← msk_succ] at hM3
          have bw3 : Below w.heap.size w w3 := (bw.trans (b2.mono hsz)).grown g3 (Nat.le_trans hsz b2.size) (fun k hk => by rw [blk_own] at hk; exact (HMr.out.blks k hk).1)
          go_roundw
          case rel => exact ⟨i + 1, A3, c3, rfl, by go_num, hi1, hM3, bw3⟩
          case measure => simp [intOf] <;> omega
    · have hcond : ¬ (i = 0 ∨ 63 * i < n) := fun hc => hlt ((HL1.out i).2 hc)
      have d0 : ((i : Int) == 0) = false := by simp; omega
      have d1 : decide ((p : Int) < (n : Int)) = false := by simp; omega
      have hiL : i = L + 1 := by omega
      have hp3 : ¬ (p : Int) < (n : Int) := by omega
      have HX : Hid (Mrow wr 22 (fun k => w.heap.size ≤ k ∧ k < wr.heap.size) A1 (L + 1) c1 (msgs bs)) := by unfold Hid msgs; rw [← HLS.out, ← hiL]; exact m1
      have HIL := Lib.hid hiL
      clear hiL hcond oh m1 hlt hi hp
      go_wp2
      go_ret
      exact ⟨A1, c1, by rw [HIL.out]; rfl, by have := HX.out; rw [HLS.out] at this; exact this, bw⟩
theorem mg_nil : mg [] 0 = [192] := rfl
set_option maxHeartbeats 2000000 in
/-- The reference's Split, of none. -/
theorem refSplit34Zero (A : Option Addr) (c : Nat) (w : World) (hnone : A = none → c = 0) (hsp : ∀ ad, A = some ad → ad.spot = none) :
    Calls Try.prog 10 #[.slice A 0 c] w fun e w' => ∃ A' c', e = .returned (.slice A' 1 c') ∧ SplitOk w [] A' c' w' := by
  obtain ⟨i0, hi0, hz0, hz1, hz2⟩ := info_parts info5
  obtain ⟨j0, hj0, hy0, hy1, hy2⟩ := info_parts infoSl8
  have hsl : ∀ (A : Option Addr) (n c : Nat), (Value.slice A n c).oneCell' = true := fun _ _ _ => rfl
  have HSL := Lib.hid hsl
  have HF : Hid (Own (w.alloc (.cells #[.int .u8 192] 5)) w.heap.size 5 (some ⟨w.heap.size, 0, none⟩) 1 1 [.int .u8 192]) := ⟨⟨by simp, .inr ⟨w.heap.size, 1, _, rfl, Nat.le_refl _, heap_alloc_new w _, Nat.le_refl _, by unfold maxLen; omega, by simp, by simp⟩⟩⟩
  have e8 : IntKind.u8.wrap 192 = 192 := by decide
  have b2F : Hid (∀ (W : World) (row : Option Nat), (w.alloc (.cells #[.int .u8 192] 5)).grownBy W row → row = some w.heap.size → Below w.heap.size w W) := fun W row g e => ((Below.refl _ _).alloc (Nat.le_refl _) _).grown g (by simp) (fun j hj => by rw [e] at hj; injection hj with hj; omega)
  have HR : Hid (∀ (B : Option Addr) (W : World), Rd W w.heap.size B 0 []) := fun B W => ⟨rfl, fun h => absurd h (by omega)⟩
  have HM0 : Hid (Mrow w 22 (fun k => w.heap.size ≤ k ∧ k < w.heap.size) none 0 0 []) := Mrow.nil _ _ _
  have HO0 : Hid (Own w 0 22 none 0 0 []) := Own.nil _ _ _
  clear hsl
  cases A with
  | none =>
    obtain rfl := hnone rfl
    clear hnone
    go_enter Try.func10, Try.ntmps10
    go_wp2
    refine wp_loop_rounds 2 ?_
    rw [rounds_succ]
    go_wp2_with (first | (at_builtin; refine wpList_app _ rfl _ _ 22 rfl w.heap.size 5 i0 _ 1 Try.underlying22 hi0 hz0 hz1 hz2 rfl _ 1 1 [.int .u8 192] rfl HF.out w.heap.size none 0 0 [] rfl (HR.out _ _) (fun e => ⟨rfl, rfl⟩) (fun u hu => by cases hu) (by omega) (by unfold maxLen; omega) (by simp) ?_; intro A2 c2 w2 o2 g2) | (at_builtin; refine app1 w2 rfl _ _ 24 22 rfl j0 _ 24 Try.underlying24 hj0 hy0 hy1 hy2 rfl 0 none 0 0 [] (.slice A2 1 c2) (HSL.out _ _ _) rfl (HO0.out.below (b2F.out w2 _ g2 rfl) (Nat.le_refl _)) rfl (by omega) (by unfold maxLen; omega) (Nat.zero_le _) ?_; intro A3 c3 w3 o3 g3 l3))
    rw [rounds_succ]
    have b2 := b2F.out w2 _ g2 rfl
    have hM3 := mrow_push (bs := mg [] 0) HM0.out (Nat.le_refl _) HO0.out (fun j hj => absurd hj (by omega)) b2 o2 o3 g3 l3
    have bw3 : Below w.heap.size w w3 := b2.grown g3 b2.size (fun k hk => by cases hk)
    go_wp2
    go_ret
    exact ⟨A3, c3, rfl, hM3, bw3⟩
  | some ad =>
    obtain ⟨b, off, spot⟩ := ad
    obtain rfl : spot = none := hsp _ rfl
    clear hnone hsp
    by_cases hc : c = 0
    · subst hc
      go_enter Try.func10, Try.ntmps10
      go_wp2
      refine wp_loop_rounds 2 ?_
      rw [rounds_succ]
      go_wp2_with (first | (at_builtin; refine wpList_app _ rfl _ _ 22 rfl w.heap.size 5 i0 _ 1 Try.underlying22 hi0 hz0 hz1 hz2 rfl _ 1 1 [.int .u8 192] rfl HF.out w.heap.size _ 0 _ [] rfl (HR.out _ _) (fun e => by cases e) (fun u hu => by cases hu) (by omega) (by unfold maxLen; omega) (by simp) ?_; intro A2 c2 w2 o2 g2) | (at_builtin; refine app1 w2 rfl _ _ 24 22 rfl j0 _ 24 Try.underlying24 hj0 hy0 hy1 hy2 rfl 0 none 0 0 [] (.slice A2 1 c2) (HSL.out _ _ _) rfl (HO0.out.below (b2F.out w2 _ g2 rfl) (Nat.le_refl _)) rfl (by omega) (by unfold maxLen; omega) (Nat.zero_le _) ?_; intro A3 c3 w3 o3 g3 l3))
      rw [rounds_succ]
      have b2 := b2F.out w2 _ g2 rfl
      have hM3 := mrow_push (bs := mg [] 0) HM0.out (Nat.le_refl _) HO0.out (fun j hj => absurd hj (by omega)) b2 o2 o3 g3 l3
      have bw3 : Below w.heap.size w w3 := b2.grown g3 b2.size (fun k hk => by cases hk)
      go_wp2
      go_ret
      exact ⟨A3, c3, rfl, hM3, bw3⟩
    · have hc2 : 0 < c := by omega
      go_enter Try.func10, Try.ntmps10
      go_wp2
      refine wp_loop_rounds 2 ?_
      rw [rounds_succ]
      go_wp2_with (first | (at_builtin; refine wpList_app _ rfl _ _ 22 rfl w.heap.size 5 i0 _ 1 Try.underlying22 hi0 hz0 hz1 hz2 rfl _ 1 1 [.int .u8 192] rfl HF.out w.heap.size _ 0 _ [] rfl (HR.out _ _) (fun e => by cases e) (fun u hu => by cases hu) (by omega) (by unfold maxLen; omega) (by simp) ?_; intro A2 c2 w2 o2 g2) | (at_builtin; refine app1 w2 rfl _ _ 24 22 rfl j0 _ 24 Try.underlying24 hj0 hy0 hy1 hy2 rfl 0 none 0 0 [] (.slice A2 1 c2) (HSL.out _ _ _) rfl (HO0.out.below (b2F.out w2 _ g2 rfl) (Nat.le_refl _)) rfl (by omega) (by unfold maxLen; omega) (Nat.zero_le _) ?_; intro A3 c3 w3 o3 g3 l3))
      rw [rounds_succ]
      have b2 := b2F.out w2 _ g2 rfl
      have hM3 := mrow_push (bs := mg [] 0) HM0.out (Nat.le_refl _) HO0.out (fun j hj => absurd hj (by omega)) b2 o2 o3 g3 l3
      have bw3 : Below w.heap.size w w3 := b2.grown g3 b2.size (fun k hk => by cases hk)
      go_wp2
      go_ret
      exact ⟨A3, c3, rfl, hM3, bw3⟩
theorem refSplit34 (A : Option Addr) (n c : Nat) (bs : List Nat) (w : World) (hr : Rd w w.heap.size A n (U8 bs)) (hnone : A = none → n = 0 ∧ c = 0) (hnc : n ≤ c) (hc : c ≤ 9223372036854775807) (hn : n ≤ 65536) (hsp : ∀ ad, A = some ad → ad.spot = none) :
    Calls Try.prog 10 #[.slice A n c] w fun e w' => ∃ A' c', e = .returned (.slice A' (lst bs.length + 1) c') ∧ SplitOk w bs A' c' w' := by
  by_cases h : 0 < n
  · obtain ⟨b, off, rfl, _⟩ := hr.at_ h
    have := refSplit34Pos b off n c bs w hr h hnc hc hn
    exact this
  · obtain rfl : n = 0 := by omega
    have hl := hr.len8
    obtain rfl : bs = [] := List.eq_nil_of_length_eq_zero hl.symm
    exact refSplit34Zero A c w (fun e => (hnone e).2) hsp
end Go.Proofs.Ytoiibjblaafgpab
