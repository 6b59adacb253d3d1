/-
  Layer 9's reference: Brute.
-/
import Derived.Test.YtlnjealhiikmeabDoorVj
namespace Go.Proofs.YtlnjealhiikmeabDoor
open Go.RowKit
set_option linter.unusedVariables false
set_option linter.unusedSimpArgs false

theorem bin_get : ∀ (n k j : Nat), j < n → (Cv.bin n k).getD j 0 = k / 2 ^ (n - 1 - j) % 2
  | n + 1, k, 0, _ => by simp [Cv.bin]
  | n + 1, k, j + 1, h => by
    show (Cv.bin n k).getD j 0 = _
    rw [bin_get n k j (by omega), show n - 1 - j = n + 1 - 1 - (j + 1) by omega]
theorem bin_take (n k j m : Nat) (h : j + (m + 1) = n) : (Cv.bin n k).take (j + 1) = (Cv.bin n k).take j ++ [k / 2 ^ m % 2] := by
  have hl : j < (Cv.bin n k).length := by rw [Cv.bin_length]; omega
  have e := bin_get n k j (by omega)
  rw [show n - 1 - j = m by omega] at e
  rw [List.take_succ_eq_append_getElem hl, ← e, Bm.getD_lt _ _ _ hl]
/-- What is the best behind K lists. -/
def TopAt (l : List Int) (n K m : Nat) (bs : List Nat) (sc : Int) : Prop :=
  (K = 0 ∧ m = 0 ∧ bs = [] ∧ sc = -1099511627776) ∨ (0 < K ∧ m = n ∧ Cv.Top (fun c => Cv.score l (Cv.code c)) n K bs ∧ sc = Cv.score l (Cv.code bs))
theorem TopAt.more {l : List Int} {n K m : Nat} {bs : List Nat} {sc : Int} (h : TopAt l n K m bs sc) (hlt : sc < Cv.score l (Cv.code (Cv.bin n K))) : TopAt l n (K + 1) n (Cv.bin n K) (Cv.score l (Cv.code (Cv.bin n K))) := by
  rcases h with ⟨rfl, _, _, _⟩ | ⟨h1, rfl, h2, rfl⟩
  · exact .inr ⟨by omega, rfl, Cv.Top.one _ n, rfl⟩
  · exact .inr ⟨by omega, rfl, h2.more hlt, rfl⟩
theorem TopAt.same {l : List Int} {n K m : Nat} {bs : List Nat} {sc : Int} (h : TopAt l n K m bs sc) (hlt : ¬ sc < Cv.score l (Cv.code (Cv.bin n K))) (hb : -1099511627776 < Cv.score l (Cv.code (Cv.bin n K))) : TopAt l n (K + 1) m bs sc := by
  rcases h with ⟨rfl, _, _, rfl⟩ | ⟨h1, rfl, h2, rfl⟩
  · omega
  · exact .inr ⟨by omega, rfl, h2.same hlt, rfl⟩
theorem TopAt.best {l : List Int} {n m : Nat} {bs : List Nat} {sc : Int} (h : TopAt l n (2 ^ n) m bs sc) (hl : l.length = 4 * (n + 6)) : bs = Cv.rb l n 0 0 ∧ sc = Cv.mb l n 0 0 := by
  rcases h with ⟨h0, _⟩ | ⟨h1, rfl, h2, rfl⟩
  · have := Nat.two_pow_pos n; omega
  · have hb := h2.best
    have hb2 : Cv.Best (Cv.tot l) m bs := hb.congr fun c hc hx => by
      rw [Cv.score_tot l c hx (by rw [hl, hc]), Cv.score_tot l bs hb.bit (by rw [hl, hb.len])]
      exact ⟨Iff.rfl, Iff.rfl⟩
    have e := hb2.uniq (Cv.rb_best l m)
    refine ⟨e, ?_⟩
    rw [Cv.score_tot l bs hb.bit (by rw [hl, hb.len]), e, ← Cv.rb_eq]
    rfl

set_option maxHeartbeats 600000 in
/-- The reference's Brute. -/
theorem bruteC (A : Option Addr) (N n c : Nat) (l : List Int) (w : World) (hr : Rd w w.heap.size A N (I64 l)) (hin : ∀ z ∈ l, -31 ≤ z ∧ z ≤ 31) (hN : N = 4 * (n + 6)) (hn : n ≤ 7) :
    Calls Tryd.prog 12 #[.slice A N c] w fun e w' => ∃ A1 n1 c1, e = .returned (.tuple #[.slice A1 n1 c1, .int .i64 (Cv.mb l n 0 0)]) ∧ Own w' w.heap.size 5 A1 n1 c1 (U8 (Cv.rb l n 0 0)) ∧ Below w.heap.size w w' := by
  have HL := Lib.hid hr.len64
  have e0 : (N : Int) / 4 = (n : Int) + 6 := by omega
  have e2 : (n : Int) + 6 - 6 = (n : Int) := by omega
  have hN2 : N ≤ 52 := by omega
  obtain ⟨P, hP, hP0, hP1, hP2⟩ : ∃ P : Nat, 2 ^ n = P ∧ P ≤ 128 ∧ (2 : Int) ^ n = (P : Int) ∧ 0 < P := by
    refine ⟨2 ^ n, rfl, ?_, by simp, Nat.two_pow_pos n⟩
    exact Nat.le_trans (Nat.pow_le_pow_right (by omega) hn) (by omega)
  have HP := Lib.hid hP
  have HIN := Lib.hid hin
  have HN := Lib.hid hN
  clear hN hP hin
  go_enter Tryd.func12, Tryd.ntmps12
  go_wp2
  go_loopw [5, 6, 7] (fun t sc i wr => ∃ k : Nat, k ≤ P ∧ i = .int .i64 k ∧ ∃ A1 m1 c1, ∃ bs : List Nat, ∃ x : Int, t = .slice A1 m1 c1 ∧ sc = .int .i64 x ∧ Hid (TopAt l n k m1 bs x) ∧ Own wr w.heap.size 5 A1 m1 c1 (U8 bs) ∧ Below w.heap.size w wr) (fun _ _ i _ => P - (intOf i).toNat)
  case atStart => exact ⟨0, Nat.zero_le _, rfl, none, 0, 0, [], _, rfl, rfl, .inl ⟨rfl, rfl, rfl, rfl⟩, Own.nil _ _ _, Below.refl _ _⟩
  case round =>
    obtain ⟨k, hk, rfl, A1, m1, c1, bs, x, rfl, rfl, HT, hown, hbel⟩ := hrel
    have hsz := hbel.size
    by_cases hlt : k < P
    · obtain ⟨wo, rfl⟩ : ∃ wo : World, wo = wr := ⟨_, rfl⟩
      go_wp2
      go_loopw [8, 9] (fun s i wr2 => ∃ j m : Nat, j + m = n ∧ i = .int .i64 ((m : Int) - 1) ∧ ∃ A2 c2, s = .slice A2 j c2 ∧ Own wr2 wo.heap.size 5 A2 j c2 (U8 ((Cv.bin n k).take j)) ∧ Below wo.heap.size wo wr2) (fun _ i _ => (intOf i + 1).toNat)
      case atStart => exact ⟨0, n, by omega, rfl, none, 0, rfl, Own.nil _ _ _, Below.refl _ _⟩
      case round =>
        obtain ⟨j, m, hjm, rfl, A2, c2, rfl, hown2, hbel2⟩ := hrel
        have hsz2 := hbel2.size
        cases m with
        | succ m =>
          have em : ((m + 1 : Nat) : Int) - 1 = (m : Int) := by omega
          have HB := Lib.hid (bin_take n k j m hjm)
          have e1 := i64_bit k m (by omega)
          have hy : k / 2 ^ m % 2 ≤ 1 := by omega
          generalize k / 2 ^ m % 2 = y at *
          rw [em]
          go_wp2_with (at_builtin; refine app8 _ rfl _ _ rfl wo.heap.size _ _ _ _ y _ rfl rfl hown2 rfl (by omega) hsz2 ?_; intro A3 c3 w3 hown3 hgrow3)
          go_roundw
          case rel =>
            refine ⟨j + 1, m, by omega, by go_num, A3, c3, rfl, ?_, hbel2.grown hgrow3 hsz2 (fun j hj => (hown2.block j hj).1)⟩
            rw [HB.out]
            exact hown3
          case measure => simp [intOf] <;> omega
        | zero =>
          obtain rfl : j = n := by omega
          rw [List.take_of_length_le (by rw [Cv.bin_length]; omega)] at hown2
          have hb := Cv.bin_bit j k
          have hlb := Cv.bin_length j k
          have CC := Lib.hid (refCode A2 j c2 (Cv.bin j k) wr (hown2.rdOf (Below.refl _ _)) hb (by omega))
          have hlc := Cv.code_length (Cv.bin j k)
          rw [hlb, ← HN.out] at hlc
          have CS := Lib.hid (fun (W : World) (hB : Below w.heap.size w W) (A4 : Option Addr) (c4 : Nat) (hR : Rd W W.heap.size A4 N (U8 (Cv.code (Cv.bin j k)))) => refScore A A4 N c c4 l (Cv.code (Cv.bin j k)) W ((hr.below hB).up hB.size) hR HIN.out (by omega))
          have HM := Lib.hid (fun h => HT.out.more h)
          have HS := Lib.hid (fun h h2 => HT.out.same h h2)
          have hbd := (Cv.sc_bounds HIN.out (Cv.code (Cv.bin j k)) l.length)
          rw [← HL.out] at hbd
          have hlo : -1099511627776 < Cv.score l (Cv.code (Cv.bin j k)) := by unfold Cv.score; rw [← HL.out]; omega
          generalize Cv.score l (Cv.code (Cv.bin j k)) = sc at *
          generalize Cv.code (Cv.bin j k) = co at *
          clear hbd
          by_cases hgt : x < sc
          · go_wp2_with (first | (go_at_call 17; refine CC.out.mono ?_; rintro e w4 ⟨A4, n4, c4, rfl, ow4, be4⟩; have hn4 : n4 = N := (by rw [ow4.rd.len8, hlc]); subst hn4; have b4 := hbel.trans ((Below.then_ hbel2 be4).mono hsz)) | (go_at_call 16; refine (CS.out w4 b4 A4 c4 (ow4.rdOf (Below.refl _ _))).mono ?_; rintro e w' ⟨rfl, rfl⟩))
            go_roundw
            case rel => exact ⟨k + 1, by omega, by go_num, A2, j, c2, _, sc, rfl, rfl, HM.out hgt, (hown2.below be4 (Nat.le_refl _)).down hsz, b4⟩
            case measure => simp [intOf] <;> omega
          · go_wp2_with (first | (go_at_call 17; refine CC.out.mono ?_; rintro e w4 ⟨A4, n4, c4, rfl, ow4, be4⟩; have hn4 : n4 = N := (by rw [ow4.rd.len8, hlc]); subst hn4; have b4 := hbel.trans ((Below.then_ hbel2 be4).mono hsz)) | (go_at_call 16; refine (CS.out w4 b4 A4 c4 (ow4.rdOf (Below.refl _ _))).mono ?_; rintro e w' ⟨rfl, rfl⟩))
            go_roundw
            case rel => exact ⟨k + 1, by omega, by go_num, A1, m1, c1, _, x, rfl, rfl, HS.out hgt hlo, hown.below (Below.then_ hbel2 be4) (Nat.le_refl _), b4⟩
            case measure => simp [intOf] <;> omega
    · obtain rfl : k = P := by omega
      rw [← HP.out] at HT
      obtain ⟨h1, h2⟩ := HT.out.best (by rw [← HL.out]; exact HN.out)
      subst h1 h2
      go_wp2
      go_ret2
      exact ⟨A1, m1, c1, rfl, hown, hbel⟩
end Go.Proofs.YtlnjealhiikmeabDoor
