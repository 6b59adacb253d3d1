/-
  Layer 16: the reference's Read, of all bytes (up to 120).
-/
import Derived.Test.YtkmacepodomdmaaDoorGh
import Derived.Test.YtkmacepodomdmaaDoorGb
import Derived.Test.YtkmacepodomdmaaDoorGc
import Derived.Test.YtkmacepodomdmaaDoorGd
import Derived.Test.YtkmacepodomdmaaDoorGe
import Derived.Test.YtkmacepodomdmaaDoorGf
namespace Go.Proofs.YtkmacepodomdmaaDoor
open Go.RowKit
set_option maxRecDepth 100000
set_option linter.unusedVariables false

theorem noR {w w' : World} {bs : List Nat} {er : Int} {e : Ending} (h : RNo er w e w') (hx : rdX bs ≠ .nil) (he : ErN (rdX bs) = er) : R16 w bs e w' := by
  obtain ⟨rfl, hbel⟩ := h
  have hB : rB bs = [] := by unfold rB; rw [if_neg hx]
  have hF : rF bs (.slice none 0 0) = RV 0 0 0 0 (.slice none 0 0) 0 0 := by unfold rF; rw [if_neg hx]
  refine ⟨none, 0, 0, by rw [hF, he], ?_, fun _ => rfl, by omega, hbel⟩
  rw [hB]
  exact ⟨rfl, fun h => absurd h (by omega)⟩
theorem nil_rdX : rdX [] = .told 2 := by kernel_rfl
theorem rread16 (A : Option Addr) (n c : Nat) (bs : List Nat) (w : World) (hr : Rd w w.heap.size A n (U8 bs)) (hb : ∀ b ∈ bs, b < 256) (hnc : n ≤ c) (hc : c ≤ 9223372036854775807) (hn : n ≤ 120) :
    Calls Tryd.prog 16 #[.slice A n c] w (R16 w bs) := by
  have hl := hr.len8
  by_cases h0 : n = 0
  · subst h0
    have hbs : bs = [] := List.eq_nil_of_length_eq_zero hl.symm
    subst hbs
    exact (rreadShort A c w).mono fun e w' h => noR h (by rw [nil_rdX]; simp) (by rw [nil_rdX]; rfl)
  · have hn0 : 0 < bs.length := by omega
    have hkd := kd_byte bs hb hn0
    by_cases hk : kd bs = 1 ∨ kd bs = 2
    · by_cases hs : bs.length < hdn (kd bs)
      · have hx := rdX_short hn0 hk hs
        have hhd : hdn (kd bs) = 3 + 3 * kd bs := by rcases hk with h | h <;> rw [h] <;> rfl
        exact (rreadFew A n c bs w hr hb (by omega) (kd bs) hkd.symm hk (by rw [hl, ← hhd]; exact hs)).mono fun e w' h => noR h (by rw [hx]; simp) (by rw [hx]; rfl)
      · rcases hk with hk | hk
        · have h6 : 6 ≤ bs.length := by rw [hk] at hs; have : hdn 1 = 6 := rfl; omega
          have hk' : bs.getD 0 0 / 16 = 1 := by rw [← hkd]; exact hk
          cases hok : Crc.ok16 (bs.take 6) with
          | false =>
            have hx : rdX bs = .sent 2 := by
              unfold rdX
              rw [if_neg (by omega), if_neg (by omega), if_neg hs, if_pos (by rw [hk]; exact hok)]
            exact (rreadSum A n c bs w hr hb hnc hc 1 6 hk' (.inl ⟨rfl, rfl⟩) (by omega) hok).mono fun e w' h => noR h (by rw [hx]; simp) (by rw [hx]; rfl)
          | true =>
            obtain ⟨L, hL⟩ : ∃ L, L = num (((Bm.ofBytes bs).drop 8).take 8) := ⟨_, rfl⟩
            have hx := rdX_data h6 hk hok L hL
            by_cases h1 : num (((Bm.ofBytes bs).drop 6).take 2) = 0
            · rw [if_neg (by simpa using h1)] at hx
              by_cases h2 : 64 < L
              · rw [if_pos h2] at hx
                exact (rdataLong n c A bs w hr hb hnc hc hn hk' (by omega) hok h1 (by rw [← hL]; exact h2)).mono fun e w' h => noR h (by rw [hx]; simp) (by rw [hx]; rfl)
              · rw [if_neg h2] at hx
                by_cases h3 : bs.length < L + 11
                · rw [if_pos h3] at hx
                  exact (rdataShort n c A bs w hr hb hnc hc hn hk' (by omega) hok h1 (by rw [← hL]; omega) (by rw [← hL]; omega)).mono fun e w' h => noR h (by rw [hx]; simp) (by rw [hx]; rfl)
                · rw [if_neg h3] at hx
                  by_cases h4 : L + 11 < bs.length
                  · rw [if_pos h4] at hx
                    exact (rdataTail n c A bs w hr hb hnc hc hn hk' (by omega) hok h1 (by rw [← hL]; omega) (by rw [← hL]; omega)).mono fun e w' h => noR h (by rw [hx]; simp) (by rw [hx]; rfl)
                  · rw [if_neg h4] at hx
                    have hw := wt0 ((Bm.ofBytes bs).drop (8 * (L + 4) + 54))
                    have hgd : ∀ j, ((Bm.ofBytes bs).drop (8 * (L + 4) + 54)).getD j 0 = (Bm.ofBytes bs).getD (8 * (L + 4) + 54 + j) 0 := fun j => by
                      rw [List.getD_eq_getElem?_getD, List.getElem?_drop, ← List.getD_eq_getElem?_getD]
                    by_cases h5 : Bm.wt ((Bm.ofBytes bs).drop (8 * (L + 4) + 54)) = 0
                    · rw [if_pos h5] at hx
                      refine (rdataYes n c A bs w hr hb hnc hc hn hk' (by omega) hok h1 (by rw [← hL]; omega) (by rw [← hL]; omega) (by rw [← hL]; omega) (by
                        intro j hj1 hj2
                        rw [← hL] at hj1
                        have := hw.1 h5 (j - (8 * (L + 4) + 54)) (by rw [List.length_drop]; omega)
                        rw [hgd, show 8 * (L + 4) + 54 + (j - (8 * (L + 4) + 54)) = j by omega] at this
                        exact this)).mono ?_
                      rintro e w' ⟨A', n', c', rfl, hr', hnc', hn', hbel⟩
                      have e2 := hbCut bs 0 2 (by omega)
                      rw [List.drop_zero] at e2
                      have e8 := hbCut bs 4 8 (by omega)
                      have e16 := hbCut bs 12 16 (by omega)
                      have hB : rB bs = ((Bm.ofBytes bs).drop 48).take (8 * (num (((Bm.ofBytes bs).drop 8).take 8) + 4) + 6) := by
                        unfold rB restB
                        rw [if_pos hx, hk, if_neg (by omega), e8, ← hL, hbCut bs 44 _ (by omega)]
                      have hF : rF bs (.slice A' n' c') = RV 1 (num (((Bm.ofBytes bs).drop 16).take 16)) (num (((Bm.ofBytes bs).drop 4).take 2)) (num (((Bm.ofBytes bs).drop 8).take 8)) (.slice A' n' c') 0 0 := by
                        unfold rF restR
                        rw [if_pos hx, hk, if_neg (by omega), e2, e8, e16]
                      have hl' := hr'.len8
                      rw [List.length_take, List.length_drop, Bm.ofBytes_length] at hl'
                      refine ⟨A', n', c', by rw [hF, hx]; rfl, by rw [hB]; exact hr', ?_, by omega, hbel⟩
                      intro hA
                      obtain ⟨b, off, e, _⟩ := hr'.at_ hn'
                      rw [hA] at e; cases e
                    · rw [if_neg h5] at hx
                      have hex : ∃ j, 8 * (L + 4) + 54 ≤ j ∧ j < (Bm.ofBytes bs).length ∧ (Bm.ofBytes bs).getD j 0 ≠ 0 := by
                        apply Classical.byContradiction
                        intro hno
                        apply h5
                        rw [hw]
                        intro j hj
                        rw [List.length_drop] at hj
                        rw [hgd]
                        apply Classical.byContradiction
                        intro hne
                        exact hno ⟨_, by omega, by omega, hne⟩
                      exact (rdataPad n c A bs w hr hb hnc hc hn hk' (by omega) hok h1 (by rw [← hL]; omega) (by rw [← hL]; omega) (by rw [← hL]; omega) (by rw [← hL]; exact hex)).mono fun e w' h => noR h (by rw [hx]; simp) (by rw [hx]; rfl)
            · rw [if_pos (by simpa using h1)] at hx
              exact (rdataField n c A bs w hr hb hnc hc hn hk' (by omega) hok h1).mono fun e w' h => noR h (by rw [hx]; simp) (by rw [hx]; rfl)
        · have h9 : 9 ≤ bs.length := by rw [hk] at hs; have : hdn 2 = 9 := rfl; omega
          have hk' : bs.getD 0 0 / 16 = 2 := by rw [← hkd]; exact hk
          cases hok : Crc.ok16 (bs.take 9) with
          | false =>
            have hx : rdX bs = .sent 2 := by
              unfold rdX
              rw [if_neg (by omega), if_neg (by omega), if_neg hs, if_pos (by rw [hk]; exact hok)]
            exact (rreadSum A n c bs w hr hb hnc hc 2 9 hk' (.inr ⟨rfl, rfl⟩) (by omega) hok).mono fun e w' h => noR h (by rw [hx]; simp) (by rw [hx]; rfl)
          | true =>
            have hx := rdX_ack h9 hk hok
            by_cases h1 : num (((Bm.ofBytes bs).drop 4).take 4) = 0
            · rw [if_neg (by simpa using h1)] at hx
              by_cases h2 : 9 < bs.length
              · rw [if_pos h2] at hx
                exact (rackTail n c A bs w hr hb hnc hc hn hk' (by omega) hok h1 (by omega)).mono fun e w' h => noR h (by rw [hx]; simp) (by rw [hx]; rfl)
              · rw [if_neg h2] at hx
                refine (rackYes n c A bs w hr hb hnc hc hn hk' (by omega) hok h1 (by omega)).mono ?_
                rintro e w' ⟨rfl, hbel⟩
                have e16 := hbCut bs 4 16 (by omega)
                have e32 := hbCut bs 20 32 (by omega)
                have hB : rB bs = [] := by unfold rB restB; rw [if_pos hx, hk, if_pos rfl]
                have hF : rF bs (.slice none 0 0) = RV 2 0 0 0 (.slice none 0 0) (num (((Bm.ofBytes bs).drop 8).take 16) : Nat) (num (((Bm.ofBytes bs).drop 24).take 32)) := by
                  unfold rF restR
                  rw [if_pos hx, hk, if_pos rfl, e16, e32]
                refine ⟨none, 0, 0, by rw [hF, hx]; rfl, ?_, fun _ => rfl, by omega, hbel⟩
                rw [hB]
                exact ⟨rfl, fun h => absurd h (by omega)⟩
            · rw [if_pos (by simpa using h1)] at hx
              exact (rackField n c A bs w hr hb hnc hc hn hk' (by omega) hok h1).mono fun e w' h => noR h (by rw [hx]; simp) (by rw [hx]; rfl)
    · have hx : rdX bs = .sent 0 := by
        unfold rdX
        rw [if_neg (by omega), if_pos (by omega)]
      exact (rreadKind A n c bs w hr hb (by omega) (by rw [← hkd]; omega) (by rw [← hkd]; omega)).mono fun e w' h => noR h (by rw [hx]; simp) (by rw [hx]; rfl)
end Go.Proofs.YtkmacepodomdmaaDoor
