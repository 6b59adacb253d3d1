/-
  The library's sort at numbers of 16 bits: pdqsortOrdered of fewer than 50, Sort.
-/
import Derived.Test.YtkmacepodomdmaaOf
namespace Go.Proofs.Ytkmacepodomdmaa
open Go.RowKit
set_option maxRecDepth 100000
open Go.Sort (swp PermIn SortedIn SWO Holds putRow mapBlock)
set_option linter.unusedVariables false
set_option linter.unusedSimpArgs false

theorem brkC2 (g off n cap a b : Nat) (d : Array Nat) (w : World) (h : SR w g off n w d) (h12 : a + 12 < b) (h50 : b < a + 50) (hb : b ≤ n) (hn : n < 1000000) :
    Calls Try.prog 83 #[.slice (some ⟨g, off, none⟩) n cap, .int .i64 (a : Int), .int .i64 (b : Int)] w fun e w' =>
      e = .returned (.tuple #[]) ∧ ∃ d', SR w g off n w' d' ∧ PermIn a b d d' := by
  obtain ⟨L, rfl⟩ : ∃ L, b = a + L := ⟨b - a, by omega⟩
  exact brkC g off n cap a L d w h (by omega) (by omega) hb hn

set_option maxHeartbeats 8000000 in
set_option maxRecDepth 100000 in
/-- slices.pdqsortOrdered. -/
theorem pdqC : ∀ (N g off n cap a b lim : Nat) (d : Array Nat) (w : World), b - a < N → SR w g off n w d → a ≤ b → b ≤ n → n < 50 → lim < 1000 → Lw a b d →
    Calls Try.prog 74 #[.slice (some ⟨g, off, none⟩) n cap, .int .i64 (a : Int), .int .i64 (b : Int), .int .i64 (lim : Int)] w fun e w' =>
      e = .returned (.tuple #[]) ∧ ∃ d', SR w g off n w' d' ∧ PermIn a b d d' ∧ So a b d' := by
  intro N
  induction N with
  | zero => intro g off n cap a b lim d w hN; omega
  | succ N ih =>
    intro g off n cap a b lim d w hN h hab hb hn hlim hlow
    have HW := Lib.hid (Way.start hab (by rw [h.sz]; exact hb) hlow)
    have H1 := Lib.hid h
    have IH := Lib.hid ih
    clear h hlow ih
    go_enter Try.func74, Try.ntmps74
    go_wp2_with fail
    go_loopg [1, 2, 3, 8, 9] (b - a) (fun k s1 s2 s3 s8 s9 wr => ∃ (a' b' lim' : Nat) (wb wp : Bool) (dk : Array Nat), s1 = .int .i64 (a' : Int) ∧ s2 = .int .i64 (b' : Int) ∧ s3 = .int .i64 (lim' : Int) ∧ s8 = .bool wb ∧ s9 = .bool wp ∧
      b' - a' ≤ k ∧ k ≤ b - a ∧ a' ≤ b' ∧ b' ≤ n ∧ lim' ≤ lim ∧ Hid (Way a b d a' b' dk) ∧ Hid (SR w g off n wr dk))
    case atStart => exact ⟨a, b, lim, true, true, d, rfl, rfl, rfl, rfl, rfl, Nat.le_refl _, Nat.le_refl _, hab, hb, Nat.le_refl _, HW, H1⟩
    case round =>
      clear HW H1
      obtain ⟨a', b', lim', wb, wp, dk, rfl, rfl, rfl, rfl, rfl, hk, hkk, hab', hb', hlim', HW, H1⟩ := hrel
      by_cases h12 : b' - a' ≤ 12
      · have h12z : (b' : Int) - (a' : Int) ≤ 12 := by omega
        go_wp2_with (go_at_call 81; refine (insC g off n cap a' b' dk wr H1.out.self hab' hb' (by omega)).mono ?_; rintro e w1 ⟨rfl, d1, hs1, hp1, ho1⟩)
        (try simp only [Exit.inBlock, Exit.then]); refine bodyPost_ret (results_none rfl _ _ _) rfl ?_
        exact ⟨rfl, d1, H1.out.then_ hs1, (HW.out.done hp1 ho1).1, (HW.out.done hp1 ho1).2⟩
      · have h12z : ¬ ((b' : Int) - (a' : Int) ≤ 12) := by omega
        by_cases hl0 : lim' = 0
        · subst hl0
          go_wp2_with (go_at_call 82; refine (heapC g off n cap a' b' dk wr H1.out.self hab' hb' (by omega)).mono ?_; rintro e w1 ⟨rfl, d1, hs1, hp1, ho1⟩)
          (try simp only [Exit.inBlock, Exit.then]); refine bodyPost_ret (results_none rfl _ _ _) rfl ?_
          exact ⟨rfl, d1, H1.out.then_ hs1, (HW.out.done hp1 ho1).1, (HW.out.done hp1 ho1).2⟩
        · have hl0z : ((lim' : Int) == 0) = false := by simp; omega
          have h12n : a' + 12 < b' := by omega
          have h50n : b' < a' + 50 := by omega
          go_upto_if 35 with fail
          go_cut [3] (fun s3 wc => ∃ (lim2 : Nat) (d2 : Array Nat), s3 = .int .i64 (lim2 : Int) ∧ lim2 ≤ lim ∧ Hid (Way a b d a' b' d2) ∧ Hid (SR w g off n wc d2))
          case first =>
            cases wb
            · go_wp2_with (go_at_call 83; refine (brkC2 g off n cap a' b' dk wr H1.out.self h12n h50n hb' (by omega)).mono ?_; rintro e w1 ⟨rfl, d1, hs1, hp1⟩)
              go_meet
              case rel => exact ⟨lim' - 1, d1, by first | go_num | (congr 1; omega), by omega, HW.out.more hp1, H1.out.then_ hs1⟩
            · go_wp2_with fail
              go_meet
              case rel => exact ⟨lim', dk, rfl, hlim', HW, H1⟩
          case rest =>
            clear HW H1 hlim' hl0 hl0z
            obtain ⟨lim', dk, rfl, hlim', HW, H1⟩ := hcut
            go_upto_if 50 with (go_at_call 84; refine (pivC g off n cap a' b' dk wc H1.out.self h12n h50n hb' (by omega)).mono ?_; rintro e w2 ⟨p, hint, rfl, hp1, hp2, hbl⟩)
            have H2 : Hid (SR w g off n w2 dk) := H1.out.after hbl
            clear H1 hbl
            go_cut [11, 12] (fun s11 s12 wc => ∃ (p : Nat) (hint : Int) (d2 : Array Nat), s11 = .int .i64 (p : Int) ∧ s12 = .int .i64 hint ∧ a' ≤ p ∧ p < b' ∧ Hid (Way a b d a' b' d2) ∧ Hid (SR w g off n wc d2))
            case first =>
              by_cases hh : hint = 2
              · subst hh
                go_wp2_with (go_at_call 85; refine (revC g off n cap a' b' dk w2 H2.out.self (by omega) hb' (by omega)).mono ?_; rintro e w3 ⟨rfl, d1, hs1, hq1⟩)
                go_meet
                case rel => exact ⟨b' - 1 - (p - a'), 1, d1, by first | rfl | (congr 1; omega), rfl, by omega, by omega, HW.out.more hq1, H2.out.then_ hs1⟩
              · have hhz : (hint == 2) = false := by simp [hh]
                go_wp2_with fail
                go_meet
                case rel => exact ⟨p, hint, dk, rfl, rfl, hp1, hp2, HW, H2⟩
            case rest =>
              clear HW H2 hp1 hp2
              obtain ⟨p, hint, dk, rfl, rfl, hp1, hp2, HW, H1⟩ := hcut
              go_upto_region 15 with fail
              go_cut [8, 9, 12, 68] (fun s8 s9 s12 s68 wx => ∃ q : Bool, s8 = .bool wb ∧ s9 = .bool wp ∧ s12 = .int .i64 hint ∧ s68 = .bool q ∧ wx = wc)
              case first =>
                by_cases hh : hint = 1
                · subst hh
                  cases wb <;> cases wp <;> (go_wp2_with fail; go_meet; exact ⟨_, rfl, rfl, rfl, rfl, rfl⟩)
                · have hhz : (hint == 1) = false := by simp [hh]
                  cases wb <;> cases wp <;> (go_wp2_with fail; go_meet; exact ⟨_, rfl, rfl, rfl, rfl, rfl⟩)
              case rest =>
                rename World => wo
                obtain ⟨q, rfl, rfl, rfl, rfl, rfl⟩ := hcut
                go_upto_if 68 with fail
                go_cut [] (fun wx => Hid (SR w g off n wx dk))
                case first =>
                  cases q
                  · go_wp2_with fail
                    go_meet
                    case rel => exact H1
                  · go_wp2_with (go_at_call 86; refine (pinsC g off n cap a' b' dk _ H1.out.self h12n h50n hb' (by omega)).mono ?_; rintro e w4 ⟨r, rfl, hs4, ho4⟩; cases r)
                    all_goals first
                      | (go_meet
                         exact H1.out.then_ hs4)
                      | ((try simp only [Exit.inBlock, Exit.then]); refine bodyPost_ret (results_none rfl _ _ _) rfl ?_
                         exact ⟨rfl, dk, H1.out.then_ hs4, (HW.out.done (pm_refl _ _ _) (by first | exact ho4 rfl | exact ho4 trivial)).1, (HW.out.done (pm_refl _ _ _) (by first | exact ho4 rfl | exact ho4 trivial)).2⟩)
                case rest =>
                  clear H1
                  have H1 : Hid (SR w g off n _ dk) := hcut
                  clear hcut
                  obtain ⟨G, HG, hcw, hfw⟩ := H1.out.names
                  go_upto_region 17 with fail
                  go_cut [87] (fun s87 wx => ∃ q2 : Bool, s87 = .bool q2 ∧ Hid (q2 = true → 0 < a' ∧ dk[p]! ≤ dk[a' - 1]!) ∧ Hid (SR w g off n wx dk))
                  case first =>
                    rcases Nat.eq_zero_or_pos a' with ha0 | ha0
                    · have ha0z : decide ((a' : Int) > 0) = false := decide_eq_false (by omega)
                      go_big_quiet (first | (go_at_call 87; refine Calls.quiet_of_same (lessC _ _ _)))
                      go_wp2_with fail
                      go_meet
                      case rel => exact ⟨false, rfl, (fun h => by cases h), H1.out.draw _⟩
                    · have ha0z : (a' : Int) > 0 := by omega
                      go_big_quiet (first | (go_at_call 87; refine Calls.quiet_of_same (lessC _ _ _)))
                      go_wp2_with fail
                      go_meet
                      case rel => exact ⟨!ltN (G (a' - 1)) (G p), rfl, fun h => ⟨ha0, by rw [← HG.out, ← HG.out]; simpa [ltN] using h⟩, H1.out.draw _⟩
                  case rest =>
                    clear H1 hcw hfw
                    obtain ⟨q2, rfl, HQ, H1⟩ := hcut
                    cases q2
                    · go_upto_if 113 with (go_at_call 89; refine (partC g off n cap a' b' p dk _ H1.out.self hp1 hp2 hb' (by omega)).mono ?_; rintro e w7 ⟨mid, ap, d4, rfl, hs7, hpt⟩; have hm1 := hpt.lo; have hm2 := hpt.hi)
                      have HPT := Lib.hid hpt
                      have H7 : Hid (SR w g off n w7 d4) := H1.out.then_ hs7
                      clear hpt hs7 H1
                      by_cases h4 : mid - a' < b' - mid
                      · have h4z : (mid : Int) - (a' : Int) < (b' : Int) - (mid : Int) := by omega
                        have HI := Lib.hid (IH.out g off n cap a' mid lim' d4 w7 (by omega) H7.out.self hm1 (by omega) hn (by omega) (Lw.of_left HW.out HPT.out))
                        go_wp2_with (go_at_call 74; refine HI.out.mono ?_; rintro e w8 ⟨rfl, d8, hs8, hp8, ho8⟩)
                        go_roundg (b' - (mid + 1))
                        case measure => omega
                        case rel => exact ⟨mid + 1, b', lim', _, ap, d8, by go_num, rfl, rfl, rfl, rfl, Nat.le_refl _, by omega, by omega, hb', hlim', HW.out.left HPT.out hp8 ho8, H7.out.then_ hs8⟩
                      · have h4z : ¬ ((mid : Int) - (a' : Int) < (b' : Int) - (mid : Int)) := by omega
                        have HI0 := IH.out g off n cap (mid + 1) b' lim' d4 w7 (by omega) H7.out.self (by omega) hb' hn (by omega) (Lw.of_right HPT.out)
                        rw [show ((mid + 1 : Nat) : Int) = (mid : Int) + 1 by omega] at HI0
                        have HI := Lib.hid HI0
                        clear HI0
                        go_wp2_with (go_at_call 74; refine HI.out.mono ?_; rintro e w8 ⟨rfl, d8, hs8, hp8, ho8⟩)
                        go_roundg (mid - a')
                        case measure => omega
                        case rel => exact ⟨a', mid, lim', _, ap, d8, rfl, rfl, rfl, rfl, rfl, Nat.le_refl _, by omega, by omega, by omega, hlim', HW.out.right HPT.out hp8 ho8, H7.out.then_ hs8⟩
                    · obtain ⟨ha0, hle⟩ := HQ.out rfl
                      go_wp2_with (go_at_call 88; refine (peqC g off n cap a' b' p dk _ H1.out.self hp1 hp2 hb' (by omega)).mono ?_; rintro e w7 ⟨mid, d4, rfl, hs7, hpe⟩; have hm1 := hpe.lo; have hm2 := hpe.hi)
                      go_roundg (b' - mid)
                      case measure => omega
                      case rel => exact ⟨mid, b', lim', wb, wp, d4, rfl, rfl, rfl, rfl, rfl, Nat.le_refl _, by omega, hm2, hb', hlim', HW.out.equal ha0 hle hpe, H1.out.then_ hs7⟩
end Go.Proofs.Ytkmacepodomdmaa
