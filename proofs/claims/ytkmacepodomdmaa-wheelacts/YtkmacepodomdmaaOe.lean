/-
  The library's sort at numbers of 16 bits: the partitions.
-/
import Derived.Test.YtkmacepodomdmaaOd
import Derived.Deep.DeepCutAuto
namespace Go.Proofs.Ytkmacepodomdmaa
open Go.RowKit
set_option maxRecDepth 100000
open Go.Sort (swp PermIn SortedIn SWO Holds putRow mapBlock)
set_option linter.unusedVariables false
set_option linter.unusedSimpArgs false

set_option maxHeartbeats 4000000 in
set_option maxRecDepth 100000 in
/-- slices.partitionEqualOrdered. -/
theorem peqC (g off n cap a b v : Nat) (d : Array Nat) (w : World) (h : SR w g off n w d) (hav : a ≤ v) (hvb : v < b) (hb : b ≤ n) (hn : n < 1000000) :
    Calls Try.prog 88 #[.slice (some ⟨g, off, none⟩) n cap, .int .i64 (a : Int), .int .i64 (b : Int), .int .i64 (v : Int)] w fun e w' =>
      ∃ (mid : Nat) (d' : Array Nat), e = .returned (.int .i64 (mid : Int)) ∧ SR w g off n w' d' ∧ PartedEq a b mid d[v]! d d' := by
  have hsz := h.sz
  obtain ⟨G, HG, hcw0, hfw0⟩ := h.names
  have H1 := Lib.hid h
  clear h hcw0 hfw0
  obtain ⟨dk, hdk⟩ : ∃ dk, dk = d := ⟨_, rfl⟩
  rw [← hdk] at HG H1
  have HDK := Lib.hid hdk
  clear hdk
  go_enter Try.func88, Try.ntmps88
  go_upto_region 1 with fail
  go_cut [1, 3] (fun sx sy wc => sx = .int .i64 (a : Int) ∧ sy = .int .i64 (v : Int) ∧ Hid (SR w g off n wc (swp dk a v)))
  case first =>
    obtain ⟨hcw, hfw⟩ := H1.out.fam HG.out
    by_cases hz : a = v
    · subst hz
      go_region
      all_goals go_wp2_with fail
      all_goals go_meet
      case rel => exact ⟨rfl, rfl, (by first | exact (H1.out.swapN (by omega) (by omega) (HG.out _) (HG.out _)).drew | exact (H1.out.draw _).swapN (by omega) (by omega) (HG.out _) (HG.out _))⟩
    · go_region
      all_goals go_wp2_with fail
      all_goals go_meet
      case rel => exact ⟨rfl, rfl, (by first | exact (H1.out.swapN (by omega) (by omega) (HG.out _) (HG.out _)).drew | exact (H1.out.draw _).swapN (by omega) (by omega) (HG.out _) (HG.out _))⟩
  case rest =>
    clear H1
    obtain ⟨rfl, rfl, H1⟩ := hcut
    have HP : Hid (PInv (fun p x => ¬ p < x) a b (a + 1) (b - 1) d (swp dk a v)) := by
      refine PInv.start ?_ (by omega)
      rw [HDK.out]; exact pm_swp d (by omega) (by omega) (by omega) (by omega) (by omega)
    have HA : Hid ((swp dk a v)[a]! = d[v]!) := by
      show _ = _
      rw [HDK.out, swp_at d (by omega) (by omega)]
      split
      · rename_i e; rw [e]
      · rw [if_pos rfl]
    clear HDK HG
    generalize swp dk a v = d1 at H1 HP HA
    go_wp2_with fail
    go_loopg [9, 10] b (fun k vi vj wr => ∃ (i0 j : Nat) (dk : Array Nat), vi = .int .i64 (i0 : Int) ∧ vj = .int .i64 (j : Int) ∧ j + 1 - i0 ≤ k ∧ Hid (PInv (fun p x => ¬ p < x) a b i0 j d dk) ∧ Hid (dk[a]! = d[v]!) ∧ Hid (SR w g off n wr dk))
    case atStart => exact ⟨a + 1, b - 1, d1, by go_num, by first | go_num | (congr 1; omega), by omega, HP, HA, H1⟩
    case round =>
      clear H1 HP HA
      obtain ⟨i0, j, dk, rfl, rfl, hk, HP, HA, H1⟩ := hrel
      have hjb : j < b := HP.out.hi
      have hai0 : a < i0 := HP.out.lo
      obtain ⟨G, HG, hcw0, hfw0⟩ := H1.out.names
      clear hcw0 hfw0
      go_step
      go_step
      go_cut [9] (fun si wc => ∃ i : Nat, si = .int .i64 (i : Int) ∧ Hid (PInv (fun p x => ¬ p < x) a b i j d dk) ∧ Hid (i ≤ j → ¬ (fun p x => ¬ p < x) dk[a]! dk[i]!) ∧ i ≤ j + 1 ∧ i0 ≤ i ∧ Hid (SR w g off n wc dk))
      case first =>
        go_step
        go_loopw [9] (fun vi wr => ∃ i : Nat, vi = .int .i64 (i : Int) ∧ i ≤ j + 1 ∧ i0 ≤ i ∧ Hid (PInv (fun p x => ¬ p < x) a b i j d dk) ∧ Hid (SR w g off n wr dk)) (fun vi _ => j + 1 - (intOf vi).toNat)
        case atStart => exact ⟨i0, rfl, HP.out.le, Nat.le_refl _, HP, H1⟩
        case round =>
          clear H1 HP
          obtain ⟨i, rfl, hij, hai, HP, H1⟩ := hrel
          obtain ⟨hcw, hfw⟩ := H1.out.fam HG.out
          by_cases hle : i ≤ j
          · go_wp2_with fail
            go_big_quiet (first | (go_at_call 87; refine Calls.quiet_of_same (lessC _ _ _)))
            go_wp2_with fail
            · have ht : (!ltN (G a) (G i)) = true := by assumption
              go_roundw
              case rel => exact ⟨i + 1, by go_num, by omega, by omega, HP.out.up hle (by rw [← HG.out, ← HG.out]; simpa [ltN] using ht), H1.out.draw _⟩
              case measure => simp [intOf]; omega
            · have ht : (!ltN (G a) (G i)) = false := by assumption
              go_meet
              case rel => exact ⟨i, rfl, HP, fun _ => (by rw [← HG.out, ← HG.out]; simpa [ltN] using ht), hij, hai, H1.out.draw _⟩
          · go_wp2_with fail
            go_big_quiet (first | (go_at_call 87; refine Calls.quiet_of_same (lessC _ _ _)))
            go_wp2_with fail
            go_meet
            case rel => exact ⟨i, rfl, HP, fun h => absurd h hle, hij, hai, H1.out.draw _⟩
      case rest =>
        clear H1 HP
        obtain ⟨i, rfl, HP, HU, hij, hai, H1⟩ := hcut
        go_step
        go_step
        go_cut [10] (fun sj wc => ∃ j2 : Nat, sj = .int .i64 (j2 : Int) ∧ Hid (PInv (fun p x => ¬ p < x) a b i j2 d dk) ∧ Hid (i ≤ j2 → ¬ (fun p x => ¬ p < x) dk[a]! dk[i]!) ∧ Hid (i ≤ j2 → (fun p x => ¬ p < x) dk[a]! dk[j2]!) ∧ i ≤ j2 + 1 ∧ j2 ≤ j ∧ Hid (SR w g off n wc dk))
        case first =>
          go_step
          go_loopw [10] (fun vj wr => ∃ j2 : Nat, vj = .int .i64 (j2 : Int) ∧ i ≤ j2 + 1 ∧ j2 ≤ j ∧ Hid (PInv (fun p x => ¬ p < x) a b i j2 d dk) ∧ Hid (i ≤ j2 → ¬ (fun p x => ¬ p < x) dk[a]! dk[i]!) ∧ Hid (SR w g off n wr dk)) (fun vj _ => (intOf vj).toNat)
          case atStart => exact ⟨j, rfl, hij, Nat.le_refl _, HP, HU, H1⟩
          case round =>
            clear H1 HP HU
            obtain ⟨j2, rfl, hij2, hj2, HP, HU, H1⟩ := hrel
            obtain ⟨hcw, hfw⟩ := H1.out.fam HG.out
            by_cases hle : i ≤ j2
            · go_wp2_with fail
              go_big_quiet (first | (go_at_call 87; refine Calls.quiet_of_same (lessC _ _ _)))
              go_wp2_with fail
              · have ht : ltN (G a) (G j2) = true := by assumption
                go_roundw
                case rel => exact ⟨j2 - 1, by first | go_num | (congr 1; omega), by omega, by omega, HP.out.down hle (by rw [← HG.out, ← HG.out]; simpa [ltN] using ht), fun h => HU.out (by omega), H1.out.draw _⟩
                case measure => simp [intOf]; omega
              · have ht : ltN (G a) (G j2) = false := by assumption
                go_meet
                case rel => exact ⟨j2, rfl, HP, HU, fun _ => (by rw [← HG.out, ← HG.out]; simpa [ltN] using ht), hij2, hj2, H1.out.draw _⟩
            · go_wp2_with fail
              go_big_quiet (first | (go_at_call 87; refine Calls.quiet_of_same (lessC _ _ _)))
              go_wp2_with fail
              go_meet
              case rel => exact ⟨j2, rfl, HP, HU, fun h => absurd h hle, hij2, hj2, H1.out.draw _⟩
        case rest =>
          clear H1 HP HU
          obtain ⟨j2, rfl, HP, HU, HD, hij2, hj2, H1⟩ := hcut
          by_cases hlt : j2 < i
          · go_wp2_with fail
            go_ret
            first | exact ⟨i, dk, rfl, H1.out, HP.out.partedEq hlt HA.out⟩ | exact ⟨i, rfl, dk, H1.out, HP.out.partedEq hlt HA.out⟩
          · have hne : i < j2 := by
              rcases Nat.lt_or_ge i j2 with h | h
              · exact h
              · have e : i = j2 := by omega
                have := HU.out (by omega)
                rw [e] at this
                exact absurd (HD.out (by omega)) this
            obtain ⟨hcw, hfw⟩ := H1.out.fam HG.out
            go_wp2_with fail
            go_region
            all_goals go_wp2_with fail
            go_roundg (j2 - 1 + 1 - (i + 1))
            case measure => omega
            case rel =>
              refine ⟨i + 1, j2 - 1, swp dk i j2, by go_num, by first | go_num | (congr 1; omega), Nat.le_refl _, HP.out.swap (by omega) (by omega) (HU.out (by omega)) (HD.out (by omega)), ?_, ?_⟩
              · show _ = _
                have := H1.out.sz
                rw [swp_at dk (by omega) (by omega), if_neg (by omega), if_neg (by omega)]; exact HA.out
              · exact (by first | exact (H1.out.swapN (by omega) (by omega) (HG.out _) (HG.out _)).drew | exact (H1.out.draw _).swapN (by omega) (by omega) (HG.out _) (HG.out _))
end Go.Proofs.Ytkmacepodomdmaa
