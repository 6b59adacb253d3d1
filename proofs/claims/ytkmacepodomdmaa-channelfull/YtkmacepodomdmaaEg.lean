/-
  The walk of ChannelFull.
-/
import Derived.Test.YtkmacepodomdmaaEf
namespace Go.Proofs.Ytkmacepodomdmaa
open Go.RowKit
set_option maxRecDepth 100000
set_option linter.unusedVariables false
set_option linter.unusedSimpArgs false
set_option maxRecDepth 100000

set_option maxHeartbeats 1000000 in
/-- ChannelFull: the walk. -/
theorem channelFull (more : Int) (w : World) : Calls Try.prog 6 #[.int .i64 more] w fun e w' => e = .returned (.bool true) ∧ Below w.heap.size w w' := by
  obtain ⟨u, hu, hu2⟩ := wrap_u64 more
  obtain ⟨nn, hn1, hn2, hn3⟩ : ∃ nn : Nat, 4090 ≤ nn ∧ nn ≤ 4101 ∧ 4090 + (u : Int) % 12 = (nn : Int) := ⟨4090 + u % 12, by omega, by omega, by omega⟩
  have CN := Lib.hid (lcNew w w 9 (by omega) (Below.refl _ _))
  have CF := Lib.hid fliesC
  go_enter Try.func6, Try.ntmps6
  go_upto_region 4 with (first
    | (go_at_call 43; refine CN.out.mono ?_; rintro e w1 ⟨gC, rfl, h1⟩)
    | (go_at_call 36; refine (CF.out _).mono ?_; rintro e w2 ⟨rfl, b2⟩))
  have H2 := Lib.hid (h1.after b2)
  clear h1 b2 CN CF
  go_wp2_with fail
  go_loopw [6] (fun s6 wr => ∃ (i : Nat) (L : List Fy), s6 = .int .i64 (i : Int) ∧ i ≤ nn ∧ Hid (L.length = min i 4096) ∧ Hid (LC w wr gC 9 0 L)) (fun s6 _ => nn - (intOf s6).toNat)
  case atStart => exact ⟨0, [], rfl, by omega, rfl, H2⟩
  case round =>
    clear H2
    obtain ⟨i, L, rfl, hi, HL, H1⟩ := hrel
    by_cases hlt : i < nn
    · have d1 : decide ((i : Int) < (nn : Int)) = true := by simp; omega
      by_cases hf : i < 4096
      · have hlf : L.length < 4096 := by have := HL.out; omega
        have HL2 : Hid (∀ x : Fy, (L ++ [x]).length = min (i + 1) 4096) := fun x => by rw [List.length_append, HL.out, List.length_singleton]; omega
        have CP := Lib.hid (lcPut w wr gC 9 0 L none 0 0 [] H1.out hlf ⟨rfl, fun h => absurd h (by omega)⟩ (fun _ => rfl))
        clear hlf hf
        go_wp2_with (go_at_call 34; refine CP.out.mono ?_; rintro e w3 ⟨rfl, h3⟩)
        go_roundw
        case rel => exact ⟨i + 1, _, by go_num, by omega, HL2.out _, h3⟩
        case measure => simp [intOf]; omega
      · have hlf : 4096 ≤ L.length := by have := HL.out; omega
        have HL2 : Hid (L.length = min (i + 1) 4096) := by unfold Hid; rw [HL.out]; omega
        have CP := Lib.hid (lcPutNo w wr gC 9 0 L none 0 0 H1.out hlf)
        clear hlf hf
        go_wp2_with (go_at_call 34; refine CP.out.mono ?_; rintro e w3 ⟨rfl, rfl⟩)
        go_roundw
        case rel => exact ⟨i + 1, L, by go_num, by omega, HL2, H1⟩
        case measure => simp [intOf]; omega
    · obtain rfl : i = nn := by omega
      have d1 : decide ((i : Int) < (i : Int)) = false := by simp
      obtain ⟨n1, hn⟩ : ∃ n1, n1 = i + 1 := ⟨_, rfl⟩
      have en : (i : Int) + 1 = (n1 : Int) := by omega
      have hlp : 0 < L.length := by have := HL.out; omega
      by_cases hf : i < 4096
      · have hlf : L.length < 4096 := by have := HL.out; omega
        have HL2 : Hid (∀ x : Fy, (L ++ [x]).length = n1) := fun x => by rw [List.length_append, HL.out, List.length_singleton]; omega
        have CT := Lib.hid (lcTwice w wr gC 9 0 L 0 H1.out hlp hlf)
        have m1 : (if (4096 : Int) < (n1 : Int) then (4096 : Int) else (n1 : Int)) = (n1 : Int) := by rw [if_neg (by omega)]
        have m2 : min (n1 : Int) 4096 = (n1 : Int) := by omega
        have e1 : decide ((i : Int) ≥ 4096) = false := by simp; omega
        have e2 : decide ((4096 : Int) ≤ (i : Int)) = false := by simp; omega
        have e3 : decide (4096 ≤ i) = false := by simp; omega
        have hn4 : n1 ≤ 4096 := by omega
        clear hn hf hlf HL
        go_upto_region 10 with (go_at_call 39; refine CT.out.mono ?_; rintro e w3 ⟨rfl, h3⟩)
        have CL := lcLen w w3 gC 9 0 _ h3
        rw [HL2.out] at CL
        have HC := Lib.hid CL
        have HB := Lib.hid h3.bel
        clear CL h3 CT
        go_wp2_with (go_at_call 41; refine HC.out.mono ?_; rintro e w4 ⟨rfl, rfl⟩)
        go_ret
        exact ⟨rfl, HB.out⟩
      · have hlf : L.length = 4096 := by have := HL.out; omega
        have CT := Lib.hid (lcTwiceFull w wr gC 9 0 L 0 H1.out hlp (by omega))
        have CL := lcLen w wr gC 9 0 _ H1.out
        rw [hlf] at CL
        have HC := Lib.hid CL
        have HB := Lib.hid H1.out.bel
        have m1 : (if (4096 : Int) < (n1 : Int) then (4096 : Int) else (n1 : Int)) = 4096 := by rw [if_pos (by omega)]
        have m2 : min (n1 : Int) 4096 = 4096 := by omega
        have e1 : decide ((i : Int) ≥ 4096) = true := by simp; omega
        have e2 : decide ((4096 : Int) ≤ (i : Int)) = true := by simp; omega
        have e3 : decide (4096 ≤ i) = true := by simp; omega
        clear hn hf hlf HL CL hlp
        go_wp2_with (first
          | (go_at_call 39; refine CT.out.mono ?_; rintro e w3 ⟨rfl, rfl⟩)
          | (go_at_call 41; refine HC.out.mono ?_; rintro e w4 ⟨rfl, rfl⟩))
        go_ret
        exact ⟨rfl, HB.out⟩
end Go.Proofs.Ytkmacepodomdmaa
