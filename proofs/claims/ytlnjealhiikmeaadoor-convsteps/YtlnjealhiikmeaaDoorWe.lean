/-
  The walk of ConvSteps.
-/
import Derived.Test.YtlnjealhiikmeaaDoorKg
namespace Go.Proofs.YtlnjealhiikmeaaDoor
open Go.RowKit
set_option linter.unusedVariables false
set_option linter.unusedSimpArgs false

theorem rem40 (x : Int) : -1099511627776 < x.tmod 1099511627776 ∧ x.tmod 1099511627776 < 1099511627776 := by
  by_cases h : 0 ≤ x
  · rw [Int.tmod_eq_emod_of_nonneg h]; omega
  · have h1 := Int.neg_tmod x 1099511627776
    rw [Int.tmod_eq_emod_of_nonneg (by omega)] at h1
    omega
set_option maxHeartbeats 400000 in
/-- conv.Steps of less than nothing. -/
theorem stepsNo (n : Int) (w : World) (hn : n < 0) : Calls Tryd.prog 14 #[.int .i64 n] w fun e w' => e = .returned (.int .i64 0) ∧ w = w' := by
  go_enter Tryd.func14, Tryd.ntmps14
  go_wp2
  go_ret
  exact ⟨rfl, rfl⟩
theorem eq4_noughts : ∀ w, (binOp .eql 22 (.agg #[.int .u8 0, .int .u8 0, .int .u8 0, .int .u8 0]) (.agg #[.int .u8 0, .int .u8 0, .int .u8 0, .int .u8 0])).run Tryd.prog w = .ok (.bool true) w := fun _ => by kernel_rfl

set_option maxHeartbeats 2000000 in
/-- ConvSteps, of what there is none of. -/
theorem walkConvStepsNo (s z : Int) (x : Nat) (w : World) (h : s < 0 ∨ 63 < s ∨ 1 < x) (hs : -9223372036854775808 ≤ s ∧ s ≤ 9223372036854775807) (hT : Taps w) :
    Calls Tryd.prog 3 #[.int .i64 s, .int .u8 (x : Int), .int .i64 z] w fun e w' => e = .returned (.bool true) ∧ Below w.heap.size w w' := by
  have C1 := Lib.hid (outNo s x w h)
  rw [F4_C4] at C1
  have C2 := Lib.hid (fun W => nextNo s x W h)
  have CD := Lib.hid (fun W (hT : Taps W) => codesC W hT)
  have heq := eq4_noughts
  obtain ⟨y, hy⟩ : ∃ y, z.tmod 1099511627776 = y := ⟨_, rfl⟩
  have hy2 := rem40 z
  rw [hy] at hy2
  obtain ⟨hy2, hy3⟩ := hy2
  have t : (decide (s < 0) = true) ∨ (decide (s < 0) = false ∧ decide (63 < s) = true) ∨ (decide (s < 0) = false ∧ decide (63 < s) = false ∧ decide ((1 : Int) < (x : Int)) = true) := by
    by_cases h1 : s < 0
    · exact .inl (by simp [h1])
    · by_cases h2 : 63 < s
      · exact .inr (.inl ⟨by simp <;> omega, by simp [h2]⟩)
      · exact .inr (.inr ⟨by simp <;> omega, by simp <;> omega, by simp <;> omega⟩)
  clear h
  by_cases hy0 : 0 ≤ y
  · obtain ⟨n, rfl⟩ : ∃ n : Nat, y = (n : Int) := ⟨y.toNat, by omega⟩
    have CS := Lib.hid (fun W => stepsC n W (by omega))
    have q0 : (((n + 6 : Nat) : Int) != (n : Int) + 6) = false := by simp
    have q1 : ((n : Int) + 6 != (n : Int) + 6) = false := by simp
    have d0 : decide ((0 : Int) ≤ (n : Int)) = true := by simp
    have d1 : decide ((n : Int) < 0) = false := by simp <;> omega
    rcases t with t1 | ⟨t1, t2⟩ | ⟨t1, t2, t3⟩
    all_goals
      go_enter Tryd.func3, Tryd.ntmps3
      go_wp2_with (first | (go_at_call 11; refine C1.out.mono ?_; rintro e w5 ⟨rfl, hb5⟩) | (go_at_call 12; refine (C2.out _).mono ?_; rintro e w' ⟨rfl, rfl⟩) | (go_at_call 14; refine (CS.out _).mono ?_; rintro e w' ⟨rfl, rfl⟩) | (go_at_call 13; refine (CD.out w7 (hT.after br7)).mono ?_; rintro e w8 ⟨rfl, be8⟩; have k0 : w8.cell? ⟨w5.heap.size, 0, none⟩ = some (.int .u8 0) := (h7.row.after be8).cell 0; have k1 : w8.cell? ⟨w5.heap.size, 1, none⟩ = some (.int .u8 0) := (h7.row.after be8).cell 1; have k2 : w8.cell? ⟨w5.heap.size, 2, none⟩ = some (.int .u8 0) := (h7.row.after be8).cell 2; have k3 : w8.cell? ⟨w5.heap.size, 3, none⟩ = some (.int .u8 0) := (h7.row.after be8).cell 3) | (refine at_alloc rfl 22 rfl (C4 0 0 0 0) Z4_eq ?_; intro w6 h6) | (refine at_store rfl 22 _ _ rfl w5.heap.size (C4 0 0 0 0) rfl rfl 22 (C4 0 0 0 0) h6.row info4 rfl (C4_one _ _ _ _) ?_; intro w7 h7; have br7 := Below.then_ hb5 (h6.bel.trans (h7.below (Nat.le_refl _)))))
      go_ret
      exact ⟨rfl, Below.then_ br7 be8⟩
  · have CS := Lib.hid (fun W => stepsNo y W (by omega))
    have d0 : decide ((0 : Int) ≤ y) = false := by simp <;> omega
    have d1 : decide (y < 0) = true := by simp <;> omega
    rcases t with t1 | ⟨t1, t2⟩ | ⟨t1, t2, t3⟩
    all_goals
      go_enter Tryd.func3, Tryd.ntmps3
      go_wp2_with (first | (go_at_call 11; refine C1.out.mono ?_; rintro e w5 ⟨rfl, hb5⟩) | (go_at_call 12; refine (C2.out _).mono ?_; rintro e w' ⟨rfl, rfl⟩) | (go_at_call 14; refine (CS.out _).mono ?_; rintro e w' ⟨rfl, rfl⟩) | (go_at_call 13; refine (CD.out w7 (hT.after br7)).mono ?_; rintro e w8 ⟨rfl, be8⟩; have k0 : w8.cell? ⟨w5.heap.size, 0, none⟩ = some (.int .u8 0) := (h7.row.after be8).cell 0; have k1 : w8.cell? ⟨w5.heap.size, 1, none⟩ = some (.int .u8 0) := (h7.row.after be8).cell 1; have k2 : w8.cell? ⟨w5.heap.size, 2, none⟩ = some (.int .u8 0) := (h7.row.after be8).cell 2; have k3 : w8.cell? ⟨w5.heap.size, 3, none⟩ = some (.int .u8 0) := (h7.row.after be8).cell 3) | (refine at_alloc rfl 22 rfl (C4 0 0 0 0) Z4_eq ?_; intro w6 h6) | (refine at_store rfl 22 _ _ rfl w5.heap.size (C4 0 0 0 0) rfl rfl 22 (C4 0 0 0 0) h6.row info4 rfl (C4_one _ _ _ _) ?_; intro w7 h7; have br7 := Below.then_ hb5 (h6.bel.trans (h7.below (Nat.le_refl _)))))
      go_ret
      exact ⟨rfl, Below.then_ br7 be8⟩

theorem C4_get (s x i : Nat) (hi : i < 4) : (C4 (Cv.out s x 0) (Cv.out s x 1) (Cv.out s x 2) (Cv.out s x 3))[i]? = some (.int .u8 (Cv.out s x i : Nat)) := by
  match i, hi with
  | 0, _ => rfl
  | 1, _ => rfl
  | 2, _ => rfl
  | 3, _ => rfl
/-- What Steps tells of a number. -/
theorem stepsAny (y : Int) (hy2 : -1099511627776 < y) (hy3 : y < 1099511627776) : ∃ v : Int, (∀ W, Calls Tryd.prog 14 #[.int .i64 y] W fun e w' => e = .returned (.int .i64 v) ∧ W = w') ∧ ((decide ((0 : Int) ≤ y) = true ∧ decide (y < 0) = false ∧ (v != y + 6) = false) ∨ (decide ((0 : Int) ≤ y) = false ∧ decide (y < 0) = true ∧ (v != 0) = false)) := by
  by_cases hy0 : 0 ≤ y
  · obtain ⟨n, rfl⟩ : ∃ n : Nat, y = (n : Int) := ⟨y.toNat, by omega⟩
    exact ⟨((n + 6 : Nat) : Int), fun W => stepsC n W (by omega), .inl ⟨by simp, by simp <;> omega, by simp⟩⟩
  · exact ⟨0, fun W => stepsNo y W (by omega), .inr ⟨by simp <;> omega, by simp <;> omega, by simp⟩⟩

set_option maxHeartbeats 2000000 in
/-- ConvSteps, of a state and a bit. -/
theorem walkConvStepsYes (s x : Nat) (z : Int) (w : World) (hs : s < 64) (hx : x ≤ 1) (hT : Taps w) :
    Calls Tryd.prog 3 #[.int .i64 (s : Int), .int .u8 (x : Int), .int .i64 z] w fun e w' => e = .returned (.bool true) ∧ Below w.heap.size w w' := by
  have C1 := Lib.hid (outC s x w hs hx hT)
  rw [F4_C4] at C1
  have C2 := Lib.hid (fun W => nextC s x W hs hx)
  have CD := Lib.hid (fun W (hT : Taps W) => codesC W hT)
  have CL := Lib.hid (fun W => listC s x W hs hx)
  have HG := Lib.hid (C4_get s x)
  have HO := Lib.hid (fun i hi => ls_out s hs x (by omega) i hi)
  have one4 := C4_one (Cv.out s x 0) (Cv.out s x 1) (Cv.out s x 2) (Cv.out s x 3)
  have HONE := Lib.hid one4
  generalize hq : C4 (Cv.out s x 0) (Cv.out s x 1) (Cv.out s x 2) (Cv.out s x 3) = q4 at *
  have hq4 : q4.size = 4 := by rw [← hq]; rfl
  have HQ4 := Lib.hid hq4
  clear hq hq4 one4
  obtain ⟨y, hy⟩ : ∃ y, z.tmod 1099511627776 = y := ⟨_, rfl⟩
  have hy2 := rem40 z
  rw [hy] at hy2
  obtain ⟨hy2, hy3⟩ := hy2
  obtain ⟨v, hv, hv2⟩ := stepsAny y hy2 hy3
  have CS := Lib.hid hv
  have wy : IntKind.i64.wrap (y + 6) = y + 6 := IntWalk.i64_in _ (by omega)
  have ex : ((s : Int) / 2 + 32 * (x : Int)) = (Cv.nx s x : Nat) := by unfold Cv.nx; omega
  have hnx := Cv.nx_lt s x hs hx
  have t1 : decide ((s : Int) < 0) = false := by simp <;> omega
  have t2 : decide ((63 : Int) < (s : Int)) = false := by simp <;> omega
  have t3 : decide ((1 : Int) < (x : Int)) = false := by simp <;> omega
  generalize Cv.nx s x = tn at *
  have p0 : ((tn : Int) == (tn : Int)) = true := by simp
  have i4 : (Tryd.prog.info? 22).map (·.size) = some q4.size := by rw [HQ4.out]; exact info4
  have I4 := Lib.hid i4
  clear hv i4
  have main : ∀ (Z : World → Prop), True := fun _ => trivial
  clear main
  rcases hv2 with ⟨d0, d1, d2⟩ | ⟨d0, d1, d2⟩
  all_goals
    go_enter Tryd.func3, Tryd.ntmps3
    go_upto_region 9 with (first | (go_at_call 11; refine C1.out.mono ?_; rintro e w5 ⟨rfl, hb5⟩) | (go_at_call 12; refine (C2.out _).mono ?_; rintro e w' ⟨rfl, rfl⟩) | (go_at_call 14; refine (CS.out _).mono ?_; rintro e w' ⟨rfl, rfl⟩) | (go_at_call 13; refine (CD.out w7 (hT.after br7)).mono ?_; rintro e w8 ⟨rfl, be8⟩) | (go_at_call 15; refine (CL.out w8).mono ?_; rintro e w9 ⟨A9, n9, c9, rfl, ow9, be9⟩) | (refine at_alloc rfl 22 rfl (C4 0 0 0 0) Z4_eq ?_; intro w6 h6) | (refine at_store rfl 22 _ _ rfl w5.heap.size q4 rfl rfl 22 (C4 0 0 0 0) h6.row I4.out HQ4.out.symm HONE.out ?_; intro w7 h7; have br7 := Below.then_ hb5 (h6.bel.trans (h7.below (Nat.le_refl _)))))
    have hrow := (h7.row.after be8).after be9
    have HB := Lib.hid (Below.then_ (Below.then_ br7 be8) be9)
    have l9 : n9 = 7 := by rw [ow9.rd.len8, ls_len]
    subst l9
    have hg9 := hrow.lt
    generalize w5.heap.size = g at *
    have CBB := Lib.hid (fun (W : World) (hB : Below w9.heap.size w9 W) i (hi : i < 4) => bitC A9 7 c9 6 i (ls s x) W (ow9.rdOf hB) (ls_bit s x hx) (by omega) (by omega) hi)
    clear C1 C2 CS CD CL hT hb5 h6 h7 br7 be8 be9 ow9 I4 HONE HQ4
    go_wp2
    go_loopw [12] (fun i wr => ∃ j : Nat, j ≤ 4 ∧ i = .int .i64 j ∧ Below w9.heap.size w9 wr) (fun i _ => 4 - (intOf i).toNat)
    case atStart => exact ⟨0, by omega, rfl, Below.refl _ _⟩
    case round =>
      obtain ⟨j, hj, rfl, hbel⟩ := hrel
      by_cases hlt : j < 4
      · have CB := Lib.hid (fun (W : World) (hB : Below w9.heap.size w9 W) => CBB.out W hB j hlt)
        rw [HO.out j hlt] at CB
        have HC : Hid (∀ W, Below w9.heap.size w9 W → W.cell? ⟨g, j, none⟩ = some (.int .u8 (Cv.out s x j : Nat))) := fun W hB => ((hrow.after hB).cell j).trans (HG.out j hlt)
        generalize Cv.out s x j = o at *
        have HK : Hid (∀ W, Below w9.heap.size w9 W → (Below w9.heap.size w9 W ∧ W.cell? ⟨g, j, none⟩ = some (.int .u8 (o : Int)))) := fun W hB => ⟨hB, HC.out W hB⟩
        have e2 : ((o : Int) != (o : Int)) = false := by simp
        have HBL := Lib.hid hbel
        clear HC CBB HO HG hrow
        go_wp2_with fail
        refine wp_region_noPanic ?_
        refine wp_region_held_drew (S := fun W => Below w9.heap.size w9 W ∧ W.cell? ⟨g, j, none⟩ = some (.int .u8 (o : Int))) (by kernel_rfl) (HK.out _ HBL.out.drew) (fun hHeld => ?_)
        refine wpAnyH_take (i := 0) (oi := ⟨some 81, _, _, _, _, _⟩) (v := ?_) rfl (by kernel_rfl) (by kernel_rfl) (by kernel_rfl) (fun _ _ _ h => h) (Or.inl ⟨by rfl, ?_⟩) (by assumption) ?_
        rotate_left
        · intro W hSW; obtain ⟨hSW0, hSW1⟩ := hSW; go_simp; first | done | with_reducible rfl
        (try simp only [Act.put, List.setIfInBounds_toArray, List.set_cons_zero, List.set_cons_succ])
        refine wpAnyH_take (i := 1) (oi := ⟨some 82, _, _, _, _, _⟩) (v := ?_) rfl (by kernel_rfl) (by kernel_rfl) (by kernel_rfl) (fun _ _ _ h => h) (Or.inl ⟨by rfl, ?_⟩) (by assumption) ?_
        rotate_left
        · intro W hSW; obtain ⟨hSW0, hSW1⟩ := hSW; go_simp; first | done | with_reducible rfl
        (try simp only [Act.put, List.setIfInBounds_toArray, List.set_cons_zero, List.set_cons_succ])
        refine wpAnyH_take (i := 2) (oi := ⟨some 83, _, _, _, _, _⟩) (v := ?_) rfl (by kernel_rfl) (by kernel_rfl) (by kernel_rfl) (fun _ _ _ h => h) (Or.inl ⟨by rfl, ?_⟩) (by assumption) ?_
        rotate_left
        · intro W hSW; obtain ⟨hSW0, hSW1⟩ := hSW; go_simp; first | done | with_reducible rfl
        (try simp only [Act.put, List.setIfInBounds_toArray, List.set_cons_zero, List.set_cons_succ])
        refine wpAnyH_take (i := 3) (oi := ⟨some 84, _, _, _, _, _⟩) (v := ?_) rfl (by kernel_rfl) (by kernel_rfl) (by kernel_rfl) (fun _ _ _ h => h) (Or.inl ⟨by rfl, ?_⟩) (by assumption) ?_
        rotate_left
        · intro W hSW; obtain ⟨hSW0, hSW1⟩ := hSW; go_simp; first | done | with_reducible rfl
        (try simp only [Act.put, List.setIfInBounds_toArray, List.set_cons_zero, List.set_cons_succ])
        refine wpAnyH_take (i := 4) (oi := ⟨some 85, _, _, _, _, _⟩) (v := ?_) rfl (by kernel_rfl) (by kernel_rfl) (by kernel_rfl) (fun _ _ _ h => h) (Or.inl ⟨by rfl, ?_⟩) (by assumption) ?_
        rotate_left
        · intro W hSW; obtain ⟨hSW0, hSW1⟩ := hSW; go_simp; first | done | with_reducible rfl
        (try simp only [Act.put, List.setIfInBounds_toArray, List.set_cons_zero, List.set_cons_succ])
        refine wpAnyH_ready (rs := [5]) (by kernel_rfl) (by simp) ?_
        refine AllReadyH.cons (o := ⟨some 86, _, _, _, _, _⟩) rfl (fun K hK => ?_) AllReadyH.nil
        go_simp
        have b1 := hHeld.1
        refine (CB.out _ b1).mono ?_
        rintro e wa ⟨rfl, bea⟩
        have ba := Below.then_ b1 bea
        clear hHeld b1
        refine hK.out _ _ ?_ (fun hHeld => ?_)
        · exact HK.out _ ba
        clear hK K
        (try simp only [Act.put, List.setIfInBounds_toArray, List.set_cons_zero, List.set_cons_succ])
        refine wpAnyH_take (i := 6) (oi := ⟨some 87, _, _, _, _, _⟩) (v := ?_) rfl (by kernel_rfl) (by kernel_rfl) (by kernel_rfl) (fun _ _ _ h => h) (Or.inl ⟨by rfl, ?_⟩) (by assumption) ?_
        rotate_left
        · intro W hSW; obtain ⟨hSW0, hSW1⟩ := hSW; go_simp; first | done | with_reducible rfl
        (try simp only [Act.put, List.setIfInBounds_toArray, List.set_cons_zero, List.set_cons_succ])
        refine wpAnyH_done (by kernel_rfl) ?_ _
        refine NoPanic.normal ?_
        go_wp2
        go_roundw
        case rel => exact ⟨j + 1, by omega, by go_num, hHeld.1⟩
        case measure => simp [intOf] <;> omega
      · go_wp2
        go_ret
        exact ⟨rfl, Below.then_ HB.out hbel⟩
end Go.Proofs.YtlnjealhiikmeaaDoor
