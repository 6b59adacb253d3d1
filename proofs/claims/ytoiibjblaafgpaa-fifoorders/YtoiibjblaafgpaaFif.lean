/-
  The walk of FifoOrders.
-/
import Derived.Test.YtoiibjblaafgpaaFid
import Derived.Test.YtoiibjblaafgpaaFie
import Derived.Test.YtoiibjblaafgpaaRc
namespace Go.Proofs.Ytoiibjblaafgpaa
open Go.RowKit
set_option maxRecDepth 100000
set_option linter.unusedVariables false
set_option linter.unusedSimpArgs false
set_option maxRecDepth 100000

/-- The messages from the g-th to the one ahead of the s-th, each cut to nine bytes. -/
def sg (M : Nat → M8) (g s : Nat) : List (List Nat) := (List.range (s - g)).map fun k => (M (g + k)).bs.take 9
theorem sg_length (M : Nat → M8) (g s : Nat) : (sg M g s).length = s - g := by simp [sg]
theorem sg_snoc (M : Nat → M8) (g s : Nat) (h : g ≤ s) : sg M g s ++ [(M s).bs.take 9] = sg M g (s + 1) := by
  unfold sg
  rw [show s + 1 - g = s - g + 1 by omega, List.range_succ, List.map_append]
  simp [show g + (s - g) = s by omega]
theorem sg_cons (M : Nat → M8) (g s : Nat) (h : g < s) : sg M g s = (M g).bs.take 9 :: sg M (g + 1) s := by
  unfold sg
  rw [show s - g = s - (g + 1) + 1 by omega, List.range_succ_eq_map, List.map_cons, List.map_map]
  congr 1
  refine List.map_congr_left (fun x _ => ?_)
  show (M (g + (x + 1))).bs.take 9 = (M (g + 1 + x)).bs.take 9
  rw [show g + (x + 1) = g + 1 + x by omega]
theorem sg_nil (M : Nat → M8) (g : Nat) : sg M g g = [] := by simp [sg]
theorem sg_none (M : Nat → M8) : sg M 0 0 = [] := rfl
set_option maxHeartbeats 8000000 in
/-- FifoOrders: the walk. -/
theorem fifoOrders (A : Option Addr) (n0 c0 : Nat) (M : Nat → M8) (A1 : Option Addr) (n1 c1 : Nat) (V : Nat → Bool) (w : World) (hM : M8Row w w.heap.size A n0 M) (hV : BRow w w.heap.size A1 n1 V) (hn0 : n0 ≤ 9223372036854775807) (hn1 : n1 ≤ 9223372036854775807) :
    Calls Try.prog 5 #[.slice A n0 c0, .slice A1 n1 c1] w fun e w' => e = .returned (.bool true) ∧ Below w.heap.size w w' := by
  obtain ⟨n, hn20, hnn, hk3⟩ := min_if n0 20
  obtain ⟨hm1, hm2⟩ := hk3 20 rfl
  clear hk3
  have CN := Lib.hid (lqNew w w 64 (by omega) (Below.refl _ _))
  have CQ := Lib.hid queuesC
  go_enter Try.func5, Try.ntmps5
  go_wp2_with (first
    | (go_at_call 34; refine CN.out.mono ?_; rintro e w1 ⟨g, rfl, h1⟩)
    | (go_at_call 27; refine (CQ.out _).mono ?_; rintro e w2 ⟨rfl, b2⟩))
  have H2 : Hid (LQ w w2 g 64 (sg M 0 0) 0 0) := by rw [sg_none]; exact h1.after b2
  obtain ⟨N, hN⟩ : ∃ N, N = 2 * n := ⟨_, rfl⟩
  have HN := Lib.hid hN
  have e2n : 2 * (n : Int) = (N : Int) := by omega
  have hNb : N ≤ 40 := by omega
  clear hN
  clear h1 b2 CN CQ
  go_loopw [8, 9] (fun s8 s9 wr => ∃ i gt : Nat, s9 = .int .i64 (i : Int) ∧ s8 = .int .i64 (gt : Int) ∧ i ≤ N ∧ gt ≤ i ∧ gt ≤ n ∧ i ≤ n + gt ∧ Hid (LQ w wr g 64 (sg M gt (min i n)) 0 (min i n))) (fun _ s9 _ => N - (intOf s9).toNat)
  case atStart => exact ⟨0, 0, rfl, rfl, by omega, by omega, by omega, by omega, by rw [show min 0 n = 0 by omega]; exact H2⟩
  case round =>
    clear H2
    obtain ⟨i, gt, rfl, rfl, hi, hg1, hg2, hg3, HQ⟩ := hrel
    by_cases hlt : i < N
    · have dl : decide ((i : Int) < (N : Int)) = true := by simp; omega
      -- Send
      obtain ⟨s, hs⟩ : ∃ s, s = min (i + 1) n := ⟨_, rfl⟩
      have hgs : gt ≤ s := by omega
      go_upto_region 9 with fail
      go_cut [49] (fun s49 wc => s49 = .bool false ∧ Hid (LQ w wc g 64 (sg M gt s) 0 s))
      case first =>
        by_cases hin : i < n
        · have d1 : decide ((i : Int) < (n : Int)) = true := by simp; omega
          have hi0 : i < n0 := by omega
          obtain ⟨b, off, hA, hb, hcc⟩ := hM.1.at_ (by omega)
          subst hA
          have hok := hM.2 i hi0
          have kx : w.cell? ⟨b, off + i, none⟩ = some (.slice (M i).A (M i).n (M i).c) := by
            have := hcc i hi0 0 _ (show (M8.cells (M i))[0]? = some (.slice (M i).A (M i).n (M i).c) from rfl)
            simpa using this
          have HX : Hid (∀ W, Below w.heap.size w W → W.cell? ⟨b, off + i, none⟩ = some (.slice (M i).A (M i).n (M i).c)) := fun W hW => (hW.cell (p := ⟨b, off + i, none⟩) hb).trans kx
          obtain ⟨k, hk9, hkn, hk3⟩ := min_if (M i).n 9
          obtain ⟨mk1, mk2⟩ := hk3 9 rfl
          clear hk3
          have hs1 : s = i + 1 := by omega
          have hmin : min i n = i := by omega
          rw [hmin] at HQ
          have hbel := HQ.out.bel
          have htk : (M i).bs.take 9 = (M i).bs.take k := by
            have := hok.rb.len8
            by_cases hk : k = 9
            · rw [hk]
            · rw [List.take_of_length_le (by omega), List.take_of_length_le (by omega)]
          have CS : Hid (∀ W, Below wr.heap.size wr W → Calls Try.prog 28 #[.pointer (some ⟨g, 0, none⟩), .slice (M i).A k (M i).c] W fun e w' => e = .returned (.int .i64 0) ∧ LQ w w' g 64 (sg M gt s) 0 s) := fun W hW => by
            have h1 := lqSend w W g 64 (sg M gt i) 0 i (M i).A k (M i).c ((M i).bs.take k) (HQ.out.after hW) (((hok.rb.below (hbel.trans (hW.mono hbel.size))).up (Nat.le_trans hbel.size hW.size)).cut8 k hkn) (fun e => ⟨by have := (hok.bno e).1; omega, (hok.bno e).2⟩) (by omega) (by omega) (by omega) (by rw [sg_length]; omega)
            rw [← htk, sg_snoc M gt i (by omega), ← hs1] at h1
            exact h1
          have hnc := hok.bnc
          have hcm := hok.bcm
          have hn1c : k ≤ (M i).c := by omega
          have f1 : (i : Int) < (n0 : Int) := by omega
          have HBEL := Lib.hid hbel
          generalize (M i).A = mA at *
          generalize (M i).n = mn at *
          generalize (M i).c = mc at *
          clear hcc hok htk hs1 hmin hs kx
          refine wp_region_noPanic ?_
          refine wp_region_held_drew (S := fun W => W.cell? ⟨b, off + i, none⟩ = some (.slice mA mn mc)) (by kernel_rfl) (HX.out wr.drew (HBEL.out.trans ((Below.refl _ _).drew))) (fun hHeld => ?_)
          refine wpAnyH_take (i := 0) (oi := ⟨some 31, _, _, _, _, _⟩) (v := ?_) rfl (by kernel_rfl) (by kernel_rfl) (by kernel_rfl) (fun _ _ _ h => h) (Or.inl ⟨by rfl, ?_⟩) hHeld ?_
          rotate_left
          · intro W hSW; have hSW0 := hSW; go_simp; first | done | with_reducible rfl
          (try simp only [Act.put, List.setIfInBounds_toArray, List.set_cons_zero, List.set_cons_succ])
          refine wpAnyH_take (i := 1) (oi := ⟨some 32, _, _, _, _, _⟩) (v := ?_) rfl (by kernel_rfl) (by kernel_rfl) (by kernel_rfl) (fun _ _ _ h => h) (Or.inl ⟨by rfl, ?_⟩) hHeld ?_
          rotate_left
          · intro W hSW; have hSW0 := hSW; go_simp; first | done | with_reducible rfl
          (try simp only [Act.put, List.setIfInBounds_toArray, List.set_cons_zero, List.set_cons_succ])
          refine wpAnyH_take (i := 2) (oi := ⟨some 33, _, _, _, _, _⟩) (v := ?_) rfl (by kernel_rfl) (by kernel_rfl) (by kernel_rfl) (fun _ _ _ h => h) (Or.inl ⟨by rfl, ?_⟩) hHeld ?_
          rotate_left
          · intro W hSW; have hSW0 := hSW; go_simp; first | done | with_reducible rfl
          (try simp only [Act.put, List.setIfInBounds_toArray, List.set_cons_zero, List.set_cons_succ])
          refine wpAnyH_take (i := 3) (oi := ⟨some 34, _, _, _, _, _⟩) (v := ?_) rfl (by kernel_rfl) (by kernel_rfl) (by kernel_rfl) (fun _ _ _ h => h) (Or.inl ⟨by rfl, ?_⟩) hHeld ?_
          rotate_left
          · intro W hSW; have hSW0 := hSW; go_simp; first | done | with_reducible rfl
          (try simp only [Act.put, List.setIfInBounds_toArray, List.set_cons_zero, List.set_cons_succ])
          refine wpAnyH_take (i := 4) (oi := ⟨some 35, _, _, _, _, _⟩) (v := ?_) rfl (by kernel_rfl) (by kernel_rfl) (by kernel_rfl) (fun _ _ _ h => h) (Or.inl ⟨by rfl, ?_⟩) hHeld ?_
          rotate_left
          · intro W hSW; have hSW0 := hSW; go_simp; first | done | with_reducible rfl
          (try simp only [Act.put, List.setIfInBounds_toArray, List.set_cons_zero, List.set_cons_succ])
          refine wpAnyH_take (i := 5) (oi := ⟨some 36, _, _, _, _, _⟩) (v := ?_) rfl (by kernel_rfl) (by kernel_rfl) (by kernel_rfl) (fun _ _ _ h => h) (Or.inl ⟨by rfl, ?_⟩) hHeld ?_
          rotate_left
          · intro W hSW; have hSW0 := hSW; go_simp; first | done | with_reducible rfl
          (try simp only [Act.put, List.setIfInBounds_toArray, List.set_cons_zero, List.set_cons_succ])
          refine wpAnyH_take (i := 6) (oi := ⟨some 37, _, _, _, _, _⟩) (v := ?_) rfl (by kernel_rfl) (by kernel_rfl) (by kernel_rfl) (fun _ _ _ h => h) (Or.inl ⟨by rfl, ?_⟩) hHeld ?_
          rotate_left
          · intro W hSW; have hSW0 := hSW; go_simp; first | done | with_reducible rfl
          (try simp only [Act.put, List.setIfInBounds_toArray, List.set_cons_zero, List.set_cons_succ])
          refine wpAnyH_take (i := 7) (oi := ⟨some 38, _, _, _, _, _⟩) (v := ?_) rfl (by kernel_rfl) (by kernel_rfl) (by kernel_rfl) (fun _ _ _ h => h) (Or.inl ⟨by rfl, ?_⟩) hHeld ?_
          rotate_left
          · intro W hSW; have hSW0 := hSW; go_simp; first | done | with_reducible rfl
          (try simp only [Act.put, List.setIfInBounds_toArray, List.set_cons_zero, List.set_cons_succ])
          refine wpAnyH_take (i := 8) (oi := ⟨some 39, _, _, _, _, _⟩) (v := ?_) rfl (by kernel_rfl) (by kernel_rfl) (by kernel_rfl) (fun _ _ _ h => h) (Or.inl ⟨by rfl, ?_⟩) hHeld ?_
          rotate_left
          · intro W hSW; have hSW0 := hSW; go_simp; first | done | with_reducible rfl
          (try simp only [Act.put, List.setIfInBounds_toArray, List.set_cons_zero, List.set_cons_succ])
          refine wpAnyH_take (i := 9) (oi := ⟨some 40, _, _, _, _, _⟩) (v := ?_) rfl (by kernel_rfl) (by kernel_rfl) (by kernel_rfl) (fun _ _ _ h => h) (Or.inl ⟨by rfl, ?_⟩) hHeld ?_
          rotate_left
          · intro W hSW; have hSW0 := hSW; go_simp; first | done | with_reducible rfl
          (try simp only [Act.put, List.setIfInBounds_toArray, List.set_cons_zero, List.set_cons_succ])
          refine wpAnyH_take (i := 10) (oi := ⟨some 41, _, _, _, _, _⟩) (v := ?_) rfl (by kernel_rfl) (by kernel_rfl) (by kernel_rfl) (fun _ _ _ h => h) (Or.inl ⟨by rfl, ?_⟩) hHeld ?_
          rotate_left
          · intro W hSW; have hSW0 := hSW; go_simp; first | done | with_reducible rfl
          (try simp only [Act.put, List.setIfInBounds_toArray, List.set_cons_zero, List.set_cons_succ])
          refine wpAnyH_take (i := 11) (oi := ⟨some 42, _, _, _, _, _⟩) (v := ?_) rfl (by kernel_rfl) (by kernel_rfl) (by kernel_rfl) (fun _ _ _ h => h) (Or.inl ⟨by rfl, ?_⟩) hHeld ?_
          rotate_left
          · intro W hSW; have hSW0 := hSW; go_simp; first | done | with_reducible rfl
          (try simp only [Act.put, List.setIfInBounds_toArray, List.set_cons_zero, List.set_cons_succ])
          refine wpAnyH_take (i := 12) (oi := ⟨some 43, _, _, _, _, _⟩) (v := ?_) rfl (by kernel_rfl) (by kernel_rfl) (by kernel_rfl) (fun _ _ _ h => h) (Or.inl ⟨by rfl, ?_⟩) hHeld ?_
          rotate_left
          · intro W hSW; have hSW0 := hSW; go_simp; first | done | with_reducible rfl
          (try simp only [Act.put, List.setIfInBounds_toArray, List.set_cons_zero, List.set_cons_succ])
          refine wpAnyH_take (i := 13) (oi := ⟨some 44, _, _, _, _, _⟩) (v := ?_) rfl (by kernel_rfl) (by kernel_rfl) (by kernel_rfl) (fun _ _ _ h => h) (Or.inl ⟨by rfl, ?_⟩) hHeld ?_
          rotate_left
          · intro W hSW; have hSW0 := hSW; go_simp; first | done | with_reducible rfl
          (try simp only [Act.put, List.setIfInBounds_toArray, List.set_cons_zero, List.set_cons_succ])
          refine wpAnyH_take (i := 14) (oi := ⟨some 45, _, _, _, _, _⟩) (v := ?_) rfl (by kernel_rfl) (by kernel_rfl) (by kernel_rfl) (fun _ _ _ h => h) (Or.inl ⟨by rfl, ?_⟩) hHeld ?_
          rotate_left
          · intro W hSW; have hSW0 := hSW; go_simp; first | done | with_reducible rfl
          (try simp only [Act.put, List.setIfInBounds_toArray, List.set_cons_zero, List.set_cons_succ])
          refine wpAnyH_take (i := 15) (oi := ⟨some 46, _, _, _, _, _⟩) (v := ?_) rfl (by kernel_rfl) (by kernel_rfl) (by kernel_rfl) (fun _ _ _ h => h) (Or.inl ⟨by rfl, ?_⟩) hHeld ?_
          rotate_left
          · intro W hSW; have hSW0 := hSW; go_simp; first | done | with_reducible rfl
          (try simp only [Act.put, List.setIfInBounds_toArray, List.set_cons_zero, List.set_cons_succ])
          refine wpAnyH_ready (rs := [16]) (by kernel_rfl) (by simp) ?_
          refine AllReadyH.cons (o := ⟨some 47, _, _, _, _, _⟩) rfl (fun K hK => ?_) (AllReadyH.nil)
          go_simp
          go_at_call 28
          refine (CS.out wr.drew (Below.refl _ _).drew).mono ?_
          rintro e x1 ⟨rfl, h1⟩
          clear hHeld
          refine hK.out _ _ ?_ (fun hHeld => ?_)
          · exact HX.out x1 h1.bel
          clear hK K
          (try simp only [Act.put, List.setIfInBounds_toArray, List.set_cons_zero, List.set_cons_succ])
          refine wpAnyH_take (i := 17) (oi := ⟨some 48, _, _, _, _, _⟩) (v := ?_) rfl (by kernel_rfl) (by kernel_rfl) (by kernel_rfl) (fun _ _ _ h => h) (Or.inl ⟨by rfl, ?_⟩) hHeld ?_
          rotate_left
          · intro W hSW; have hSW0 := hSW; go_simp; first | done | with_reducible rfl
          (try simp only [Act.put, List.setIfInBounds_toArray, List.set_cons_zero, List.set_cons_succ])
          refine wpAnyH_take (i := 18) (oi := ⟨some 49, _, _, _, _, _⟩) (v := ?_) rfl (by kernel_rfl) (by kernel_rfl) (by kernel_rfl) (fun _ _ _ h => h) (Or.inl ⟨by rfl, ?_⟩) hHeld ?_
          rotate_left
          · intro W hSW; have hSW0 := hSW; go_simp; first | done | with_reducible rfl
          (try simp only [Act.put, List.setIfInBounds_toArray, List.set_cons_zero, List.set_cons_succ])
          refine wpAnyH_done (by kernel_rfl) ?_ _
          refine NoPanic.normal ?_
          clear hHeld
          go_wp2_with fail
          go_meet
          case rel => exact ⟨rfl, h1⟩
        · have d1 : decide ((i : Int) < (n : Int)) = false := by simp; omega
          have hmm : min i n = s := by omega
          rw [hmm] at HQ
          clear hmm hs
          go_quiet (fail)
          go_wp2_with fail
          go_meet
          case rel => exact ⟨rfl, HQ.out.after (below_drawn _)⟩
      case rest =>
        clear HQ
        obtain ⟨rfl, HQ1⟩ := hcut
        have hs20 : s ≤ 20 := by omega
        have hsn : s ≤ n := by omega
        have HS := Lib.hid hs
        have hbel := HQ1.out.bel
        obtain ⟨dv, hdv⟩ : ∃ dv, dv = (decide (n ≤ i) || (decide (i < n1) && V i)) := ⟨_, rfl⟩
        have HDV : Hid (n ≤ i → dv = true) := fun h => by rw [hdv]; simp [h]
        clear hs
        go_upto_region 11 with fail
        go_cut [64] (fun s64 wx => s64 = .bool dv ∧ wc = wx)
        case first =>
          by_cases h1 : n ≤ i
          · have d1 : decide ((i : Int) ≥ (n : Int)) = true := by simp; omega
            have d1' : decide ((n : Int) ≤ (i : Int)) = true := by simp; omega
            have d1'' : decide (n ≤ i) = true := by simp; omega
            obtain rfl := HDV.out h1
            clear hdv
            go_wp2_with fail
            go_meet
            case rel => exact ⟨rfl, rfl⟩
          · have d1 : decide ((i : Int) ≥ (n : Int)) = false := by simp; omega
            have d1' : decide ((n : Int) ≤ (i : Int)) = false := by simp; omega
            have d1'' : decide (n ≤ i) = false := by simp; omega
            by_cases h2 : i < n1
            · have d2 : decide ((i : Int) < (n1 : Int)) = true := by simp; omega
              obtain ⟨b, off, hA, hb, hcc⟩ := hV.1.at_ (by omega)
              subst hA
              have kx : wc.cell? ⟨b, off + i, none⟩ = some (.bool (V i)) := by
                have h3 := hcc i h2 0 _ (show (B1c (V i))[0]? = some (.bool (V i)) from rfl)
                have h4 : w.cell? ⟨b, off + i, none⟩ = some (.bool (V i)) := by simpa using h3
                exact (hbel.cell (p := ⟨b, off + i, none⟩) hb).trans h4
              have hvv : V i = dv := by rw [hdv]; simp [h1, h2]
              rw [hvv] at kx
              have f1 : (i : Int) < (n1 : Int) := by omega
              clear hdv hcc hvv
              go_wp2_with fail
              go_meet
              case rel => exact ⟨rfl, rfl⟩
            · have d2 : decide ((i : Int) < (n1 : Int)) = false := by simp; omega
              obtain rfl : dv = false := by rw [hdv]; simp [h1, h2]
              clear hdv
              go_wp2_with fail
              go_meet
              case rel => exact ⟨rfl, rfl⟩
        obtain ⟨rfl, rfl⟩ := hcut
        go_upto_if 64 with fail
        go_cut [8] (fun s8 wx => s8 = .int .i64 (gt : Int) ∧ ∃ wt : Nat, Hid (LQ w wx g 64 (sg M gt s) wt s) ∧ wt ≤ 1 ∧ (wt = 1 → gt < s) ∧ (n ≤ i → gt < s → wt = 1))
        case first =>
          clear hdv
          cases dv with
          | true =>
            by_cases hgt : gt < s
            · have CD := Lib.hid (lqDeliver w wc g 64 (sg M gt s) 0 s HQ1.out (by rw [sg_length]; omega) (by rw [sg_length]; omega))
              go_wp2_with (go_at_call 29; refine CD.out.mono ?_; rintro e w3 ⟨rfl, h3⟩)
              go_meet
              case rel => exact ⟨rfl, 1, h3, by omega, fun _ => hgt, fun _ _ => rfl⟩
            · have CD := Lib.hid (lqDeliverNo w wc g 64 (sg M gt s) 0 s HQ1.out (by rw [sg_length]; omega) (by rw [sg_length]; omega))
              go_wp2_with (go_at_call 29; refine CD.out.mono ?_; rintro e w3 ⟨rfl, h3⟩)
              go_meet
              case rel => exact ⟨rfl, 0, h3, by omega, fun h => absurd h (by omega), fun _ h => absurd h hgt⟩
          | false =>
            have hni : ¬ n ≤ i := fun h => by have := HDV.out h; cases this
            go_wp2_with fail
            go_meet
            case rel => exact ⟨rfl, 0, HQ1, by omega, fun h => absurd h (by omega), fun h => absurd h hni⟩
        obtain ⟨rfl, wt, HQ2, hwt, hwt1, hwt2⟩ := hcut
        clear HQ1 hdv
        by_cases hw0 : wt = 0
        · subst hw0
          have hge : n ≤ i → s ≤ gt := fun h => by
            by_cases hx : gt < s
            · have := hwt2 h hx; omega
            · omega
          have hI : Hid (i + 1 ≤ n + gt) := by have := HS.out; unfold Hid; omega
          have HSM : Hid (min (i + 1) n = s) := HS.out.symm
          have CP := Lib.hid (lqPollNo w _ g 64 (sg M gt s) s HQ2.out)
          clear hwt1 hwt2 hge
          go_wp2_with (go_at_call 26; refine CP.out.mono ?_; rintro e w4 ⟨rfl, rfl⟩)
          go_roundw
          case rel => exact ⟨i + 1, gt, by go_num, rfl, by omega, by omega, hg2, hI.out, by rw [HSM.out]; exact HQ2⟩
          case measure => simp [intOf] <;> omega
        · obtain rfl : wt = 1 := by omega
          have hgt : gt < s := hwt1 rfl
          have HI : Hid (gt + 1 ≤ i + 1 ∧ gt + 1 ≤ n ∧ i + 1 ≤ n + (gt + 1)) := by unfold Hid; omega
          have HSM : Hid (min (i + 1) n = s) := HS.out.symm
          have hgn : gt < n := by omega
          have hgn0 : gt < n0 := by omega
          obtain ⟨m, hm⟩ : ∃ m, m = (M gt).bs.take 9 := ⟨_, rfl⟩
          rw [sg_cons M gt s hgt, ← hm] at HQ2
          obtain ⟨b, off, hA, hb, hcc⟩ := hM.1.at_ (by omega)
          subst hA
          have hok := hM.2 gt hgn0
          have kx : w.cell? ⟨b, off + gt, none⟩ = some (.slice (M gt).A (M gt).n (M gt).c) := by
            have := hcc gt hgn0 0 _ (show (M8.cells (M gt))[0]? = some (.slice (M gt).A (M gt).n (M gt).c) from rfl)
            simpa using this
          obtain ⟨k, hk9, hkn, hk3⟩ := min_if (M gt).n 9
          obtain ⟨mk1, mk2⟩ := hk3 9 rfl
          clear hk3
          have hm' : m = (M gt).bs.take k := by
            have := hok.rb.len8
            rw [hm]
            by_cases hk : k = 9
            · rw [hk]
            · rw [List.take_of_length_le (by omega), List.take_of_length_le (by omega)]
          have hml : m.length = k := by
            have := hok.rb.len8
            rw [hm', List.length_take]; omega
          have HX : Hid (∀ W, Below w.heap.size w W → W.cell? ⟨b, off + gt, none⟩ = some (.slice (M gt).A (M gt).n (M gt).c)) := fun W hW => (hW.cell (p := ⟨b, off + gt, none⟩) hb).trans kx
          obtain ⟨sm, hsm⟩ : ∃ sm, sm = str m := ⟨_, rfl⟩
          have HSS := Lib.hid hsm
          have HC : Hid (∀ W, Below w.heap.size w W → (convert 26 9 (.slice (M gt).A k (M gt).c)).run Try.prog W = .ok (.string sm) W) := fun W hW => by
            rw [hsm, hm']
            exact (hok.rb.cut8 k hkn).conv (fun e => by have := (hok.bno e).1; omega) W hW
          have hnc := hok.bnc
          have hcm := hok.bcm
          have hn1c : k ≤ (M gt).c := by omega
          have CP0 : Hid (∀ W, LQ w W g 64 (m :: sg M (gt + 1) s) 1 s → Calls Try.prog 26 #[.pointer (some ⟨g, 0, none⟩)] W fun e w' => LQ w w' g 64 (sg M (gt + 1) s) 0 s ∧ ∃ B d, e = .returned (.tuple #[.slice B k d, .bool true]) ∧ Own w' 0 5 B k d (U8 m)) := fun W hW => by
            have := lqPoll w W g 64 m (sg M (gt + 1) s) 0 s hW (by omega)
            rw [hml] at this
            exact this
          have CP := Lib.hid (CP0.out _ HQ2.out)
          clear CP0
          have d1 : decide ((gt : Int) ≥ (n : Int)) = false := by simp; omega
          have d1' : decide ((n : Int) ≤ (gt : Int)) = false := by simp; omega
          have f1 : (gt : Int) < (n0 : Int) := by omega
          have tsm : (sm.toList != sm.toList) = false := by simp
          generalize (M gt).A = mA at *
          generalize (M gt).n = mn at *
          generalize (M gt).c = mc at *
          clear HQ2 hwt1 hwt2 hw0 hcc hok hm' hm kx hml hsm hgt
          go_upto_region 15 with (go_at_call 26; refine CP.out.mono ?_; rintro e w4 ⟨h4, B, d, rfl, o4⟩)
          have kx := HX.out w4 h4.bel
          have kc1 : ∀ j, (convert 26 9 (.slice B k d)).run Try.prog (w4.drewN j) = .ok (.string sm) (w4.drewN j) := fun j => by rw [HSS.out]; exact o4.conv _ (below_drawn _)
          have kc2 : ∀ j, (convert 26 9 (.slice mA k mc)).run Try.prog (w4.drewN j) = .ok (.string sm) (w4.drewN j) := fun j => HC.out _ (h4.bel.trans (below_drawn _))
          have H4 := Lib.hid h4
          clear o4 h4
          go_quiet (fail)
          go_wp2_with fail
          go_roundw
          case rel => exact ⟨i + 1, gt + 1, by go_num, by go_num, by omega, HI.out.1, HI.out.2.1, HI.out.2.2, by rw [HSM.out]; exact H4.out.after (below_drawn _)⟩
          case measure => simp [intOf] <;> omega
    · have dl : decide ((i : Int) < (N : Int)) = false := by simp; omega
      have hNN := HN.out
      obtain rfl : gt = n := by omega
      have HE : Hid (LQ w wr g 64 [] 0 gt) := by
        have h1 := HQ.out
        rw [show min i gt = gt by omega, sg_nil] at h1
        exact h1
      have CU : Hid (∀ W, LQ w W g 64 [] 0 gt → Calls Try.prog 32 #[.pointer (some ⟨g, 0, none⟩)] W fun e w' => e = .returned (.int .i64 0) ∧ LQ w w' g 64 [] 0 gt) := fun W h => lqUnder w W g 64 [] 0 gt h (by simp) (by simp)
      have CK : Hid (∀ W kp, LQ w W g 64 [] 0 kp → Calls Try.prog 31 #[.pointer (some ⟨g, 0, none⟩)] W fun e w' => e = .returned (.int .i64 (kp : Int)) ∧ W = w') := fun W kp h => lqKept w W g 64 [] 0 kp h
      have CA : Hid (∀ W, LQ w W g 64 [] 0 gt → Calls Try.prog 30 #[.pointer (some ⟨g, 0, none⟩), .int .i64 (gt : Int)] W fun e w' => e = .returned (.int .i64 0) ∧ LQ w w' g 64 [] 0 0) := fun W h => by
        have h1 := lqAck w W g 64 [] 0 gt gt h (by simp) (by simp) (by omega) (by simp)
        rw [Nat.sub_self] at h1
        exact h1
      clear HQ HN hNN
      go_wp2_with fail
      refine (CU.out _ HE.out).mono ?_
      rintro e w3 ⟨rfl, h3⟩
      go_wp2_with fail
      refine (CK.out _ _ h3).mono ?_
      rintro e w4 ⟨rfl, rfl⟩
      go_wp2_with fail
      refine (CA.out _ h3).mono ?_
      rintro e w5 ⟨rfl, h5⟩
      go_wp2_with fail
      refine (CK.out _ _ h5).mono ?_
      rintro e w6 ⟨rfl, rfl⟩
      go_wp2
      go_ret
      exact ⟨rfl, h5.bel⟩
end Go.Proofs.Ytoiibjblaafgpaa
