/-
  The walk of ConvLate.
-/
import Derived.Test.YtlnjealhiikmeaaDoorKg
import Derived.Test.YtlnjealhiikmeaaDoorVn
namespace Go.Proofs.YtlnjealhiikmeaaDoor
open Go.RowKit
set_option linter.unusedVariables false
set_option linter.unusedSimpArgs false

theorem str_append (a b : List Nat) : str (a ++ b) = str a ++ str b := by
  unfold str strOfNums
  rw [List.map_append, List.map_append]
  exact (ByteArray.mk_append_mk _ _).symm
theorem str_size (a : List Nat) : (str a).size = a.length := by
  unfold str
  rw [strOfNums_size, List.length_map]

set_option maxHeartbeats 2000000 in
/-- ConvLate. -/
theorem walkConvLate (A : Option Addr) (na ca : Nat) (z : Int) (xs : List Nat) (w : World) (h1 : Rd w w.heap.size A na (U8 xs)) (b1 : ∀ b ∈ xs, b < 256) (hna : na ≤ 9223372036854775807) (hT : Taps w) :
    Calls Tryd.prog 7 #[.slice A na ca, .int .i64 z] w fun e w' => e = .returned (.bool true) ∧ Below w.heap.size w w' := by
  obtain ⟨i0, hi0, hz0, hz1, hz2⟩ := info_parts info5
  have C1 := Lib.hid (fewC A na ca 60 xs w h1 b1 (by omega) hna)
  have l1 := Bm.few_length xs 60
  have l1' : (Bm.few xs 60).length ≤ 60 := by omega
  have f1 := Bm.few_bit xs 60
  clear l1
  generalize Bm.few xs 60 = us at *
  obtain ⟨u, hu, hu2⟩ := wrap_u64 z
  obtain ⟨m, hm, hm2⟩ : ∃ m : Nat, m < 20 ∧ (u : Int) % 20 = (m : Int) := ⟨u % 20, by omega, by omega⟩
  go_enter Tryd.func7, Tryd.ntmps7
  go_wp2_with fail
  refine C1.out.mono ?_
  rintro e w1 ⟨A1, n1, c1, rfl, ow1, be1⟩
  have ln1 := ow1.rd.len8
  have hn1 : n1 ≤ 60 := by omega
  have HN := Lib.hid ln1
  have hT1 := hT.after be1
  clear ln1 l1' C1 h1 b1 hT
  have D1 := Lib.hid (codeC A1 n1 c1 us w1 (ow1.rdOf (Below.refl _ _)) ow1.none_ f1 (by omega) hT1)
  go_wp2_with fail
  refine D1.out.mono ?_
  rintro e w2 ⟨A2, n2, c2, rfl, ow2, be2⟩
  have ow1' := ow1.below be2 (Nat.le_refl _)
  clear D1
  have r1 := ow1'.rdOf (Below.refl _ _)
  go_wp2_with (first | (at_make; refine wpList_make_full _ rfl _ _ 30 rfl w2.heap.size 5 i0 (.int .u8 0) 1 Tryd.underlying30 hi0 hz0 hz1 .i64 .i64 _ _ m rfl rfl (by first | rfl | omega) (by first | rfl | omega) (by rw [hz2]; omega) (by unfold maxLen; omega) (Nat.le_refl _) ?_; intro w3 hown3 hgrow3; have hbel3 : Below w2.heap.size w2 w3 := (Below.refl _ _).grown hgrow3 (Nat.le_refl _) (fun k h => by cases h); have own3 : Own w3 w2.heap.size 5 (some ⟨w2.heap.size, 0, none⟩) m m (U8 (List.replicate m 0)) := ⟨by rw [made8] at hown3; exact hown3⟩) | (at_builtin; refine wpList_app _ rfl _ _ 30 rfl w2.heap.size 5 i0 _ 1 Tryd.underlying30 hi0 hz0 hz1 hz2 rfl _ _ _ _ rfl own3 _ A1 n1 c1 (U8 us) rfl (r1.below hbel3) ow1.none_ (U8_one _) (by omega) (by unfold maxLen; omega) hbel3.size ?_; intro A4 c4 w4 hown4 hgrow4))
  have bel4 : Below w2.heap.size w2 w4 := hbel3.grown hgrow4 hbel3.size (fun j hj => (own3.block j hj).1)
  rw [← U8_append] at hown4
  have own4 := hown4
  clear hown4 hgrow4 hown3 hgrow3 own3 hbel3
  have fz : ∀ x ∈ List.replicate m 0 ++ us, x ≤ 1 := by
    intro x hx
    rcases List.mem_append.1 hx with h | h
    · have := List.eq_of_mem_replicate h; omega
    · exact f1 x h
  have D2 := Lib.hid (codeC A4 (m + n1) c4 (List.replicate m 0 ++ us) w4 (own4.rdOf (Below.refl _ _)) own4.none_ fz (by omega) ((hT1.after be2).after bel4))
  rw [Cv.code_late] at D2
  refine D2.out.mono ?_
  rintro e w6 ⟨A6, n6, c6, rfl, ow6, be6⟩
  have b26 := Below.then_ bel4 be6
  have ow2' := ow2.below b26 (Nat.le_refl _)
  have HC2 := Lib.hid ow2'.convO
  have HC6 := Lib.hid ow6.convO
  have HB := Lib.hid (Below.then_ (Below.then_ be1 be2) b26)
  have hT6 := ((hT1.after be2).after b26)
  have CD := Lib.hid (fun W (hB : Below w6.heap.size w6 W) => codesC W (hT6.after hB))
  have lc := Cv.code_length us
  rw [← HN.out] at lc
  obtain ⟨N, hN⟩ : ∃ N, 4 * m = N := ⟨_, rfl⟩
  have hN2 : N ≤ 80 := by omega
  have e0 : 4 * (m : Int) = (N : Int) := by omega
  rw [hN] at HC6
  have hsa : (str (Cv.code us)).size ≤ 1000 := by rw [str_size]; omega
  have hsz : (str (List.replicate N 0)).size ≤ 1000 := by rw [str_size, List.length_replicate]; omega
  have hadd : ∀ W, (Op.stringOp .add (str (List.replicate N 0)) (str (Cv.code us))).run Tryd.prog W = .ok (.string (str (List.replicate N 0 ++ Cv.code us))) W := by
    intro W
    rw [str_append]
    exact run_string_add _ _ _ (by omega) (by omega)
  generalize str (List.replicate N 0 ++ Cv.code us) = s6 at *
  generalize hs2 : str (Cv.code us) = s2 at *
  generalize hsz0 : str (List.replicate N 0) = s0 at *
  have HSZ := Lib.hid hsz0
  have HK : Hid (∀ W, Below w6.heap.size w6 W → (Below w6.heap.size w6 W ∧ convO A2 n2 c2 W = .ok (.string s2) W ∧ convO A6 n6 c6 W = .ok (.string s6) W)) := fun W hB => ⟨hB, HC2.out W hB, HC6.out W hB⟩
  clear hs2 hsz0 hsa hsz HC2 HC6 ow2 ow2' ow6 ow1 ow1' own4 r1 D2 fz be1 be2 bel4 be6 b26 hT6 hT1 lc hN hi0 hz0 hz1 hz2 hu2 hm2
  obtain ⟨j0, hj0, hj1, hj2, hj3⟩ := info_parts info5
  have hany := convO_eq
  have hp1 : (s6.toList == s6.toList) = true := by simp
  have w0 : IntKind.i64.wrap (N : Int) = (N : Int) := IntWalk.i64_in _ (by omega)
  go_wp2_with fail
  refine wp_region_noPanic ?_
  refine wp_region_held_drew (S := fun W => Below w6.heap.size w6 W ∧ convO A2 n2 c2 W = .ok (.string s2) W ∧ convO A6 n6 c6 W = .ok (.string s6) W) (by kernel_rfl) (HK.out _ (Below.refl _ _).drew) (fun hHeld => ?_)
  refine wpAnyH_ready (rs := [0]) (by kernel_rfl) (by simp) ?_
  refine AllReadyH.cons (o := ⟨some 28, _, _, _, _, _⟩) rfl (fun K hK => ?_) AllReadyH.nil
  go_simp
  have b1 := hHeld.1
  refine (CD.out _ b1).mono ?_
  rintro e wa ⟨rfl, bea⟩
  have ba := Below.then_ b1 bea
  obtain ⟨wm, hrun, om, gm⟩ := run_make_full (P := Tryd.prog) wa w6.heap.size 30 5 j0 (.int .u8 0) 1 Tryd.underlying30 hj0 hj1 hj2 .i64 .i64 N (by rw [hj3]; omega) (by unfold maxLen; omega) ba.size
  clear hHeld b1
  refine hK.out _ _ ?_ (fun hHeld => ?_)
  · exact HK.out _ ba
  clear hK K
  (try simp only [Act.put, List.setIfInBounds_toArray, List.set_cons_zero, List.set_cons_succ])
  refine wpAnyH_take (i := 1) (oi := ⟨some 29, _, _, _, _, _⟩) (v := ?_) rfl (by kernel_rfl) (by kernel_rfl) (by kernel_rfl) (fun _ _ _ h => h) (Or.inl ⟨by rfl, ?_⟩) (by assumption) ?_
  rotate_left
  · intro W hSW; obtain ⟨hSW0, hSW1, hSW2⟩ := hSW; go_simp; first | done | with_reducible rfl
  (try simp only [Act.put, List.setIfInBounds_toArray, List.set_cons_zero, List.set_cons_succ])
  refine wpAnyH_take (i := 2) (oi := ⟨some 30, _, _, _, _, _⟩) (v := ?_) rfl (by kernel_rfl) (by kernel_rfl) (by kernel_rfl) (fun _ _ _ h => h) (Or.inl ⟨by rfl, ?_⟩) (by assumption) ?_
  rotate_left
  · intro W hSW; obtain ⟨hSW0, hSW1, hSW2⟩ := hSW; go_simp; first | done | with_reducible rfl
  (try simp only [Act.put, List.setIfInBounds_toArray, List.set_cons_zero, List.set_cons_succ])
  refine wpAnyH_take (i := 3) (oi := ⟨some 31, _, _, _, _, _⟩) (v := ?_) rfl (by kernel_rfl) (by kernel_rfl) (by kernel_rfl) (fun _ _ _ h => h) (Or.inl ⟨by rfl, ?_⟩) (by assumption) ?_
  rotate_left
  · intro W hSW; obtain ⟨hSW0, hSW1, hSW2⟩ := hSW; go_simp; first | done | with_reducible rfl
  (try simp only [Act.put, List.setIfInBounds_toArray, List.set_cons_zero, List.set_cons_succ])
  refine wpAnyH_take (i := 4) (oi := ⟨some 32, _, _, _, _, _⟩) (v := ?_) rfl (by kernel_rfl) (by kernel_rfl) (by kernel_rfl) (fun _ _ _ h => h) (Or.inl ⟨by rfl, ?_⟩) (by assumption) ?_
  rotate_left
  · intro W hSW; obtain ⟨hSW0, hSW1, hSW2⟩ := hSW; go_simp; first | done | with_reducible rfl
  (try simp only [Act.put, List.setIfInBounds_toArray, List.set_cons_zero, List.set_cons_succ])
  refine wpAnyH_take (i := 5) (oi := ⟨some 33, _, _, _, _, _⟩) (v := ?_) rfl (by kernel_rfl) (by kernel_rfl) (by kernel_rfl) (fun _ _ _ h => h) (Or.inl ⟨by rfl, ?_⟩) (by assumption) ?_
  rotate_left
  · intro W hSW; obtain ⟨hSW0, hSW1, hSW2⟩ := hSW; go_simp; first | done | with_reducible rfl
  (try simp only [Act.put, List.setIfInBounds_toArray, List.set_cons_zero, List.set_cons_succ])
  refine wpAnyH_take (i := 6) (oi := ⟨some 34, _, _, _, _, _⟩) (v := ?_) rfl (by kernel_rfl) (by kernel_rfl) (by kernel_rfl) (fun _ _ _ h => h) (Or.inl ⟨by rfl, ?_⟩) (by assumption) ?_
  rotate_left
  · intro W hSW; obtain ⟨hSW0, hSW1, hSW2⟩ := hSW; go_simp; first | done | with_reducible rfl
  (try simp only [Act.put, List.setIfInBounds_toArray, List.set_cons_zero, List.set_cons_succ])
  refine wpAnyH_take (i := 7) (oi := ⟨some 35, _, _, _, _, _⟩) (v := ?_) rfl (by kernel_rfl) (by kernel_rfl) (by kernel_rfl) (fun _ _ _ h => h) (Or.inl ⟨by rfl, ?_⟩) (by assumption) ?_
  rotate_left
  · intro W hSW; obtain ⟨hSW0, hSW1, hSW2⟩ := hSW; go_simp; first | done | with_reducible rfl
  (try simp only [Act.put, List.setIfInBounds_toArray, List.set_cons_zero, List.set_cons_succ])
  refine wpAnyH_take (i := 8) (oi := ⟨some 36, _, _, _, _, _⟩) (v := ?_) rfl (by kernel_rfl) (by kernel_rfl) (by kernel_rfl) (fun _ _ _ h => h) (Or.inl ⟨by rfl, ?_⟩) (by assumption) ?_
  rotate_left
  · intro W hSW; obtain ⟨hSW0, hSW1, hSW2⟩ := hSW; go_simp; first | done | with_reducible rfl
  (try simp only [Act.put, List.setIfInBounds_toArray, List.set_cons_zero, List.set_cons_succ])
  refine wpAnyH_take (i := 9) (oi := ⟨some 37, _, _, _, _, _⟩) (v := ?_) rfl (by kernel_rfl) (by kernel_rfl) (by kernel_rfl) (fun _ _ _ h => h) (Or.inl ⟨by rfl, ?_⟩) (by assumption) ?_
  rotate_left
  · intro W hSW; obtain ⟨hSW0, hSW1, hSW2⟩ := hSW; go_simp; first | done | with_reducible rfl
  (try simp only [Act.put, List.setIfInBounds_toArray, List.set_cons_zero, List.set_cons_succ])
  refine wpAnyH_take (i := 10) (oi := ⟨some 38, _, _, _, _, _⟩) (v := ?_) rfl (by kernel_rfl) (by kernel_rfl) (by kernel_rfl) (fun _ _ _ h => h) (Or.inl ⟨by rfl, ?_⟩) (by assumption) ?_
  rotate_left
  · intro W hSW; obtain ⟨hSW0, hSW1, hSW2⟩ := hSW; go_simp; first | done | with_reducible rfl
  (try simp only [Act.put, List.setIfInBounds_toArray, List.set_cons_zero, List.set_cons_succ])
  refine wpAnyH_take (i := 11) (oi := ⟨some 39, _, _, _, _, _⟩) (v := ?_) rfl (by kernel_rfl) (by kernel_rfl) (by kernel_rfl) (fun _ _ _ h => h) (Or.inl ⟨by rfl, ?_⟩) (by assumption) ?_
  rotate_left
  · intro W hSW; obtain ⟨hSW0, hSW1, hSW2⟩ := hSW; go_simp; first | done | with_reducible rfl
  (try simp only [Act.put, List.setIfInBounds_toArray, List.set_cons_zero, List.set_cons_succ])
  refine wpAnyH_take (i := 12) (oi := ⟨some 40, _, _, _, _, _⟩) (v := ?_) rfl (by kernel_rfl) (by kernel_rfl) (by kernel_rfl) (fun _ _ _ h => h) (Or.inl ⟨by rfl, ?_⟩) (by assumption) ?_
  rotate_left
  · intro W hSW; obtain ⟨hSW0, hSW1, hSW2⟩ := hSW; go_simp; first | done | with_reducible rfl
  (try simp only [Act.put, List.setIfInBounds_toArray, List.set_cons_zero, List.set_cons_succ])
  refine wpAnyH_take (i := 13) (oi := ⟨some 41, _, _, _, _, _⟩) (v := ?_) rfl (by kernel_rfl) (by kernel_rfl) (by kernel_rfl) (fun _ _ _ h => h) (Or.inl ⟨by rfl, ?_⟩) (by assumption) ?_
  rotate_left
  · intro W hSW; obtain ⟨hSW0, hSW1, hSW2⟩ := hSW; go_simp; first | done | with_reducible rfl
  (try simp only [Act.put, List.setIfInBounds_toArray, List.set_cons_zero, List.set_cons_succ])
  refine wpAnyH_take (i := 16) (oi := ⟨some 44, _, _, _, _, _⟩) (v := ?_) rfl (by kernel_rfl) (by kernel_rfl) (by kernel_rfl) (fun _ _ _ h => h) (Or.inl ⟨by rfl, ?_⟩) (by assumption) ?_
  rotate_left
  · intro W hSW; obtain ⟨hSW0, hSW1, hSW2⟩ := hSW; go_simp; first | done | with_reducible rfl
  (try simp only [Act.put, List.setIfInBounds_toArray, List.set_cons_zero, List.set_cons_succ])
  refine wpAnyH_take (i := 17) (oi := ⟨some 45, _, _, _, _, _⟩) (v := ?_) rfl (by kernel_rfl) (by kernel_rfl) (by kernel_rfl) (fun _ _ _ h => h) (Or.inl ⟨by rfl, ?_⟩) (by assumption) ?_
  rotate_left
  · intro W hSW; obtain ⟨hSW0, hSW1, hSW2⟩ := hSW; go_simp; first | done | with_reducible rfl
  (try simp only [Act.put, List.setIfInBounds_toArray, List.set_cons_zero, List.set_cons_succ])
  refine wpAnyH_ready (rs := [14]) (by kernel_rfl) (by simp) ?_
  refine AllReadyH.cons (o := ⟨some 42, _, _, _, _, _⟩) rfl (fun K hK => ?_) AllReadyH.nil
  go_simp
  have bm : Below w6.heap.size w6 wm := ba.grown gm ba.size (fun k h => by cases h)
  have omm : Own wm w6.heap.size 5 (some ⟨wa.heap.size, 0, none⟩) N N (U8 (List.replicate N 0)) := ⟨by rw [made8] at om; exact om⟩
  have hq := omm.convO _ (Below.refl _ _)
  rw [HSZ.out] at hq
  clear hHeld
  refine hK.out _ _ ?_ (fun hHeld => ?_)
  · exact HK.out _ bm
  clear hK K
  (try simp only [Act.put, List.setIfInBounds_toArray, List.set_cons_zero, List.set_cons_succ])
  refine wpAnyH_ready (rs := [15]) (by kernel_rfl) (by simp) ?_
  refine AllReadyH.cons (o := ⟨some 43, _, _, _, _, _⟩) rfl (fun K hK => ?_) AllReadyH.nil
  go_simp
  clear hHeld
  refine hK.out _ _ ?_ (fun hHeld => ?_)
  · exact HK.out _ bm
  clear hK K
  (try simp only [Act.put, List.setIfInBounds_toArray, List.set_cons_zero, List.set_cons_succ])
  refine wpAnyH_take (i := 18) (oi := ⟨some 46, _, _, _, _, _⟩) (v := ?_) rfl (by kernel_rfl) (by kernel_rfl) (by kernel_rfl) (fun _ _ _ h => h) (Or.inl ⟨by rfl, ?_⟩) (by assumption) ?_
  rotate_left
  · intro W hSW; obtain ⟨hSW0, hSW1, hSW2⟩ := hSW; go_simp; first | done | with_reducible rfl
  (try simp only [Act.put, List.setIfInBounds_toArray, List.set_cons_zero, List.set_cons_succ])
  refine wpAnyH_take (i := 19) (oi := ⟨some 47, _, _, _, _, _⟩) (v := ?_) rfl (by kernel_rfl) (by kernel_rfl) (by kernel_rfl) (fun _ _ _ h => h) (Or.inl ⟨by rfl, ?_⟩) (by assumption) ?_
  rotate_left
  · intro W hSW; obtain ⟨hSW0, hSW1, hSW2⟩ := hSW; go_simp; first | done | with_reducible rfl
  (try simp only [Act.put, List.setIfInBounds_toArray, List.set_cons_zero, List.set_cons_succ])
  refine wpAnyH_take (i := 20) (oi := ⟨some 48, _, _, _, _, _⟩) (v := ?_) rfl (by kernel_rfl) (by kernel_rfl) (by kernel_rfl) (fun _ _ _ h => h) (Or.inl ⟨by rfl, ?_⟩) (by assumption) ?_
  rotate_left
  · intro W hSW; obtain ⟨hSW0, hSW1, hSW2⟩ := hSW; go_simp; first | done | with_reducible rfl
  (try simp only [Act.put, List.setIfInBounds_toArray, List.set_cons_zero, List.set_cons_succ])
  refine wpAnyH_take (i := 21) (oi := ⟨some 4, _, _, _, _, _⟩) (v := ?_) rfl (by kernel_rfl) (by kernel_rfl) (by kernel_rfl) (fun _ _ _ h => h) (Or.inl ⟨by rfl, ?_⟩) (by assumption) ?_
  rotate_left
  · intro W hSW; obtain ⟨hSW0, hSW1, hSW2⟩ := hSW; go_simp; first | done | with_reducible rfl
  (try simp only [Act.put, List.setIfInBounds_toArray, List.set_cons_zero, List.set_cons_succ])
  refine wpAnyH_done (by kernel_rfl) ?_ _
  refine NoPanic.normal ?_
  go_wp2
  go_ret
  exact ⟨rfl, Below.then_ HB.out hHeld.1⟩
end Go.Proofs.YtlnjealhiikmeaaDoor
