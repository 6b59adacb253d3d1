/-
  The walk of Crc32Sums.
-/
import Derived.Test.YtmafkcjlehlebaaCu
namespace Go.Proofs.Ytmafkcjlehlebaa
open Go.RowKit
set_option linter.unusedVariables false
set_option linter.unusedSimpArgs false

set_option maxHeartbeats 1000000 in
/-- Crc32Sums. -/
theorem walk3 (A : Option Addr) (n c : Nat) (xs : List Nat) (w : World) (h1 : Rd w w.heap.size A n (U8 xs)) (b1 : ∀ b ∈ xs, b < 256) (hnc : n ≤ c) (hc : c ≤ 9223372036854775807) (hnone : A = none → n = 0 ∧ c = 0) :
    Calls Try.prog 3 #[.slice A n c] w fun e w' => e = .returned (.bool true) ∧ Below w.heap.size w w' := by
  obtain ⟨i0, hi0, hz0, hz1, hz2⟩ := info_parts info5
  obtain ⟨k, hk, hk2, hk3⟩ := min_if n 100
  obtain ⟨hm1, hm2⟩ := hk3 100 rfl
  clear hk3
  have r1 := h1.cut8 k hk2
  have bk := take256 b1 k
  generalize xs.take k = ls at *
  have r2 : Rd (w.alloc (.cells #[] 5)) w.heap.size A k (U8 ls) := r1.below ((Below.refl _ _).alloc (Nat.le_refl _) _)
  have hn2 : A = none → k = 0 ∧ c = 0 := fun h => ⟨by have := (hnone h).1; omega, (hnone h).2⟩
  have o1 : Own (w.alloc (.cells #[] 5)) w.heap.size 5 (some ⟨w.heap.size, 0, none⟩) 0 0 [] := ⟨World.ownsRow_made w #[] 0 (Nat.le_refl _) (by unfold maxLen; omega) (by simp)⟩
  have BK := Lib.hid bk
  clear h1 b1 hnone r1 bk
  go_enter Try.func3, Try.ntmps3
  go_wp2_with (at_builtin; refine wpList_app _ rfl _ _ 22 rfl w.heap.size 5 i0 _ 1 Try.underlying22 hi0 hz0 hz1 hz2 rfl _ 0 0 [] rfl o1 w.heap.size A k c (U8 ls) rfl r2 hn2 (U8_one ls) (by omega) (by unfold maxLen; omega) (by simp) ?_; intro A5 c5 w5 hown5 hgrow5; have own := hown5.to (Nat.zero_add k) (List.nil_append (U8 ls)); have hcv := own.conv w5 (Below.refl _ _))
  have bel : Below w.heap.size w w5 := ((Below.refl _ _).alloc (Nat.le_refl _) _).grown hgrow5 (by simp) (fun j hj => by simp [Value.ownBlock] at hj; omega)
  clear hown5 hgrow5 r2 hn2 o1 hi0 hz0 hz1 hz2 hm1 hm2 hcv
  have HC := Lib.hid own.convO
  have hn5 : A5 = none → k = 0 ∧ c5 = 0 := own.none_
  have hb5 := own.bounds
  have hc5 : c5 ≤ 9223372036854775807 := by have := hb5.2; unfold maxLen at this; omega
  have C10 := Lib.hid (closeC A5 k c5 ls w5 (own.rdOf (Below.refl _ _)) BK.out hn5 (by omega))
  have C11 := Lib.hid (fun (W : World) (hB : Below w5.heap.size w5 W) => openC A5 k c5 ls W (own.rdOf hB) BK.out hb5.1 (by omega) hc5)
  have C12 := Lib.hid (fun (W : World) (hB : Below w5.heap.size w5 W) => refOpenC A5 k c5 ls W (own.rdOf hB) BK.out hb5.1 (by omega) hc5 (fun W' hB' => own.convO W' (Below.then_ hB hB')))
  have D14 := Lib.hid (fun (W : World) (hB : Below w5.heap.size w5 W) => sum32 A5 k c5 ls W (own.rdOf hB) BK.out (by omega))
  have D15 := Lib.hid (fun (W : World) (hB : Below w5.heap.size w5 W) => refSum32 A5 k c5 ls W (own.rdOf hB) BK.out (by omega))
  have D16 := Lib.hid (fun (W : World) (hB : Below w5.heap.size w5 W) => refCloseC A5 k c5 ls W (own.rdOf hB) BK.out hn5 (by omega))
  go_wp2_with fail
  refine C10.out.mono ?_
  rintro e w6 ⟨A6, n6, c6, rfl, ow6, be6⟩
  have CV6 := Lib.hid ow6.convO
  go_wp2_with fail
  refine (C11.out _ be6).mono ?_
  rintro e w7 ⟨A7, n7, c7, rfl, CV7, be7⟩
  have be57 := Below.then_ be6 be7
  go_wp2_with fail
  refine (C12.out _ be57).mono ?_
  rintro e w8 ⟨A8, n8, c8, rfl, CV8, be8⟩
  have be58 := Below.then_ be57 be8
  have bel8 := Below.then_ bel be58
  generalize hs0 : str ls = s0 at *
  generalize hs2 : str (Crc.close32 ls) = s2 at *
  generalize hsd : opened ls = sd at *
  have HS2 := Lib.hid hs2
  have HK : Hid (∀ W, Below w8.heap.size w8 W → (Below w8.heap.size w8 W ∧ convO A5 k c5 W = .ok (.string s0) W ∧ convO A6 n6 c6 W = .ok (.string s2) W ∧ convO A7 n7 c7 W = .ok (.string sd) W ∧ convO A8 n8 c8 W = .ok (.string sd) W)) := fun W hB => ⟨hB, HC.out W (Below.then_ be58 hB), CV6.out W (Below.then_ be7 (Below.then_ be8 hB)), CV7.out W (Below.then_ be8 hB), CV8.out W hB⟩
  have C14 := Lib.hid (fun (W : World) (hB : Below w8.heap.size w8 W) => D14.out W (Below.then_ be58 hB))
  have C15 := Lib.hid (fun (W : World) (hB : Below w8.heap.size w8 W) => D15.out W (Below.then_ be58 hB))
  have C16 := Lib.hid (fun (W : World) (hB : Below w8.heap.size w8 W) => D16.out W (Below.then_ be58 hB))
  generalize Crc.ok32 ls = ok at *
  generalize Crc.c32 ls = r at *
  clear hs0 hs2 hsd HC own hn5 hb5 C10 C11 C12 D14 D15 D16 CV6 CV7 CV8 be6 be7 be8 be57 be58 ow6 bel
  have hany := convO_eq
  have hp : (ok == ok) = true := by simp
  go_wp2_with fail
  refine wp_region_noPanic ?_
  refine wp_region_held_drew (S := fun W => Below w8.heap.size w8 W ∧ convO A5 k c5 W = .ok (.string s0) W ∧ convO A6 n6 c6 W = .ok (.string s2) W ∧ convO A7 n7 c7 W = .ok (.string sd) W ∧ convO A8 n8 c8 W = .ok (.string sd) W) (by kernel_rfl) (HK.out _ (Below.refl _ _).drew) (fun hHeld => ?_)
  refine wpAnyH_ready (rs := [0]) (by kernel_rfl) (by simp) ?_
  refine AllReadyH.cons (o := ⟨some 30, _, _, _, _, _⟩) rfl (fun K hK => ?_) AllReadyH.nil
  go_simp
  have b1 := hHeld.1
  refine (sums32 _).mono ?_
  rintro e wa ⟨rfl, bea⟩
  have ba := Below.then_ b1 bea
  clear hHeld b1
  refine hK.out _ _ ?_ (fun hHeld => ?_)
  · exact HK.out _ ba
  clear hK K
  (try simp only [Act.put, List.setIfInBounds_toArray, List.set_cons_zero, List.set_cons_succ])
  refine wpAnyH_take (i := 1) (oi := ⟨some 31, _, _, _, _, _⟩) (v := ?_) rfl (by kernel_rfl) (by kernel_rfl) (by kernel_rfl) (fun _ _ _ h => h) (Or.inl ⟨by rfl, ?_⟩) (by assumption) ?_
  rotate_left
  · intro W hSW; obtain ⟨hSW0, hSW1, hSW2, hSW3, hSW4⟩ := hSW; go_simp; first | done | with_reducible rfl
  (try simp only [Act.put, List.setIfInBounds_toArray, List.set_cons_zero, List.set_cons_succ])
  refine wpAnyH_take (i := 2) (oi := ⟨some 32, _, _, _, _, _⟩) (v := ?_) rfl (by kernel_rfl) (by kernel_rfl) (by kernel_rfl) (fun _ _ _ h => h) (Or.inl ⟨by rfl, ?_⟩) (by assumption) ?_
  rotate_left
  · intro W hSW; obtain ⟨hSW0, hSW1, hSW2, hSW3, hSW4⟩ := hSW; go_simp; first | done | with_reducible rfl
  (try simp only [Act.put, List.setIfInBounds_toArray, List.set_cons_zero, List.set_cons_succ])
  refine wpAnyH_take (i := 4) (oi := ⟨some 34, _, _, _, _, _⟩) (v := ?_) rfl (by kernel_rfl) (by kernel_rfl) (by kernel_rfl) (fun _ _ _ h => h) (Or.inl ⟨by rfl, ?_⟩) (by assumption) ?_
  rotate_left
  · intro W hSW; obtain ⟨hSW0, hSW1, hSW2, hSW3, hSW4⟩ := hSW; go_simp; first | done | with_reducible rfl
  (try simp only [Act.put, List.setIfInBounds_toArray, List.set_cons_zero, List.set_cons_succ])
  refine wpAnyH_ready (rs := [3]) (by kernel_rfl) (by simp) ?_
  refine AllReadyH.cons (o := ⟨some 33, _, _, _, _, _⟩) rfl (fun K hK => ?_) AllReadyH.nil
  go_simp
  refine (C14.out _ ba).mono ?_
  rintro e wb ⟨rfl, rfl⟩
  clear hHeld
  refine hK.out _ _ ?_ (fun hHeld => ?_)
  · exact HK.out _ ba
  clear hK K
  (try simp only [Act.put, List.setIfInBounds_toArray, List.set_cons_zero, List.set_cons_succ])
  refine wpAnyH_ready (rs := [5]) (by kernel_rfl) (by simp) ?_
  refine AllReadyH.cons (o := ⟨some 35, _, _, _, _, _⟩) rfl (fun K hK => ?_) AllReadyH.nil
  go_simp
  refine (C15.out _ ba).mono ?_
  rintro e wb ⟨rfl, beb⟩
  have bb := Below.then_ ba beb
  clear hHeld
  refine hK.out _ _ ?_ (fun hHeld => ?_)
  · exact HK.out _ bb
  clear hK K
  (try simp only [Act.put, List.setIfInBounds_toArray, List.set_cons_zero, List.set_cons_succ])
  refine wpAnyH_take (i := 6) (oi := ⟨some 36, _, _, _, _, _⟩) (v := ?_) rfl (by kernel_rfl) (by kernel_rfl) (by kernel_rfl) (fun _ _ _ h => h) (Or.inl ⟨by rfl, ?_⟩) (by assumption) ?_
  rotate_left
  · intro W hSW; obtain ⟨hSW0, hSW1, hSW2, hSW3, hSW4⟩ := hSW; go_simp; first | done | with_reducible rfl
  (try simp only [Act.put, List.setIfInBounds_toArray, List.set_cons_zero, List.set_cons_succ])
  refine wpAnyH_take (i := 7) (oi := ⟨some 37, _, _, _, _, _⟩) (v := ?_) rfl (by kernel_rfl) (by kernel_rfl) (by kernel_rfl) (fun _ _ _ h => h) (Or.inl ⟨by rfl, ?_⟩) (by assumption) ?_
  rotate_left
  · intro W hSW; obtain ⟨hSW0, hSW1, hSW2, hSW3, hSW4⟩ := hSW; go_simp; first | done | with_reducible rfl
  (try simp only [Act.put, List.setIfInBounds_toArray, List.set_cons_zero, List.set_cons_succ])
  refine wpAnyH_take (i := 8) (oi := ⟨some 38, _, _, _, _, _⟩) (v := ?_) rfl (by kernel_rfl) (by kernel_rfl) (by kernel_rfl) (fun _ _ _ h => h) (Or.inl ⟨by rfl, ?_⟩) (by assumption) ?_
  rotate_left
  · intro W hSW; obtain ⟨hSW0, hSW1, hSW2, hSW3, hSW4⟩ := hSW; go_simp; first | done | with_reducible rfl
  (try simp only [Act.put, List.setIfInBounds_toArray, List.set_cons_zero, List.set_cons_succ])
  refine wpAnyH_take (i := 9) (oi := ⟨some 39, _, _, _, _, _⟩) (v := ?_) rfl (by kernel_rfl) (by kernel_rfl) (by kernel_rfl) (fun _ _ _ h => h) (Or.inl ⟨by rfl, ?_⟩) (by assumption) ?_
  rotate_left
  · intro W hSW; obtain ⟨hSW0, hSW1, hSW2, hSW3, hSW4⟩ := hSW; go_simp; first | done | with_reducible rfl
  (try simp only [Act.put, List.setIfInBounds_toArray, List.set_cons_zero, List.set_cons_succ])
  refine wpAnyH_take (i := 10) (oi := ⟨some 40, _, _, _, _, _⟩) (v := ?_) rfl (by kernel_rfl) (by kernel_rfl) (by kernel_rfl) (fun _ _ _ h => h) (Or.inl ⟨by rfl, ?_⟩) (by assumption) ?_
  rotate_left
  · intro W hSW; obtain ⟨hSW0, hSW1, hSW2, hSW3, hSW4⟩ := hSW; go_simp; first | done | with_reducible rfl
  (try simp only [Act.put, List.setIfInBounds_toArray, List.set_cons_zero, List.set_cons_succ])
  refine wpAnyH_take (i := 11) (oi := ⟨some 41, _, _, _, _, _⟩) (v := ?_) rfl (by kernel_rfl) (by kernel_rfl) (by kernel_rfl) (fun _ _ _ h => h) (Or.inl ⟨by rfl, ?_⟩) (by assumption) ?_
  rotate_left
  · intro W hSW; obtain ⟨hSW0, hSW1, hSW2, hSW3, hSW4⟩ := hSW; go_simp; first | done | with_reducible rfl
  (try simp only [Act.put, List.setIfInBounds_toArray, List.set_cons_zero, List.set_cons_succ])
  refine wpAnyH_ready (rs := [12]) (by kernel_rfl) (by simp) ?_
  refine AllReadyH.cons (o := ⟨some 42, _, _, _, _, _⟩) rfl (fun K hK => ?_) AllReadyH.nil
  go_simp
  refine (C16.out _ bb).mono ?_
  rintro e wc ⟨Ac, nc, cc, rfl, owc, bec⟩
  have bc := Below.then_ bb bec
  have hq := owc.convO _ (Below.refl _ _)
  rw [HS2.out] at hq
  clear hHeld
  refine hK.out _ _ ?_ (fun hHeld => ?_)
  · exact HK.out _ bc
  clear hK K
  (try simp only [Act.put, List.setIfInBounds_toArray, List.set_cons_zero, List.set_cons_succ])
  refine wpAnyH_ready (rs := [13]) (by kernel_rfl) (by simp) ?_
  refine AllReadyH.cons (o := ⟨some 43, _, _, _, _, _⟩) rfl (fun K hK => ?_) AllReadyH.nil
  go_simp
  clear hHeld
  refine hK.out _ _ ?_ (fun hHeld => ?_)
  · exact HK.out _ bc
  clear hK K
  (try simp only [Act.put, List.setIfInBounds_toArray, List.set_cons_zero, List.set_cons_succ])
  clear hq
  refine wpAnyH_take (i := 14) (oi := ⟨some 44, _, _, _, _, _⟩) (v := ?_) rfl (by kernel_rfl) (by kernel_rfl) (by kernel_rfl) (fun _ _ _ h => h) (Or.inl ⟨by rfl, ?_⟩) (by assumption) ?_
  rotate_left
  · intro W hSW; obtain ⟨hSW0, hSW1, hSW2, hSW3, hSW4⟩ := hSW; go_simp; first | done | with_reducible rfl
  (try simp only [Act.put, List.setIfInBounds_toArray, List.set_cons_zero, List.set_cons_succ])
  refine wpAnyH_take (i := 15) (oi := ⟨some 45, _, _, _, _, _⟩) (v := ?_) rfl (by kernel_rfl) (by kernel_rfl) (by kernel_rfl) (fun _ _ _ h => h) (Or.inl ⟨by rfl, ?_⟩) (by assumption) ?_
  rotate_left
  · intro W hSW; obtain ⟨hSW0, hSW1, hSW2, hSW3, hSW4⟩ := hSW; go_simp; first | done | with_reducible rfl
  (try simp only [Act.put, List.setIfInBounds_toArray, List.set_cons_zero, List.set_cons_succ])
  refine wpAnyH_take (i := 16) (oi := ⟨some 46, _, _, _, _, _⟩) (v := ?_) rfl (by kernel_rfl) (by kernel_rfl) (by kernel_rfl) (fun _ _ _ h => h) (Or.inl ⟨by rfl, ?_⟩) (by assumption) ?_
  rotate_left
  · intro W hSW; obtain ⟨hSW0, hSW1, hSW2, hSW3, hSW4⟩ := hSW; go_simp; first | done | with_reducible rfl
  (try simp only [Act.put, List.setIfInBounds_toArray, List.set_cons_zero, List.set_cons_succ])
  refine wpAnyH_take (i := 17) (oi := ⟨some 47, _, _, _, _, _⟩) (v := ?_) rfl (by kernel_rfl) (by kernel_rfl) (by kernel_rfl) (fun _ _ _ h => h) (Or.inl ⟨by rfl, ?_⟩) (by assumption) ?_
  rotate_left
  · intro W hSW; obtain ⟨hSW0, hSW1, hSW2, hSW3, hSW4⟩ := hSW; go_simp; first | done | with_reducible rfl
  (try simp only [Act.put, List.setIfInBounds_toArray, List.set_cons_zero, List.set_cons_succ])
  refine wpAnyH_take (i := 18) (oi := ⟨some 48, _, _, _, _, _⟩) (v := ?_) rfl (by kernel_rfl) (by kernel_rfl) (by kernel_rfl) (fun _ _ _ h => h) (Or.inl ⟨by rfl, ?_⟩) (by assumption) ?_
  rotate_left
  · intro W hSW; obtain ⟨hSW0, hSW1, hSW2, hSW3, hSW4⟩ := hSW; go_simp; first | done | with_reducible rfl
  (try simp only [Act.put, List.setIfInBounds_toArray, List.set_cons_zero, List.set_cons_succ])
  refine wpAnyH_take (i := 19) (oi := ⟨some 49, _, _, _, _, _⟩) (v := ?_) rfl (by kernel_rfl) (by kernel_rfl) (by kernel_rfl) (fun _ _ _ h => h) (Or.inl ⟨by rfl, ?_⟩) (by assumption) ?_
  rotate_left
  · intro W hSW; obtain ⟨hSW0, hSW1, hSW2, hSW3, hSW4⟩ := hSW; go_simp; first | done | with_reducible rfl
  (try simp only [Act.put, List.setIfInBounds_toArray, List.set_cons_zero, List.set_cons_succ])
  refine wpAnyH_take (i := 20) (oi := ⟨some 50, _, _, _, _, _⟩) (v := ?_) rfl (by kernel_rfl) (by kernel_rfl) (by kernel_rfl) (fun _ _ _ h => h) (Or.inl ⟨by rfl, ?_⟩) (by assumption) ?_
  rotate_left
  · intro W hSW; obtain ⟨hSW0, hSW1, hSW2, hSW3, hSW4⟩ := hSW; go_simp; first | done | with_reducible rfl
  (try simp only [Act.put, List.setIfInBounds_toArray, List.set_cons_zero, List.set_cons_succ])
  refine wpAnyH_take (i := 21) (oi := ⟨some 51, _, _, _, _, _⟩) (v := ?_) rfl (by kernel_rfl) (by kernel_rfl) (by kernel_rfl) (fun _ _ _ h => h) (Or.inl ⟨by rfl, ?_⟩) (by assumption) ?_
  rotate_left
  · intro W hSW; obtain ⟨hSW0, hSW1, hSW2, hSW3, hSW4⟩ := hSW; go_simp; first | done | with_reducible rfl
  (try simp only [Act.put, List.setIfInBounds_toArray, List.set_cons_zero, List.set_cons_succ])
  refine wpAnyH_take (i := 22) (oi := ⟨some 52, _, _, _, _, _⟩) (v := ?_) rfl (by kernel_rfl) (by kernel_rfl) (by kernel_rfl) (fun _ _ _ h => h) (Or.inl ⟨by rfl, ?_⟩) (by assumption) ?_
  rotate_left
  · intro W hSW; obtain ⟨hSW0, hSW1, hSW2, hSW3, hSW4⟩ := hSW; go_simp; first | done | with_reducible rfl
  (try simp only [Act.put, List.setIfInBounds_toArray, List.set_cons_zero, List.set_cons_succ])
  refine wpAnyH_take (i := 23) (oi := ⟨some 53, _, _, _, _, _⟩) (v := ?_) rfl (by kernel_rfl) (by kernel_rfl) (by kernel_rfl) (fun _ _ _ h => h) (Or.inl ⟨by rfl, ?_⟩) (by assumption) ?_
  rotate_left
  · intro W hSW; obtain ⟨hSW0, hSW1, hSW2, hSW3, hSW4⟩ := hSW; go_simp; first | done | with_reducible rfl
  (try simp only [Act.put, List.setIfInBounds_toArray, List.set_cons_zero, List.set_cons_succ])
  refine wpAnyH_take (i := 24) (oi := ⟨some 54, _, _, _, _, _⟩) (v := ?_) rfl (by kernel_rfl) (by kernel_rfl) (by kernel_rfl) (fun _ _ _ h => h) (Or.inl ⟨by rfl, ?_⟩) (by assumption) ?_
  rotate_left
  · intro W hSW; obtain ⟨hSW0, hSW1, hSW2, hSW3, hSW4⟩ := hSW; go_simp; first | done | with_reducible rfl
  (try simp only [Act.put, List.setIfInBounds_toArray, List.set_cons_zero, List.set_cons_succ])
  refine wpAnyH_take (i := 25) (oi := ⟨some 55, _, _, _, _, _⟩) (v := ?_) rfl (by kernel_rfl) (by kernel_rfl) (by kernel_rfl) (fun _ _ _ h => h) (Or.inl ⟨by rfl, ?_⟩) (by assumption) ?_
  rotate_left
  · intro W hSW; obtain ⟨hSW0, hSW1, hSW2, hSW3, hSW4⟩ := hSW; go_simp; first | done | with_reducible rfl
  (try simp only [Act.put, List.setIfInBounds_toArray, List.set_cons_zero, List.set_cons_succ])
  refine wpAnyH_take (i := 26) (oi := ⟨some 56, _, _, _, _, _⟩) (v := ?_) rfl (by kernel_rfl) (by kernel_rfl) (by kernel_rfl) (fun _ _ _ h => h) (Or.inl ⟨by rfl, ?_⟩) (by assumption) ?_
  rotate_left
  · intro W hSW; obtain ⟨hSW0, hSW1, hSW2, hSW3, hSW4⟩ := hSW; go_simp; first | done | with_reducible rfl
  (try simp only [Act.put, List.setIfInBounds_toArray, List.set_cons_zero, List.set_cons_succ])
  refine wpAnyH_take (i := 27) (oi := ⟨some 57, _, _, _, _, _⟩) (v := ?_) rfl (by kernel_rfl) (by kernel_rfl) (by kernel_rfl) (fun _ _ _ h => h) (Or.inl ⟨by rfl, ?_⟩) (by assumption) ?_
  rotate_left
  · intro W hSW; obtain ⟨hSW0, hSW1, hSW2, hSW3, hSW4⟩ := hSW; go_simp; first | done | with_reducible rfl
  (try simp only [Act.put, List.setIfInBounds_toArray, List.set_cons_zero, List.set_cons_succ])
  refine wpAnyH_take (i := 28) (oi := ⟨some 58, _, _, _, _, _⟩) (v := ?_) rfl (by kernel_rfl) (by kernel_rfl) (by kernel_rfl) (fun _ _ _ h => h) (Or.inl ⟨by rfl, ?_⟩) (by assumption) ?_
  rotate_left
  · intro W hSW; obtain ⟨hSW0, hSW1, hSW2, hSW3, hSW4⟩ := hSW; go_simp; first | done | with_reducible rfl
  (try simp only [Act.put, List.setIfInBounds_toArray, List.set_cons_zero, List.set_cons_succ])
  refine wpAnyH_take (i := 29) (oi := ⟨some 59, _, _, _, _, _⟩) (v := ?_) rfl (by kernel_rfl) (by kernel_rfl) (by kernel_rfl) (fun _ _ _ h => h) (Or.inl ⟨by rfl, ?_⟩) (by assumption) ?_
  rotate_left
  · intro W hSW; obtain ⟨hSW0, hSW1, hSW2, hSW3, hSW4⟩ := hSW; go_simp; first | done | with_reducible rfl
  (try simp only [Act.put, List.setIfInBounds_toArray, List.set_cons_zero, List.set_cons_succ])
  refine wpAnyH_take (i := 30) (oi := ⟨some 60, _, _, _, _, _⟩) (v := ?_) rfl (by kernel_rfl) (by kernel_rfl) (by kernel_rfl) (fun _ _ _ h => h) (Or.inl ⟨by rfl, ?_⟩) (by assumption) ?_
  rotate_left
  · intro W hSW; obtain ⟨hSW0, hSW1, hSW2, hSW3, hSW4⟩ := hSW; go_simp; first | done | with_reducible rfl
  (try simp only [Act.put, List.setIfInBounds_toArray, List.set_cons_zero, List.set_cons_succ])
  refine wpAnyH_take (i := 31) (oi := ⟨some 61, _, _, _, _, _⟩) (v := ?_) rfl (by kernel_rfl) (by kernel_rfl) (by kernel_rfl) (fun _ _ _ h => h) (Or.inl ⟨by rfl, ?_⟩) (by assumption) ?_
  rotate_left
  · intro W hSW; obtain ⟨hSW0, hSW1, hSW2, hSW3, hSW4⟩ := hSW; go_simp; first | done | with_reducible rfl
  (try simp only [Act.put, List.setIfInBounds_toArray, List.set_cons_zero, List.set_cons_succ])
  refine wpAnyH_take (i := 32) (oi := ⟨some 62, _, _, _, _, _⟩) (v := ?_) rfl (by kernel_rfl) (by kernel_rfl) (by kernel_rfl) (fun _ _ _ h => h) (Or.inl ⟨by rfl, ?_⟩) (by assumption) ?_
  rotate_left
  · intro W hSW; obtain ⟨hSW0, hSW1, hSW2, hSW3, hSW4⟩ := hSW; go_simp; first | done | with_reducible rfl
  (try simp only [Act.put, List.setIfInBounds_toArray, List.set_cons_zero, List.set_cons_succ])
  refine wpAnyH_take (i := 33) (oi := ⟨some 63, _, _, _, _, _⟩) (v := ?_) rfl (by kernel_rfl) (by kernel_rfl) (by kernel_rfl) (fun _ _ _ h => h) (Or.inl ⟨by rfl, ?_⟩) (by assumption) ?_
  rotate_left
  · intro W hSW; obtain ⟨hSW0, hSW1, hSW2, hSW3, hSW4⟩ := hSW; go_simp; first | done | with_reducible rfl
  (try simp only [Act.put, List.setIfInBounds_toArray, List.set_cons_zero, List.set_cons_succ])
  refine wpAnyH_take (i := 34) (oi := ⟨some 2, _, _, _, _, _⟩) (v := ?_) rfl (by kernel_rfl) (by kernel_rfl) (by kernel_rfl) (fun _ _ _ h => h) (Or.inl ⟨by rfl, ?_⟩) (by assumption) ?_
  rotate_left
  · intro W hSW; obtain ⟨hSW0, hSW1, hSW2, hSW3, hSW4⟩ := hSW; go_simp; first | done | with_reducible rfl
  (try simp only [Act.put, List.setIfInBounds_toArray, List.set_cons_zero, List.set_cons_succ])
  refine wpAnyH_done (by kernel_rfl) ?_ _
  refine NoPanic.normal ?_
  go_wp2
  go_ret
  exact ⟨rfl, Below.then_ bel8 bc⟩
end Go.Proofs.Ytmafkcjlehlebaa
