/-
  The walk of HarqVersions.
-/
import Derived.Test.YtcmoedhpedlalaaDoorHi
import Derived.Deep.RegionHeld3
namespace Go.Proofs.YtcmoedhpedlalaaDoor
open Go.RowKit
set_option maxRecDepth 100000
set_option linter.unusedVariables false
set_option linter.unusedSimpArgs false

/-- One of four. -/
def pk (a b c d : Nat) (k : Nat) : Nat := if k = 0 then a else if k = 1 then b else if k = 2 then c else d
theorem S4_get (a b c d T k : Nat) (hk : k < 4) : (S4 (sl a T) (sl b T) (sl c T) (sl d T))[k]? = some (sl (pk a b c d k) T) := by
  have h : k = 0 ∨ k = 1 ∨ k = 2 ∨ k = 3 := by omega
  rcases h with rfl | rfl | rfl | rfl <;> rfl
theorem pk_blk {w : World} {a b c d : Nat} {f : Nat → Array Value} (h0 : Blk w a 5 (f 0)) (h1 : Blk w b 5 (f 1)) (h2 : Blk w c 5 (f 2)) (h3 : Blk w d 5 (f 3)) (k : Nat) (hk : k < 4) : Blk w (pk a b c d k) 5 (f k) := by
  have h : k = 0 ∨ k = 1 ∨ k = 2 ∨ k = 3 := by omega
  rcases h with rfl | rfl | rfl | rfl <;> assumption
theorem pk_lt {a b c d x : Nat} (h0 : x < a) (h1 : x < b) (h2 : x < c) (h3 : x < d) (k : Nat) : x < pk a b c d k := by
  unfold pk; split
  · exact h0
  · split
    · exact h1
    · split
      · exact h2
      · exact h3
theorem ZS_size : (S4 (.slice none 0 0) (.slice none 0 0) (.slice none 0 0) (.slice none 0 0)).size = 4 := rfl
set_option maxHeartbeats 2000000 in
set_option maxRecDepth 100000 in
/-- HarqVersions. -/
theorem walkVersions7 (A : Option Addr) (n c : Nat) (xs : List Nat) (v0 : Int) (w : World) (h1 : Rd w w.heap.size A n (U8 xs)) (b1 : ∀ b ∈ xs, b < 256) (hnc : n ≤ c) (hcv : c ≤ 9223372036854775807) (hnone : A = none → n = 0 ∧ c = 0) (hT : Taps w) :
    Calls Tryd.prog 6 #[.slice A n c, .int .i64 v0] w fun e w' => e = .returned (.bool true) ∧ Below w.heap.size w w' := by
  obtain ⟨i0, hi0, hz0, hz1, hz2⟩ := info_parts info5
  obtain ⟨k0, hk, hk2, hk3⟩ := min_if n 70
  obtain ⟨hm1, hm2⟩ := hk3 70 rfl
  clear hk3
  have r1 := h1.cut8 k0 hk2
  have bk := take256 b1 k0
  generalize xs.take k0 = m at *
  have r2 : Rd (w.alloc (.cells #[] 5)) w.heap.size A k0 (U8 m) := r1.below ((Below.refl _ _).alloc (Nat.le_refl _) _)
  have hn2 : A = none → k0 = 0 ∧ c = 0 := fun h => ⟨by have := (hnone h).1; omega, (hnone h).2⟩
  have o1 : Own (w.alloc (.cells #[] 5)) w.heap.size 5 (some ⟨w.heap.size, 0, none⟩) 0 0 [] := ⟨World.ownsRow_made w #[] 0 (Nat.le_refl _) (by unfold maxLen; omega) (by simp)⟩
  have HB := Lib.hid bk
  have hk9 : k0 ≤ 9223372036854775807 := by omega
  clear h1 b1 hnone r1 bk
  go_enter Tryd.func6, Tryd.ntmps6
  go_upto_region 2 with (at_builtin; refine wpList_app _ rfl _ _ 22 rfl w.heap.size 5 i0 _ 1 Tryd.underlying22 hi0 hz0 hz1 hz2 rfl _ 0 0 [] rfl o1 w.heap.size A k0 c (U8 m) rfl r2 hn2 (U8_one m) (by omega) (by unfold maxLen; omega) (by simp) ?_; intro A5 c5 w5 hown5 hgrow5; have own := hown5.to (Nat.zero_add k0) (List.nil_append (U8 m)))
  have bel : Below w.heap.size w w5 := ((Below.refl _ _).alloc (Nat.le_refl _) _).grown hgrow5 (by simp) (fun j hj => by simp [Value.ownBlock] at hj; omega)
  clear hown5 hgrow5 r2 hn2 o1 hi0 hz0 hz1 hz2 hm1 hm2 hcv hk2 hnc
  have hT5 := hT.after bel
  have bel0 := bel
  clear bel
  have HL := Lib.hid own.rd.len8
  have CR := Lib.hid (fun (W : World) (h : Below w5.heap.size w5 W) => readsC W (hT5.after h))
  by_cases h64 : k0 ≤ 64
  · obtain ⟨N, hN⟩ : ∃ N, N = 8 * (k0 + 4) := ⟨_, rfl⟩
    obtain ⟨T, hTT⟩ : ∃ T, T = N + 6 := ⟨_, rfl⟩
    have CVs := Lib.hid (hVersions A5 k0 c5 T m w5 own.rd HB.out own.none_ h64 (by omega) hT5)
    have HN := Lib.hid hN
    have HT := Lib.hid hTT
    have HNm : Hid (N = 8 * (m.length + 4)) := by unfold Hid; rw [← HL.out]; exact hN
    have HVL : Hid (∀ v, (vm m v).length = T) := fun v => by rw [vm_length, ← HNm.out, HT.out]
    have HVB : Hid (∀ v, ∀ x ∈ vm m v, x ≤ 1) := fun v => vm_bit m v
    have hT0 : 0 < T := by omega
    have CO : Hid (∀ (w0 : World) (gP v : Nat) (P : Nat → Prop) (b : Nat), v < 4 → PrS w0 P gP k0 [] false → Rd w0 w0.heap.size (some ⟨b, 0, none⟩) T (U8 (vm m v)) → ¬ P b → b < w0.heap.size → ¬ P 0 → Taps w0 → Calls Tryd.prog 13 #[.pointer (some ⟨gP, 0, none⟩), .int .i64 (k0 : Int), .int .i64 (v : Int), .slice (some ⟨b, 0, none⟩) T T] w0 (OffO w0 P gP k0 [(v, vm m v)] (some m))) :=
      fun w0 gP v P b h0 h1 h2 h4 h5 h6 h7 => by
        have := offerC w0 P gP k0 k0 N T v T b 0 [] (vm m v) h1 h64 hN hTT h0 h2 (vm_bit m v) h4 h5 h6 h7
        have e1 : anew k0 ([] : List (Nat × List Nat)) k0 = [] := by unfold anew; split <;> rfl
        rw [e1, rdx_whole m HB.out v N (vm m v) h0 HNm.out] at this
        exact this
    have CV := Lib.hid (fun (v : Nat) (hv : v < 4) (W : World) (h : Below w5.heap.size w5 W) => refVer17 A5 k0 c5 v m W (own.rdOf h) HB.out own.none_ (by omega) hv)
    have CN := Lib.hid (fun W => hNew k0 W h64)
    clear hN hTT
    have d64 : decide ((k0 : Int) ≤ 64) = true := by simp <;> omega
    go_upto_region 3 with (first | (go_at_call 25; refine CVs.out.mono ?_; rintro e w6 ⟨g0, g1, g2, g3, rfl, p0, p1, p2, p3, be6, l0, l1, l2, l3⟩) | (refine at_alloc rfl 49 rfl _ ZS_eq ?_; intro w7 h7; have q7 := h7.row) | (refine at_store rfl 49 _ _ rfl w6.heap.size (S4 (sl g0 T) (sl g1 T) (sl g2 T) (sl g3 T)) rfl rfl 49 _ q7 infoS4 rfl (S4_one _ _ _ _ _) ?_; intro w8 h8))
    have q8 := h8.row
    have HPB : Hid (∀ k, k < 4 → Blk w6 (pk g0 g1 g2 g3 k) 5 (B8 (vm m k))) := fun k hk => pk_blk (f := fun k => B8 (vm m k)) p0 p1 p2 p3 k hk
    have HPL : Hid (∀ k, w5.heap.size < pk g0 g1 g2 g3 k) := fun k => pk_lt l0 l1 l2 l3 k
    have HS4 : Hid (∀ k, k < 4 → (S4 (sl g0 T) (sl g1 T) (sl g2 T) (sl g3 T))[k]? = some (sl (pk g0 g1 g2 g3 k) T)) := fun k hk => S4_get g0 g1 g2 g3 T k hk
    have be8 : Below w6.heap.size w6 w8 := h7.bel.trans (h8.below (Nat.le_refl _))
    have bw8 := Below.then_ be6 be8
    obtain ⟨gS, hgS⟩ : ∃ g, g = w6.heap.size := ⟨_, rfl⟩
    rw [← hgS] at q8
    rw [← hgS]
    have HGS : Hid (w6.heap.size ≤ gS) := by unfold Hid; omega
    generalize S4 (sl g0 T) (sl g1 T) (sl g2 T) (sl g3 T) = ZZ at *
    generalize pk g0 g1 g2 g3 = pg at *
    clear h7 h8 q7 p0 p1 p2 p3 l0 l1 l2 l3 hgS CVs
    go_upto_region 7 with (go_at_call 14; refine (CR.out w8 bw8).mono ?_; rintro e w9 ⟨rfl, be9⟩)
    have q9 := q8.after be9
    have bw9 := Below.then_ bw8 be9
    have HPB9 : Hid (∀ k, k < 4 → Blk w9 (pg k) 5 (B8 (vm m k))) := fun k hk => ((HPB.out k hk).after be8).after be9
    clear q8 be9 bw8 be8 be6 CR HPB
    have hg9 := q9.lt
    have ix := fun (k : Nat) (hk : k < 4) W => run_idx (P := Tryd.prog) (sz := 1) Tryd.underlying49 (by kernel_rfl) gS 0 k hk .i64 W
    simp only [Nat.zero_add, Nat.one_mul] at ix
    have IX := Lib.hid ix
    clear ix
    go_wp2
    go_loopw [7] (fun x wr => ∃ k : Nat, k ≤ 4 ∧ x = .int .i64 k ∧ Below w9.heap.size w9 wr) (fun x _ => 4 - (intOf x).toNat)
    case atStart => exact ⟨0, by omega, rfl, Below.refl _ _⟩
    case round =>
      obtain ⟨k, hk4, rfl, bel9⟩ := hrel
      by_cases hlt : k < 4
      · have bel := Below.then_ bw9 bel9
        have ix := IX.out k hlt
        have kx : wr.cell? ⟨gS, k, none⟩ = some (sl (pg k) T) := (bel9.cell (p := ⟨gS, k, none⟩) hg9).trans ((q9.cell k).trans (HS4.out k hlt))
        have pB := (HPB9.out k hlt).after bel9
        have rB := pB.rd8 (HVL.out k)
        have kc : (convert 22 9 (sl (pg k) T)).run Tryd.prog wr = .ok (.string (str (vm m k))) wr := rB.conv (c := T) (by simp) wr (Below.refl _ _)
        have HKC : Hid (∀ W, Below wr.heap.size wr W → (convert 22 9 (sl (pg k) T)).run Tryd.prog W = .ok (.string (str (vm m k))) W) := fun W hW => rB.conv (c := T) (by simp) W hW
        have CV := Lib.hid (fun (W : World) (h : Below wr.heap.size wr W) => CV.out k hlt W (Below.then_ bel h))
        obtain ⟨sv, hsv⟩ : ∃ s, str (vm m k) = s := ⟨_, rfl⟩
        have HSp := Lib.hid hsv
        rw [hsv] at HKC
        have dk : decide ((k : Int) < 4) = true := by simp <;> omega
        have tsv : (sv.toList != sv.toList) = false := by simp
        have tsv2 : (sv.toList == sv.toList) = true := by simp
        obtain ⟨SL, hSL⟩ : ∃ s, s = sl (pg k) T := ⟨_, rfl⟩
        rw [← hSL] at kx HKC
        have HK : Hid (∀ W, Below wr.heap.size wr W → Below wr.heap.size wr W ∧ W.cell? ⟨gS, k, none⟩ = some SL ∧ (convert 22 9 SL).run Tryd.prog W = .ok (.string sv) W) := fun W h => ⟨h, (h.cell (p := ⟨gS, k, none⟩) (by show gS < wr.heap.size; have := bel9.size; omega)).trans kx, HKC.out W h⟩
        have hS0 := HK.out wr.drew (below_drawn 1)
        clear hsv kc rB pB hSL kx bel
        have bel := bel9
        go_upto_region 10 with fail
        refine wp_region_noPanic ?_
        refine wp_region_held_drew (S := fun W => Below wr.heap.size wr W ∧ W.cell? ⟨gS, k, none⟩ = some SL ∧ (convert 22 9 SL).run Tryd.prog W = .ok (.string sv) W) (by kernel_rfl) hS0 (fun hHeld => ?_)
        refine wpAnyH_take (i := 0) (oi := ⟨some 51, _, _, _, _, _⟩) (v := ?_) rfl (by kernel_rfl) (by kernel_rfl) (by kernel_rfl) (fun _ _ _ h => h) (Or.inl ⟨by rfl, ?_⟩) hHeld ?_
        rotate_left
        · intro W hSW; obtain ⟨hSW0, hSW1, hSW2⟩ := hSW; go_simp; first | done | with_reducible rfl
        (try simp only [Act.put, List.setIfInBounds_toArray, List.set_cons_zero, List.set_cons_succ])
        refine wpAnyH_take (i := 1) (oi := ⟨some 52, _, _, _, _, _⟩) (v := ?_) rfl (by kernel_rfl) (by kernel_rfl) (by kernel_rfl) (fun _ _ _ h => h) (Or.inl ⟨by rfl, ?_⟩) hHeld ?_
        rotate_left
        · intro W hSW; obtain ⟨hSW0, hSW1, hSW2⟩ := hSW; go_simp; first | done | with_reducible rfl
        (try simp only [Act.put, List.setIfInBounds_toArray, List.set_cons_zero, List.set_cons_succ])
        refine wpAnyH_take (i := 2) (oi := ⟨some 53, _, _, _, _, _⟩) (v := ?_) rfl (by kernel_rfl) (by kernel_rfl) (by kernel_rfl) (fun _ _ _ h => h) (Or.inl ⟨by rfl, ?_⟩) hHeld ?_
        rotate_left
        · intro W hSW; obtain ⟨hSW0, hSW1, hSW2⟩ := hSW; go_simp; first | done | with_reducible rfl
        (try simp only [Act.put, List.setIfInBounds_toArray, List.set_cons_zero, List.set_cons_succ])
        refine wpAnyH_take (i := 3) (oi := ⟨some 54, _, _, _, _, _⟩) (v := ?_) rfl (by kernel_rfl) (by kernel_rfl) (by kernel_rfl) (fun _ _ _ h => h) (Or.inl ⟨by rfl, ?_⟩) hHeld ?_
        rotate_left
        · intro W hSW; obtain ⟨hSW0, hSW1, hSW2⟩ := hSW; go_simp; first | done | with_reducible rfl
        (try simp only [Act.put, List.setIfInBounds_toArray, List.set_cons_zero, List.set_cons_succ])
        refine wpAnyH_take (i := 4) (oi := ⟨some 55, _, _, _, _, _⟩) (v := ?_) rfl (by kernel_rfl) (by kernel_rfl) (by kernel_rfl) (fun _ _ _ h => h) (Or.inl ⟨by rfl, ?_⟩) hHeld ?_
        rotate_left
        · intro W hSW; obtain ⟨hSW0, hSW1, hSW2⟩ := hSW; go_simp; first | done | with_reducible rfl
        (try simp only [Act.put, List.setIfInBounds_toArray, List.set_cons_zero, List.set_cons_succ])
        refine wpAnyH_take (i := 5) (oi := ⟨some 56, _, _, _, _, _⟩) (v := ?_) rfl (by kernel_rfl) (by kernel_rfl) (by kernel_rfl) (fun _ _ _ h => h) (Or.inl ⟨by rfl, ?_⟩) hHeld ?_
        rotate_left
        · intro W hSW; obtain ⟨hSW0, hSW1, hSW2⟩ := hSW; go_simp; first | done | with_reducible rfl
        (try simp only [Act.put, List.setIfInBounds_toArray, List.set_cons_zero, List.set_cons_succ])
        refine wpAnyH_ready (rs := [6]) (by kernel_rfl) (by simp) ?_
        refine AllReadyH.cons (o := ⟨some 57, _, _, _, _, _⟩) rfl (fun K hK => ?_) (AllReadyH.nil)
        go_simp
        have bw6 := hHeld.1
        refine (CV.out _ bw6).mono ?_
        rintro e wc ⟨Ac, nc, cc, rfl, owc, bec⟩
        have bc := Below.then_ bw6 bec
        have hq := owc.conv _ (Below.refl _ _)
        rw [HSp.out] at hq
        clear hHeld bec bw6
        refine hK.out _ _ ?_ (fun hHeld => ?_)
        · exact HK.out _ bc
        clear hK K
        (try simp only [Act.put, List.setIfInBounds_toArray, List.set_cons_zero, List.set_cons_succ])
        refine wpAnyH_ready (rs := [7]) (by kernel_rfl) (by simp) ?_
        refine AllReadyH.cons (o := ⟨some 58, _, _, _, _, _⟩) rfl (fun K hK => ?_) (AllReadyH.nil)
        go_simp
        clear hHeld
        refine hK.out _ _ ?_ (fun hHeld => ?_)
        · exact HK.out _ bc
        clear hK K
        (try simp only [Act.put, List.setIfInBounds_toArray, List.set_cons_zero, List.set_cons_succ])
        refine wpAnyH_take (i := 8) (oi := ⟨some 59, _, _, _, _, _⟩) (v := ?_) rfl (by kernel_rfl) (by kernel_rfl) (by kernel_rfl) (fun _ _ _ h => h) (Or.inl ⟨by rfl, ?_⟩) hHeld ?_
        rotate_left
        · intro W hSW; obtain ⟨hSW0, hSW1, hSW2⟩ := hSW; go_simp; first | done | with_reducible rfl
        (try simp only [Act.put, List.setIfInBounds_toArray, List.set_cons_zero, List.set_cons_succ])
        refine wpAnyH_done (by kernel_rfl) ?_ _
        refine NoPanic.normal ?_
        clear hHeld
        go_wp2
        go_roundw
        case rel => exact ⟨k + 1, by omega, by go_num, Below.then_ bel bc⟩
        case measure => simp [intOf] <;> omega
      · have hTr := hT5.after (Below.then_ bw9 bel9)
        obtain ⟨uu, hu, hu2⟩ := wrap_u64 v0
        obtain ⟨v, hv, hv2⟩ : ∃ v : Nat, v < 4 ∧ (uu : Int) % 4 = (v : Int) := ⟨uu % 4, by omega, by omega⟩
        have dk : decide ((k : Int) < 4) = false := by simp <;> omega
        have ix := IX.out v hv
        have kx : wr.cell? ⟨gS, v, none⟩ = some (sl (pg v) T) := (bel9.cell (p := ⟨gS, v, none⟩) hg9).trans ((q9.cell v).trans (HS4.out v hv))
        have pB := (HPB9.out v hv).after bel9
        have hpl := HPL.out v
        have hplt := pB.lt
        have hs9 := bel9.size
        have bel := Below.then_ bw9 bel9
        have hsz5 := bel.size
        go_upto_region 14 with (go_at_call 18; refine (CN.out wr).mono ?_; rintro e w10 ⟨rfl, pr10, b10⟩)
        have pB10 := pB.after b10
        have kx10 : w10.cell? ⟨gS, v, none⟩ = some (.slice (some ⟨pg v, 0, none⟩) T T) := (b10.cell (p := ⟨gS, v, none⟩) (by show gS < wr.heap.size; omega)).trans kx
        have bel10 := Below.then_ bel b10
        have K := Lib.hid (CO.out w10 wr.heap.size v _ (pg v) hv pr10 (pB10.rd8 (HVL.out v)) (fun h => by omega) pB10.lt (fun h => by omega) (hT5.after bel10))
        have hs10 := b10.size
        clear kx pB CO
        go_wp2_with fail
        refine K.out.mono ?_
        rintro e w11 ⟨⟨P11, hP11, p11⟩, kr11, ho⟩
        rcases ho with ⟨mm, hmm, A6, k6, c6, rfl, own6⟩ | ⟨hmm, _⟩
        · injection hmm with hmm
          subst hmm
          have kx11 : w11.cell? ⟨gS, v, none⟩ = some (.slice (some ⟨pg v, 0, none⟩) T T) := (cell_of_heap (kr11.block gS (by omega) (fun h => by omega)) v).trans kx10
          have bel11 : Below w5.heap.size w5 w11 := bel10.trans (kr11.below (fun k hk => by rw [hk]; exact hsz5) bel10.size)
          have K2 := Lib.hid (offerOld w11 P11 wr.heap.size k0 _ (k0 : Int) (v : Int) (some ⟨pg v, 0, none⟩) T T p11)
          have kc1 := own6.conv w11 (Below.refl _ _)
          have kc2 := own.conv w11 bel11
          obtain ⟨sm, hsm⟩ : ∃ s, s = str m := ⟨_, rfl⟩
          rw [← hsm] at kc1 kc2
          have tss : (sm.toList == sm.toList) = true := by simp
          clear hsm kx10 own6 K
          go_wp2_with (go_at_call 13; refine K2.out.mono ?_; rintro e w' ⟨rfl, rfl⟩)
          go_ret
          exact ⟨rfl, Below.then_ bel0 bel11⟩
        · cases hmm
  · have CVn := Lib.hid (hVersionsNo A5 k0 c5 w5 (by omega) hk9)
    have d64 : decide ((k0 : Int) ≤ 64) = false := by simp <;> omega
    go_upto_region 3 with (first | (go_at_call 25; refine CVn.out.mono ?_; rintro e w6 ⟨rfl, be6⟩) | (refine at_alloc rfl 49 rfl _ ZS_eq ?_; intro w7 h7; have q7 := h7.row) | (refine at_store rfl 49 _ _ rfl w6.heap.size (S4 (.slice none 0 0) (.slice none 0 0) (.slice none 0 0) (.slice none 0 0)) rfl rfl 49 _ q7 infoS4 rfl ZS_one ?_; intro w8 h8))
    have q8 := h8.row
    have be8 : Below w6.heap.size w6 w8 := h7.bel.trans (h8.below (Nat.le_refl _))
    have bw8 := Below.then_ be6 be8
    have ix := fun W => run_idx (P := Tryd.prog) (sz := 1) Tryd.underlying49 (by kernel_rfl) w6.heap.size 0 0 (by omega) .i64 W
    simp only [Nat.zero_add, Nat.one_mul] at ix
    have ix2 : ∀ W, (Instr.indexAt 49 (.pointer (some ⟨w6.heap.size, 0, none⟩)) (.int .i64 0)).run Tryd.prog W = .ok (.pointer (some ⟨w6.heap.size, 0, none⟩)) W := ix
    clear h7 h8 q7 CVn
    go_upto_region 6 with (go_at_call 14; refine (CR.out w8 bw8).mono ?_; rintro e w9 ⟨rfl, be9⟩)
    have k0c : w9.cell? ⟨w6.heap.size, 0, none⟩ = some (.slice none 0 0) := (q8.after be9).cell 0
    have bw9 := Below.then_ bw8 be9
    go_wp2
    go_ret
    exact ⟨rfl, Below.then_ bel0 bw9⟩
end Go.Proofs.YtcmoedhpedlalaaDoor
