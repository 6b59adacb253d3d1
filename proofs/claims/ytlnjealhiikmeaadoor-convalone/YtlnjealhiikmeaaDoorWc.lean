/-
  The walk of ConvAlone.
-/
import Derived.Test.YtlnjealhiikmeaaDoorKg
import Derived.Test.YtlnjealhiikmeaaDoorMn
import Derived.Test.YtlnjealhiikmeaaDoorVn
namespace Go.Proofs.YtlnjealhiikmeaaDoor
open Go.RowKit
set_option linter.unusedVariables false
set_option linter.unusedSimpArgs false

theorem Own.convTake {w : World} {base : Nat} {A : Option Addr} {n c : Nat} {bs : List Nat} (h : Own w base 5 A n c (U8 bs)) (k : Nat) (hk : k ≤ n) (W : World) (hb : Below w.heap.size w W) :
    YtlnjealhiikmeaaDoor.convO A k c W = .ok (.string (str (bs.take k))) W := by
  show (convert 30 9 (.slice A k c)).run Tryd.prog W = _
  have hl : n = bs.length := by have := h.len; rw [U8_length] at this; exact this.symm
  rcases h.row.2 with ⟨hv, h0⟩ | ⟨g, cap, cur, hv, hbg, hg, rest⟩
  · injection hv with h1 h2 h3
    subst h1
    have hbs : bs = [] := List.eq_nil_of_length_eq_zero (by omega)
    subst hbs
    rw [List.take_nil]
    exact run_convert_bytes_nil W 30 5 Tryd.underlying30 Tryd.underlying5 k c 9 Tryd.underlying9
  · injection hv with h1 h2 h3
    subst h1
    refine run_convert_bytes_arg W 30 5 Tryd.underlying30 Tryd.underlying5 g 0 k c _ (by rw [List.length_map, List.length_take]; omega) (fun i hi => ?_) 9 Tryd.underlying9
    have hlt : g < w.heap.size := (Array.getElem?_eq_some_iff.1 hg).1
    rw [hb.cell (p := ⟨g, 0 + i, none⟩) hlt]
    have := h.row.cells (g := g) rfl i _ (U8_get bs i (by omega))
    rw [Addr.add_lit] at this
    rw [this]
    rw [Bm.getD_lt bs 0 i (by omega)]
    simp [List.getD, hi, show i < bs.length by omega]

/-- Which stream is looked at. -/
def pk (ws : List Nat) (t : Nat) : Nat := ws.getD t 0 % 4
theorem pk_lt (ws : List Nat) (t : Nat) : pk ws t < 4 := by unfold pk; omega
theorem alone_iff (us vs ws : List Nat) (n : Nat) (h1 : n = us.length) (h2 : n = vs.length) (f : Bool) (h : f = true ↔ ∀ t, t < n + 6 → Cv.bitAt us t (pk ws t) = Cv.bitAt vs t (pk ws t)) : f = decide (us = vs) := by
  rw [Bool.eq_iff_iff, decide_eq_true_iff, h]
  constructor
  · intro hh
    exact Cv.alone us vs n h1.symm h2.symm (pk ws) (fun t ht => hh t (by omega))
  · intro hh t _
    rw [hh]

set_option maxHeartbeats 2000000 in
/-- ConvAlone. -/
theorem walkConvAlone (A B D : Option Addr) (na ca nb cb nd cd : Nat) (xs ys ws : List Nat) (w : World) (h1 : Rd w w.heap.size A na (U8 xs)) (h2 : Rd w w.heap.size B nb (U8 ys)) (h3 : Rd w w.heap.size D nd (U8 ws)) (b1 : ∀ b ∈ xs, b < 256) (b2 : ∀ b ∈ ys, b < 256) (b3 : ∀ b ∈ ws, b < 256) (hna : na ≤ 9223372036854775807) (hnb : nb ≤ 9223372036854775807) (hnd : nd ≤ 9223372036854775807) (hT : Taps w) :
    Calls Tryd.prog 6 #[.slice A na ca, .slice B nb cb, .slice D nd cd] w fun e w' => e = .returned (.bool true) ∧ Below w.heap.size w w' := by
  have C1 := Lib.hid (fewC A na ca 100 xs w h1 b1 (by omega) hna)
  have C2 := Lib.hid (fun W (hB : Below w.heap.size w W) => fewC B nb cb 100 ys W ((h2.below hB).up hB.size) b2 (by omega) hnb)
  have l1 := Bm.few_length xs 100
  have l2 := Bm.few_length ys 100
  have l1' : (Bm.few xs 100).length ≤ 100 := by omega
  have l2' : (Bm.few ys 100).length ≤ 100 := by omega
  have f1 := Bm.few_bit xs 100
  have f2 := Bm.few_bit ys 100
  have HND := Lib.hid h3.len8
  clear l1 l2
  generalize Bm.few xs 100 = us0 at *
  generalize Bm.few ys 100 = vs0 at *
  go_enter Tryd.func6, Tryd.ntmps6
  go_wp2_with fail
  refine C1.out.mono ?_
  rintro e w1 ⟨A1, n1, c1, rfl, ow1, be1⟩
  go_wp2_with fail
  refine (C2.out w1 be1).mono ?_
  rintro e w2 ⟨A2, n2, c2, rfl, ow2, be2⟩
  have ow1' := ow1.below be2 (Nat.le_refl _)
  have ln1 := ow1.rd.len8
  have ln2 := ow2.rd.len8
  obtain ⟨n, hnn1, hnn2, _, hm1⟩ := minTwo n1 n2
  have r1 := (ow1'.rdOf (Below.refl _ _)).cut8 n hnn1
  have r2 := (ow2.rdOf (Below.refl _ _)).cut8 n hnn2
  have g1 : ∀ x ∈ us0.take n, x ≤ 1 := fun x hx => f1 x (List.mem_of_mem_take hx)
  have g2 : ∀ x ∈ vs0.take n, x ≤ 1 := fun x hx => f2 x (List.mem_of_mem_take hx)
  have hc1 : (n : Int) ≤ (c1 : Int) := by have := ow1.bounds.1; omega
  have hc2 : (n : Int) ≤ (c2 : Int) := by have := ow2.bounds.1; omega
  have hn1 : A1 = none → n = 0 ∧ c1 = 0 := fun h => ⟨by have := (ow1.none_ h).1; omega, (ow1.none_ h).2⟩
  have hn2 : A2 = none → n = 0 ∧ c2 = 0 := fun h => ⟨by have := (ow2.none_ h).1; omega, (ow2.none_ h).2⟩
  have be := Below.then_ be1 be2
  have hT2 := hT.after be
  have hn100 : n ≤ 100 := by omega
  have f3 : (n : Int) ≤ (n1 : Int) := by omega
  have f4 : (n : Int) ≤ (n2 : Int) := by omega
  have V1 := Lib.hid (ow1'.convTake n hnn1)
  have V2 := Lib.hid (ow2.convTake n hnn2)
  have rw3 := (h3.below be).up be.size
  generalize us0.take n = us at *
  generalize vs0.take n = vs at *
  have HL1 := Lib.hid r1.len8
  have HL2 := Lib.hid r2.len8
  clear C1 C2 h1 h2 h3 b1 b2 l1' l2' f1 f2 ln1 ln2 ow1 ow1' ow2 be1 be2 hT
  have D1 := Lib.hid (codeC A1 n c1 us w2 r1 hn1 g1 (by omega) hT2)
  have D2 := Lib.hid (fun W (hB : Below w2.heap.size w2 W) => codeC A2 n c2 vs W ((r2.below hB).up hB.size) hn2 g2 (by omega) (hT2.after hB))
  have lu := Cv.code_length us
  have lv := Cv.code_length vs
  rw [← HL1.out] at lu
  rw [← HL2.out] at lv
  have bu := Cv.code_bit us g1
  have bv := Cv.code_bit vs g2
  have GU := Lib.hid (Cv.code_getD us)
  have GV := Lib.hid (Cv.code_getD vs)
  rw [← HL1.out] at GU
  rw [← HL2.out] at GV
  go_wp2_with fail
  refine D1.out.mono ?_
  rintro e w5 ⟨A5, n5, c5, rfl, ow5, be5⟩
  go_wp2_with fail
  refine (D2.out w5 be5).mono ?_
  rintro e w6 ⟨A6, n6, c6, rfl, ow6, be6⟩
  have e5 : n5 = 4 * (n + 6) := by rw [ow5.rd.len8, lu]
  have e6 : n6 = 4 * (n + 6) := by rw [ow6.rd.len8, lv]
  subst e5 e6
  have ow5' := ow5.below be6 (Nat.le_refl _)
  have b26 := Below.then_ be5 be6
  have CD := Lib.hid (codesC w6 (hT2.after b26))
  have HB := Lib.hid (Below.then_ be b26)
  clear D1 D2 be5 be6 ow5 hm1
  have q1 : IntKind.i64.wrap (4 * ((n : Int) + 6)) = 4 * ((n : Int) + 6) := IntWalk.i64_in _ (by omega)
  have q2 : (((4 * (n + 6) : Nat) : Int) != 4 * ((n : Int) + 6)) = false := by simp
  have q3 : (4 * ((n : Int) + 6) != 4 * ((n : Int) + 6)) = false := by simp
  go_wp2_with (go_at_call 13; refine CD.out.mono ?_; rintro e w8 ⟨rfl, be8⟩)
  have R5 := (ow5'.rdOf be8)
  have R6 := (ow6.rdOf be8)
  have HB8 := Lib.hid (Below.then_ HB.out be8)
  have b28 := Below.then_ b26 be8
  have R3 := (rw3.below b28).up b28.size
  have K1 := Lib.hid (fun W (hB : Below w8.heap.size w8 W) => V1.out W (Below.then_ b28 hB))
  have K2 := Lib.hid (fun W (hB : Below w8.heap.size w8 W) => V2.out W (Below.then_ b28 hB))
  clear CD ow5' ow6 V1 V2 rw3 r1 r2 HB be hT2 be8 b26 q2 q3 hn1 hn2
  go_loopw [12, 13] (fun s i wr => ∃ j q : Nat, ∃ f : Bool, j ≤ n + 6 ∧ i = .int .i64 j ∧ s = .bool f ∧ Hid (f = true ↔ ∀ t, t < j → Cv.bitAt us t (pk ws t) = Cv.bitAt vs t (pk ws t)) ∧ wr = w8.drewN q) (fun _ i _ => n + 6 - (intOf i).toNat)
  case atStart => exact ⟨0, 0, true, Nat.zero_le _, rfl, rfl, by unfold Hid; simp, rfl⟩
  case round =>
    obtain ⟨j, q, f, hj, rfl, rfl, HF, hw⟩ := hrel
    have bq : Below w8.heap.size w8 wr := hw ▸ below_drawn q
    have HW := Lib.hid hw
    clear hw
    by_cases hlt : j < n + 6
    · have d0 : (j : Int) < (n : Int) + 6 := by omega
      have hp := pk_lt ws j
      have HP : Hid (pk ws j = ws.getD j 0 % 4) := rfl
      obtain ⟨m, hm⟩ : ∃ m, m = 4 * j + pk ws j := ⟨_, rfl⟩
      have hmN : m < 4 * (n + 6) := by omega
      have e0 : 4 * (j : Int) + (pk ws j : Int) = (m : Int) := by omega
      have w0 : IntKind.i64.wrap (4 * (j : Int)) = 4 * (j : Int) := IntWalk.i64_in _ (by omega)
      have w1' : IntKind.i64.wrap (m : Int) = (m : Int) := IntWalk.i64_in _ (by omega)
      obtain ⟨p1, o1, rfl, u1, k1⟩ := (R5.below bq).cell8 m hmN
      obtain ⟨p2, o2, rfl, u2, k2⟩ := (R6.below bq).cell8 m hmN
      rw [hm, GU.out j _ hp hlt, ← hm] at k1
      rw [hm, GV.out j _ hp hlt, ← hm] at k2
      have x1 := Cv.bitAt_bit us g1 j (pk ws j)
      have x2 := Cv.bitAt_bit vs g2 j (pk ws j)
      have HST : Hid ((∀ t, t < j + 1 → Cv.bitAt us t (pk ws t) = Cv.bitAt vs t (pk ws t)) ↔ (∀ t, t < j → Cv.bitAt us t (pk ws t) = Cv.bitAt vs t (pk ws t)) ∧ Cv.bitAt us j (pk ws j) = Cv.bitAt vs j (pk ws j)) := by
        constructor
        · intro hh; exact ⟨fun t ht => hh t (by omega), hh j (by omega)⟩
        · intro hh t ht
          by_cases htj : t = j
          · rw [htj]; exact hh.2
          · exact hh.1 t (by omega)
      generalize Cv.bitAt us j (pk ws j) = x at *
      generalize Cv.bitAt vs j (pk ws j) = y at *
      generalize pk ws j = sv at *
      clear hm
      have hmN2 : (m : Int) < 4 * ((n : Int) + 6) := by omega
      have hmN3 : (m : Int) < ((4 * (n + 6) : Nat) : Int) := by omega
      have fin : ∀ (g : Bool), (g = true ↔ f = true ∧ x = y) → (g = true ↔ ∀ t, t < j + 1 → Cv.bitAt us t (pk ws t) = Cv.bitAt vs t (pk ws t)) := by
        intro g hg
        rw [hg, HST.out, HF.out]
      have HFin := Lib.hid fin
      clear fin HST
      have main : ∀ (s0 : Nat), True := fun _ => trivial
      clear main
      by_cases hjd : j < nd
      · obtain ⟨p3, o3, rfl, u3, k3⟩ := (R3.below bq).cell8 j hjd
        have e3 : ((ws.getD j 0 : Nat) : Int) % 4 = (sv : Int) := by have := HP.out; omega
        generalize ws.getD j 0 = z at *
        cases f with
        | true =>
          by_cases hxy : x = y
          · have t1 : ((x : Int) == (y : Int)) = true := by simp [hxy]
            have HXY := Lib.hid hxy
            clear hxy
            go_wp2_with fail
            go_quiet (fail)
            go_wp2
            go_roundw
            case rel => exact ⟨j + 1, q + _, true, by omega, by go_num, rfl, HFin.out true (by simp [HXY.out]), by rw [HW.out, World.drewN_drewN]⟩
            case measure => simp [intOf] <;> omega
          · have t1 : ((x : Int) == (y : Int)) = false := by simp; omega
            go_wp2_with fail
            go_quiet (fail)
            go_wp2
            go_roundw
            case rel => exact ⟨j + 1, q + _, false, by omega, by go_num, rfl, HFin.out false (by simp [hxy]), by rw [HW.out, World.drewN_drewN]⟩
            case measure => simp [intOf] <;> omega
        | false =>
          go_wp2_with fail
          go_quiet (fail)
          go_wp2
          go_roundw
          case rel => exact ⟨j + 1, q + _, false, by omega, by go_num, rfl, HFin.out false (by simp), by rw [HW.out, World.drewN_drewN]⟩
          case measure => simp [intOf] <;> omega
      · have e3 : sv = 0 := by
          have := HP.out
          rw [Bm.getD_ge _ _ _ (by rw [← HND.out]; omega)] at this
          exact this
        subst e3
        have e0' : 4 * (j : Int) = (m : Int) := by have := e0; simp at this; omega
        clear e0
        have w2' : IntKind.i64.wrap (4 * (j : Int)) = (m : Int) := by rw [w0, e0']
        clear w0
        cases f with
        | true =>
          by_cases hxy : x = y
          · have t1 : ((x : Int) == (y : Int)) = true := by simp [hxy]
            have HXY := Lib.hid hxy
            clear hxy
            go_wp2_with fail
            go_quiet (fail)
            go_wp2
            go_roundw
            case rel => exact ⟨j + 1, q + _, true, by omega, by go_num, rfl, HFin.out true (by simp [HXY.out]), by rw [HW.out, World.drewN_drewN]⟩
            case measure => simp [intOf] <;> omega
          · have t1 : ((x : Int) == (y : Int)) = false := by simp; omega
            go_wp2_with fail
            go_quiet (fail)
            go_wp2
            go_roundw
            case rel => exact ⟨j + 1, q + _, false, by omega, by go_num, rfl, HFin.out false (by simp [hxy]), by rw [HW.out, World.drewN_drewN]⟩
            case measure => simp [intOf] <;> omega
        | false =>
          go_wp2_with fail
          go_quiet (fail)
          go_wp2
          go_roundw
          case rel => exact ⟨j + 1, q + _, false, by omega, by go_num, rfl, HFin.out false (by simp), by rw [HW.out, World.drewN_drewN]⟩
          case measure => simp [intOf] <;> omega
    · have d0 : ¬ (j : Int) < (n : Int) + 6 := by omega
      have hf := alone_iff us vs ws n HL1.out HL2.out f (by have := HF.out; rwa [show j = n + 6 by omega] at this)
      have hst : f = ((str us).toList == (str vs).toList) := by
        rw [hf]
        by_cases hu : us = vs
        · simp [hu]
        · rw [str_ne (bit256 g1) (bit256 g2) hu]; simp [hu]
      generalize str us = s1 at *
      generalize str vs = s2 at *
      have hp1 : (f == (s1.toList == s2.toList)) = true := by rw [hst]; simp
      have HK : Hid (∀ W, Below w8.heap.size w8 W → (Below w8.heap.size w8 W ∧ convO A1 n c1 W = .ok (.string s1) W ∧ convO A2 n c2 W = .ok (.string s2) W)) := fun W hB => ⟨hB, K1.out W hB, K2.out W hB⟩
      clear hst hf K1 K2 R3 R5 R6
      have hany := convO_eq
      have hHB := Lib.hid bq
      go_wp2_with fail
      refine wp_region_noPanic ?_
      refine wp_region_held_drew (S := fun W => Below w8.heap.size w8 W ∧ convO A1 n c1 W = .ok (.string s1) W ∧ convO A2 n c2 W = .ok (.string s2) W) (by kernel_rfl) (HK.out _ hHB.out.drew) (fun hHeld => ?_)
      refine wpAnyH_take (i := 0) (oi := ⟨some 97, _, _, _, _, _⟩) (v := ?_) rfl (by kernel_rfl) (by kernel_rfl) (by kernel_rfl) (fun _ _ _ h => h) (Or.inl ⟨by rfl, ?_⟩) (by assumption) ?_
      rotate_left
      · intro W hSW; obtain ⟨hSW0, hSW1, hSW2⟩ := hSW; go_simp; first | done | with_reducible rfl
      (try simp only [Act.put, List.setIfInBounds_toArray, List.set_cons_zero, List.set_cons_succ])
      refine wpAnyH_take (i := 1) (oi := ⟨some 98, _, _, _, _, _⟩) (v := ?_) rfl (by kernel_rfl) (by kernel_rfl) (by kernel_rfl) (fun _ _ _ h => h) (Or.inl ⟨by rfl, ?_⟩) (by assumption) ?_
      rotate_left
      · intro W hSW; obtain ⟨hSW0, hSW1, hSW2⟩ := hSW; go_simp; first | done | with_reducible rfl
      (try simp only [Act.put, List.setIfInBounds_toArray, List.set_cons_zero, List.set_cons_succ])
      refine wpAnyH_take (i := 2) (oi := ⟨some 99, _, _, _, _, _⟩) (v := ?_) rfl (by kernel_rfl) (by kernel_rfl) (by kernel_rfl) (fun _ _ _ h => h) (Or.inl ⟨by rfl, ?_⟩) (by assumption) ?_
      rotate_left
      · intro W hSW; obtain ⟨hSW0, hSW1, hSW2⟩ := hSW; go_simp; first | done | with_reducible rfl
      (try simp only [Act.put, List.setIfInBounds_toArray, List.set_cons_zero, List.set_cons_succ])
      refine wpAnyH_take (i := 3) (oi := ⟨some 100, _, _, _, _, _⟩) (v := ?_) rfl (by kernel_rfl) (by kernel_rfl) (by kernel_rfl) (fun _ _ _ h => h) (Or.inl ⟨by rfl, ?_⟩) (by assumption) ?_
      rotate_left
      · intro W hSW; obtain ⟨hSW0, hSW1, hSW2⟩ := hSW; go_simp; first | done | with_reducible rfl
      (try simp only [Act.put, List.setIfInBounds_toArray, List.set_cons_zero, List.set_cons_succ])
      refine wpAnyH_take (i := 4) (oi := ⟨some 101, _, _, _, _, _⟩) (v := ?_) rfl (by kernel_rfl) (by kernel_rfl) (by kernel_rfl) (fun _ _ _ h => h) (Or.inl ⟨by rfl, ?_⟩) (by assumption) ?_
      rotate_left
      · intro W hSW; obtain ⟨hSW0, hSW1, hSW2⟩ := hSW; go_simp; first | done | with_reducible rfl
      (try simp only [Act.put, List.setIfInBounds_toArray, List.set_cons_zero, List.set_cons_succ])
      refine wpAnyH_take (i := 5) (oi := ⟨some 102, _, _, _, _, _⟩) (v := ?_) rfl (by kernel_rfl) (by kernel_rfl) (by kernel_rfl) (fun _ _ _ h => h) (Or.inl ⟨by rfl, ?_⟩) (by assumption) ?_
      rotate_left
      · intro W hSW; obtain ⟨hSW0, hSW1, hSW2⟩ := hSW; go_simp; first | done | with_reducible rfl
      (try simp only [Act.put, List.setIfInBounds_toArray, List.set_cons_zero, List.set_cons_succ])
      refine wpAnyH_take (i := 6) (oi := ⟨some 103, _, _, _, _, _⟩) (v := ?_) rfl (by kernel_rfl) (by kernel_rfl) (by kernel_rfl) (fun _ _ _ h => h) (Or.inl ⟨by rfl, ?_⟩) (by assumption) ?_
      rotate_left
      · intro W hSW; obtain ⟨hSW0, hSW1, hSW2⟩ := hSW; go_simp; first | done | with_reducible rfl
      (try simp only [Act.put, List.setIfInBounds_toArray, List.set_cons_zero, List.set_cons_succ])
      refine wpAnyH_take (i := 7) (oi := ⟨some 104, _, _, _, _, _⟩) (v := ?_) rfl (by kernel_rfl) (by kernel_rfl) (by kernel_rfl) (fun _ _ _ h => h) (Or.inl ⟨by rfl, ?_⟩) (by assumption) ?_
      rotate_left
      · intro W hSW; obtain ⟨hSW0, hSW1, hSW2⟩ := hSW; go_simp; first | done | with_reducible rfl
      (try simp only [Act.put, List.setIfInBounds_toArray, List.set_cons_zero, List.set_cons_succ])
      refine wpAnyH_take (i := 8) (oi := ⟨some 105, _, _, _, _, _⟩) (v := ?_) rfl (by kernel_rfl) (by kernel_rfl) (by kernel_rfl) (fun _ _ _ h => h) (Or.inl ⟨by rfl, ?_⟩) (by assumption) ?_
      rotate_left
      · intro W hSW; obtain ⟨hSW0, hSW1, hSW2⟩ := hSW; go_simp; first | done | with_reducible rfl
      (try simp only [Act.put, List.setIfInBounds_toArray, List.set_cons_zero, List.set_cons_succ])
      refine wpAnyH_take (i := 9) (oi := ⟨some 106, _, _, _, _, _⟩) (v := ?_) rfl (by kernel_rfl) (by kernel_rfl) (by kernel_rfl) (fun _ _ _ h => h) (Or.inl ⟨by rfl, ?_⟩) (by assumption) ?_
      rotate_left
      · intro W hSW; obtain ⟨hSW0, hSW1, hSW2⟩ := hSW; go_simp; first | done | with_reducible rfl
      (try simp only [Act.put, List.setIfInBounds_toArray, List.set_cons_zero, List.set_cons_succ])
      refine wpAnyH_take (i := 10) (oi := ⟨some 107, _, _, _, _, _⟩) (v := ?_) rfl (by kernel_rfl) (by kernel_rfl) (by kernel_rfl) (fun _ _ _ h => h) (Or.inl ⟨by rfl, ?_⟩) (by assumption) ?_
      rotate_left
      · intro W hSW; obtain ⟨hSW0, hSW1, hSW2⟩ := hSW; go_simp; first | done | with_reducible rfl
      (try simp only [Act.put, List.setIfInBounds_toArray, List.set_cons_zero, List.set_cons_succ])
      refine wpAnyH_take (i := 11) (oi := ⟨some 6, _, _, _, _, _⟩) (v := ?_) rfl (by kernel_rfl) (by kernel_rfl) (by kernel_rfl) (fun _ _ _ h => h) (Or.inl ⟨by rfl, ?_⟩) (by assumption) ?_
      rotate_left
      · intro W hSW; obtain ⟨hSW0, hSW1, hSW2⟩ := hSW; go_simp; first | done | with_reducible rfl
      (try simp only [Act.put, List.setIfInBounds_toArray, List.set_cons_zero, List.set_cons_succ])
      refine wpAnyH_done (by kernel_rfl) ?_ _
      refine NoPanic.normal ?_
      go_wp2
      go_ret
      exact ⟨rfl, Below.then_ HB8.out hHeld.1⟩
end Go.Proofs.YtlnjealhiikmeaaDoor
