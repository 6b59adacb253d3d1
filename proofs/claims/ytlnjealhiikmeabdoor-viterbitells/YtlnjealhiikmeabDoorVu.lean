/-
  The walk of ViterbiTells.
-/
import Derived.Test.YtlnjealhiikmeabDoorVi
import Derived.Test.YtlnjealhiikmeabDoorVt
namespace Go.Proofs.YtlnjealhiikmeabDoor
open Go.RowKit
set_option linter.unusedVariables false
set_option linter.unusedSimpArgs false

set_option maxHeartbeats 1000000 in
set_option maxRecDepth 100000 in
/-- ViterbiTells. -/
theorem walkViterbiTells (A : Option Addr) (na ca : Nat) (zs : List Int) (w : World) (h1 : Rd w w.heap.size A na (I64 zs)) (hnc : na ≤ ca) (hc : ca ≤ 9223372036854775807) (hnone : A = none → na = 0 ∧ ca = 0) (hT : Taps w) :
    Calls Tryd.prog 4 #[.slice A na ca] w fun e w' => e = .returned (.bool true) ∧ Below w.heap.size w w' := by
  obtain ⟨i0, hi0, hz0, hz1, hz2⟩ := info_parts info3
  obtain ⟨k, hk, hk2, hk3⟩ := min_if na 200
  obtain ⟨hm1, hm2⟩ := hk3 200 rfl
  clear hk3
  have r1 := h1.cut64 k hk2
  generalize zs.take k = ls at *
  have r2 : Rd (w.alloc (.cells #[] 3)) w.heap.size A k (I64 ls) := r1.below ((Below.refl _ _).alloc (Nat.le_refl _) _)
  have hn2 : A = none → k = 0 ∧ ca = 0 := fun h => ⟨by have := (hnone h).1; omega, (hnone h).2⟩
  have o1 : Own (w.alloc (.cells #[] 3)) w.heap.size 3 (some ⟨w.heap.size, 0, none⟩) 0 0 [] := ⟨World.ownsRow_made w #[] 0 (Nat.le_refl _) (by unfold maxLen; omega) (by simp)⟩
  clear h1 hnone r1
  go_enter Tryd.func4, Tryd.ntmps4
  go_upto_region 2 with (at_builtin; refine wpList_app _ rfl _ _ 22 rfl w.heap.size 3 i0 _ 8 Tryd.underlying22 hi0 hz0 hz1 hz2 rfl _ 0 0 [] rfl o1 w.heap.size A k ca (I64 ls) rfl r2 hn2 (I64_one ls) (by omega) (by unfold maxLen; omega) (by simp) ?_; intro A5 c5 w5 hown5 hgrow5; have own := hown5.to (Nat.zero_add k) (List.nil_append (I64 ls)))
  have bel : Below w.heap.size w w5 := ((Below.refl _ _).alloc (Nat.le_refl _) _).grown hgrow5 (by simp) (fun j hj => by simp [Value.ownBlock] at hj; omega)
  clear hown5 hgrow5 r2 hn2 o1 hm1 hm2
  have hn5 := own.none_
  have hT5 := hT.after bel
  have hb5 : k ≤ c5 ∧ c5 ≤ 9223372036854775807 := by have := own.bounds; unfold maxLen at this; exact ⟨this.1, by omega⟩
  have r3 : Rd (w5.alloc (.cells #[] 3)) w5.heap.size A5 k (I64 ls) := own.rd.below ((Below.refl _ _).alloc (Nat.le_refl _) _)
  have o2 : Own (w5.alloc (.cells #[] 3)) w5.heap.size 3 (some ⟨w5.heap.size, 0, none⟩) 0 0 [] := ⟨World.ownsRow_made w5 #[] 0 (Nat.le_refl _) (by unfold maxLen; omega) (by simp)⟩
  go_upto_region 3 with (at_builtin; refine wpList_app _ rfl _ _ 22 rfl w5.heap.size 3 i0 _ 8 Tryd.underlying22 hi0 hz0 hz1 hz2 rfl _ 0 0 [] rfl o2 w5.heap.size A5 k c5 (I64 ls) rfl r3 hn5 (I64_one ls) (by omega) (by unfold maxLen; omega) (by simp) ?_; intro A6 c6 w6 hown6 hgrow6; have own6 := hown6.to (Nat.zero_add k) (List.nil_append (I64 ls)))
  have b56 : Below w5.heap.size w5 w6 := ((Below.refl _ _).alloc (Nat.le_refl _) _).grown hgrow6 (by simp) (fun j hj => by simp [Value.ownBlock] at hj; omega)
  have bel6 := Below.then_ bel b56
  have hT6 := hT.after bel6
  have HLN := Lib.hid own.rd.len64
  have own56 := own.below b56 (Nat.le_refl _)
  clear hown6 hgrow6 r3 o2 hi0 hz0 hz1 hz2 hT hT5 hn5
  obtain ⟨r, hr⟩ : ∃ r : Nat, r = k % 4 := ⟨_, rfl⟩
  have er : (k : Int) % 4 = (r : Int) := by omega
  by_cases hbad : k % 4 ≠ 0
  · have t0 : ((r : Int) != 0) = true := by simp; omega
    have D := Lib.hid (decodeArg A5 k c5 w6 (by omega) (by omega))
    clear hr hbad
    go_upto_region 4 with (go_at_call 11; refine D.out.mono ?_; rintro e w' ⟨rfl, rfl⟩)
    go_wp2_with (go_at_call 13; refine (decodesC w6 hT6).mono ?_; rintro e wx ⟨rfl, bx6⟩)
    have bx := Below.then_ b56 bx6
    have by_ := bx6
    have bw := Below.then_ bel6 bx6
    have o5 := own.below bx (Nat.le_refl _)
    have o6 := own6.below by_ (Nat.le_refl _)
    generalize hwx : wx.heap.size = gx at *
    have HGX := Lib.hid hwx
    clear hwx
    go_loopw [7] (fun i wr => ∃ j : Nat, j ≤ k ∧ i = .int .i64 j ∧ Below gx wx wr) (fun i _ => k - (intOf i).toNat)
    case atStart => exact ⟨0, Nat.zero_le _, rfl, Below.refl _ _⟩
    case round =>
      obtain ⟨j, hj, rfl, hbel⟩ := hrel
      by_cases hlt : j < k
      · obtain ⟨b1, off1, rfl, hl1, hc1⟩ := (o5.rdOf (HGX.out ▸ hbel)).cell64 j hlt
        obtain ⟨b2, off2, rfl, hl2, hc2⟩ := (o6.rdOf (HGX.out ▸ hbel)).cell64 j hlt
        generalize ls.getD j 0 = x at *
        have hxx : (x != x) = false := by simp
        go_wp2_with fail
        go_quiet (fail)
        go_wp2
        go_roundw
        case rel => exact ⟨j + 1, by omega, by go_num, hbel.trans (below_drawn _)⟩
        case measure => simp [intOf] <;> omega
      · obtain rfl : k = j := by omega
        have hbel := HGX.out ▸ hbel
        go_wp2
        go_ret
        exact ⟨rfl, Below.then_ bw hbel⟩
  · have hr0 : r = 0 := by omega
    subst hr0
    have t0 : (((0 : Nat) : Int) != 0) = false := by simp
    by_cases hsm : k < 24
    · have t1 : decide ((k : Int) < 24) = true := by simp; omega
      have t2 : decide (k < 24) = true := by simp; omega
      have D := Lib.hid (decodeArg A5 k c5 w6 (by omega) (by omega))
      clear hr hbad
      go_upto_region 4 with (go_at_call 11; refine D.out.mono ?_; rintro e w' ⟨rfl, rfl⟩)
      go_wp2_with (go_at_call 13; refine (decodesC w6 hT6).mono ?_; rintro e wx ⟨rfl, bx6⟩)
      have bx := Below.then_ b56 bx6
      have by_ := bx6
      have bw := Below.then_ bel6 bx6
      have o5 := own.below bx (Nat.le_refl _)
      have o6 := own6.below by_ (Nat.le_refl _)
      generalize hwx : wx.heap.size = gx at *
      have HGX := Lib.hid hwx
      clear hwx
      go_loopw [7] (fun i wr => ∃ j : Nat, j ≤ k ∧ i = .int .i64 j ∧ Below gx wx wr) (fun i _ => k - (intOf i).toNat)
      case atStart => exact ⟨0, Nat.zero_le _, rfl, Below.refl _ _⟩
      case round =>
        obtain ⟨j, hj, rfl, hbel⟩ := hrel
        by_cases hlt : j < k
        · obtain ⟨b1, off1, rfl, hl1, hc1⟩ := (o5.rdOf (HGX.out ▸ hbel)).cell64 j hlt
          obtain ⟨b2, off2, rfl, hl2, hc2⟩ := (o6.rdOf (HGX.out ▸ hbel)).cell64 j hlt
          generalize ls.getD j 0 = x at *
          have hxx : (x != x) = false := by simp
          go_wp2_with fail
          go_quiet (fail)
          go_wp2
          go_roundw
          case rel => exact ⟨j + 1, by omega, by go_num, hbel.trans (below_drawn _)⟩
          case measure => simp [intOf] <;> omega
        · obtain rfl : k = j := by omega
          have hbel := HGX.out ▸ hbel
          go_wp2
          go_ret
          exact ⟨rfl, Below.then_ bw hbel⟩
    · have t1 : decide ((k : Int) < 24) = false := by simp; omega
      have t2 : decide (k < 24) = false := by simp; omega
      obtain ⟨n, hn⟩ : ∃ n, k = 4 * (n + 6) := ⟨k / 4 - 6, by omega⟩
      have HNK := Lib.hid hn
      have hn44 : n ≤ 44 := by omega
      by_cases hit : Cv.inB ls = true
      · have HIN := Lib.hid (Cv.inB_true hit)
        have D := Lib.hid (decodeO A5 k n c5 w.heap.size ls w6 w6 own56 (Below.refl _ _) HIN.out HNK.out (by omega) hT6)
        clear hr hbad hn
        go_upto_region 4 with (go_at_call 11; refine D.out.mono ?_; rintro e w8 ⟨A8, n8, c8, rfl, o8, be8⟩)
        obtain rfl : n = n8 := by rw [o8.rd.len8]; exact (Cv.rb_length ls n 0 0).symm
        go_wp2_with (go_at_call 13; refine (decodesC w8 (hT6.after be8)).mono ?_; rintro e wx ⟨rfl, bxx⟩)
        have by_ := Below.then_ be8 bxx
        have bx := Below.then_ b56 by_
        have bw := Below.then_ bel6 by_
        have o5 := own.below bx (Nat.le_refl _)
        have o6 := own6.below by_ (Nat.le_refl _)
        generalize hwx : wx.heap.size = gx at *
        have HGX := Lib.hid hwx
        clear hwx
        go_loopw [7] (fun i wr => ∃ j : Nat, j ≤ k ∧ i = .int .i64 j ∧ Below gx wx wr) (fun i _ => k - (intOf i).toNat)
        case atStart => exact ⟨0, Nat.zero_le _, rfl, Below.refl _ _⟩
        case round =>
          obtain ⟨j, hj, rfl, hbel⟩ := hrel
          by_cases hlt : j < k
          · obtain ⟨b1, off1, rfl, hl1, hc1⟩ := (o5.rdOf (HGX.out ▸ hbel)).cell64 j hlt
            obtain ⟨b2, off2, rfl, hl2, hc2⟩ := (o6.rdOf (HGX.out ▸ hbel)).cell64 j hlt
            generalize ls.getD j 0 = x at *
            have hxx : (x != x) = false := by simp
            go_wp2_with fail
            go_quiet (fail)
            go_wp2
            go_roundw
            case rel => exact ⟨j + 1, by omega, by go_num, hbel.trans (below_drawn _)⟩
            case measure => simp [intOf] <;> omega
          · obtain rfl : k = j := by omega
            have hbel := HGX.out ▸ hbel
            have CR := Lib.hid (refRight64 A5 k c5 ls wr (o5.rdOf hbel) (by omega))
            rw [hit] at CR
            go_upto_region 15 with (go_at_call 14; refine CR.out.mono ?_; rintro e w' ⟨rfl, mm, rfl⟩)
            have bel7 : Below wx.heap.size wx (wr.drewN mm) := hbel.trans (below_drawn _)
            have o57 := o5.below bel7 (Nat.le_refl _)
            have o87 := (o8.below bxx (Nat.le_refl _)).below bel7 (Nat.le_refl _)
            have bw7 := Below.then_ bw bel7
            obtain ⟨gb, goff, hA5, _, _⟩ := (o57.rd).at_ (by omega)
            subst hA5
            have C9 := Lib.hid (refDecode gb goff k n c5 ls (wr.drewN mm) o57.rd HIN.out HNK.out (by omega) hb5.1 hb5.2)
            generalize wr.drewN mm = w7 at *
            go_upto_region 16 with (go_at_call 15; refine C9.out.mono ?_; rintro e w9 ⟨A9, n9, c9, rfl, ow9, be9⟩)
            have o59 := o57.below be9 (Nat.le_refl _)
            have o89 := o87.below be9 (Nat.le_refl _)
            have bw9 := Below.then_ bw7 be9
            have hcv8 := o89.conv w9 (Below.refl _ _)
            have hcv9 := ow9.conv w9 (Below.refl _ _)
            have hbit := Cv.rb_bit ls n 0 0
            have hlen := Cv.rb_length ls n 0 0
            have CC := Lib.hid (refCode A8 n c8 (Cv.rb ls n 0 0) w9 (o89.rd) hbit (by omega))
            have HSC : Hid (Cv.score ls (Cv.code (Cv.rb ls n 0 0)) = Cv.mb ls n 0 0) := by
              unfold Hid
              rw [Cv.score_tot ls _ hbit (by rw [hlen, ← HLN.out, HNK.out]), ← Cv.rb_eq]
              rfl
            have HCL : Hid ((Cv.code (Cv.rb ls n 0 0)).length = k) := by unfold Hid; rw [Cv.code_length, hlen, HNK.out]
            have hCS := Lib.hid (fun (W : World) (Ac : Option Addr) (cc : Nat) (hz : Rd W W.heap.size (some ⟨gb, goff, none⟩) k (I64 ls)) (hb : Rd W W.heap.size Ac k (U8 (Cv.code (Cv.rb ls n 0 0)))) => refScore (some ⟨gb, goff, none⟩) Ac k c5 cc ls _ W hz hb HIN.out (by omega))
            rw [HSC.out] at hCS
            generalize Cv.mb ls n 0 0 = v at *
            generalize Cv.rb ls n 0 0 = rs at *
            generalize str rs = s0 at *
            have hp0 : (s0.toList == s0.toList) = true := by simp
            have hvv : (v == v) = true := by simp
            clear HSC hlen hbit
            go_wp2_with fail
            refine CC.out.mono ?_
            rintro e wd ⟨Ad, nd, cd, rfl, owd, bed⟩
            obtain rfl : k = nd := by rw [owd.rd.len8]; exact HCL.out.symm
            have CS2 := Lib.hid (hCS.out wd Ad cd (o59.rdOf bed) owd.rd)
            go_wp2_with (go_at_call 16; refine CS2.out.mono ?_; rintro e w' ⟨rfl, rfl⟩)
            go_ret
            exact ⟨rfl, Below.then_ bw9 bed⟩
      · have hif : Cv.inB ls = false := by simpa using hit
        have D := Lib.hid (decodeField A5 k n c5 ls w6 own56.rd hif HNK.out (by omega))
        clear hr hbad hn hit
        go_upto_region 4 with (go_at_call 11; refine D.out.mono ?_; rintro e w' ⟨rfl, rfl⟩)
        go_wp2_with (go_at_call 13; refine (decodesC w6 hT6).mono ?_; rintro e wx ⟨rfl, bx6⟩)
        have bx := Below.then_ b56 bx6
        have by_ := bx6
        have bw := Below.then_ bel6 bx6
        have o5 := own.below bx (Nat.le_refl _)
        have o6 := own6.below by_ (Nat.le_refl _)
        generalize hwx : wx.heap.size = gx at *
        have HGX := Lib.hid hwx
        clear hwx
        go_loopw [7] (fun i wr => ∃ j : Nat, j ≤ k ∧ i = .int .i64 j ∧ Below gx wx wr) (fun i _ => k - (intOf i).toNat)
        case atStart => exact ⟨0, Nat.zero_le _, rfl, Below.refl _ _⟩
        case round =>
          obtain ⟨j, hj, rfl, hbel⟩ := hrel
          by_cases hlt : j < k
          · obtain ⟨b1, off1, rfl, hl1, hc1⟩ := (o5.rdOf (HGX.out ▸ hbel)).cell64 j hlt
            obtain ⟨b2, off2, rfl, hl2, hc2⟩ := (o6.rdOf (HGX.out ▸ hbel)).cell64 j hlt
            generalize ls.getD j 0 = x at *
            have hxx : (x != x) = false := by simp
            go_wp2_with fail
            go_quiet (fail)
            go_wp2
            go_roundw
            case rel => exact ⟨j + 1, by omega, by go_num, hbel.trans (below_drawn _)⟩
            case measure => simp [intOf] <;> omega
          · obtain rfl : k = j := by omega
            have hbel := HGX.out ▸ hbel
            have CR := Lib.hid (refRight64 A5 k c5 ls wr (o5.rdOf hbel) (by omega))
            rw [hif] at CR
            go_wp2_with (go_at_call 14; refine CR.out.mono ?_; rintro e w' ⟨rfl, mm, rfl⟩)
            go_ret
            exact ⟨rfl, (Below.then_ bw hbel).trans (below_drawn _)⟩
end Go.Proofs.YtlnjealhiikmeabDoor
