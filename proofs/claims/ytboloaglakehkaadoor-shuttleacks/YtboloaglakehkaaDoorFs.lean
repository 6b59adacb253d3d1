/-
  The walk of ShuttleAcks.
-/
import Derived.Test.YtboloaglakehkaaDoorZm
import Derived.Test.YtboloaglakehkaaDoorFq
import Derived.Test.YtboloaglakehkaaDoorRs
namespace Go.Proofs.YtboloaglakehkaaDoor
open Go.RowKit
set_option maxRecDepth 100000
set_option linter.unusedVariables false
set_option linter.unusedSimpArgs false

section
variable {P : Program} {ops : Array Oper} {rest : List Oper} {o : Oper} {a : Act} {w : World} {Q : Exit → Act → World → Prop}
/-- A part of a block is read, behind a guard. -/
theorem at_load_mid_g (hw : Region.wanted o (yielded ops a.tmps) = true) (ty : TypeId) (x : Operand) (ho : o.op = .load ty x) (g off : Nat) (hx : a.eval x = .pointer (some ⟨g, off, none⟩)) (cs : Array Value) (d : TypeDesc) (hc : w.rangeAt g off cs.toList)
    (hu : P.underlying ty = some d) (hd : d.isRow = true) (hi : (P.info? ty).map (·.size) = some cs.size)
    (h : wpList P ops Q rest (a.put o.dst (.agg cs)) w) : wpList P ops Q (o :: rest) a w := by
  refine wpList_step fun K hK => ?_
  rw [if_pos hw]
  refine wp_load_mid ty x ho g off hx cs.toList d hc hu hd (by rw [Array.length_toList]; exact hi) ?_
  rw [Array.toArray_toList]
  exact hK _ _ h
end
set_option maxHeartbeats 4000000 in
set_option maxRecDepth 100000 in
theorem shuttleAcks (base : Nat) (A : Option Addr) (n c : Nat) (zs : List Int) (a : Nat → Addr) (w : World) (hb16 : base < 65536) (hr : Rd w w.heap.size A n (I64 zs)) (hn : n ≤ 9223372036854775807) (hE : ErrsAt w a) :
    Calls Tryd.prog 8 #[.int .u16 (base : Int), .slice A n c] w fun e w' => e = .returned (.bool true) ∧ Below w.heap.size w w' := by
  have hb : 0 ≤ (base : Int) ∧ (base : Int) < 65536 := by omega
  have HN := Lib.hid hr.len64
  have CS := Lib.hid stands
  go_enter Tryd.func8, Tryd.ntmps8
  go_upto_region 4 with (refine at_alloc rfl 55 rfl (B33 fun _ => false) zeroHas ?_; intro w1 L1)
  have q10 := L1.row
  have bel1 := L1.bel
  have HW1 := Lib.hid (show w.heap.size ≤ w1.heap.size by rw [L1.size]; omega)
  have HGL0 := Lib.hid q10.lt
  obtain ⟨g10, hg10⟩ : ∃ g, g = w.heap.size := ⟨_, rfl⟩
  have HG10 : Hid (w.heap.size ≤ g10) := by unfold Hid; omega
  rw [← hg10] at q10 HGL0 ⊢
  have HGL : Hid (g10 < w1.heap.size) := HGL0.out
  have HGR : Hid (¬ w1.heap.size ≤ g10) := by have := HGL0.out; unfold Hid; omega
  rw [← B33_noneD] at q10
  clear L1 hg10 HGL0
  go_loopw [5, 7] (fun v i wr => ∃ (k : Nat) (A1 : Option Addr) (c1 : Nat), k ≤ n ∧ k ≤ 20 ∧ i = .int .i64 (k : Int) ∧ v = .slice A1 k c1 ∧ Own wr w1.heap.size 28 A1 k c1 (N16 (cl base (zs.take k))) ∧ Blk wr g10 55 (B33 (hasD (zs.take k))) ∧ Below w.heap.size w wr ∧ w1.heap.size ≤ wr.heap.size) (fun _ i _ => 20 - (intOf i).toNat)
  case atStart => exact ⟨0, none, 0, Nat.zero_le _, by omega, rfl, rfl, Own.nil _ _ _, q10, bel1, Nat.le_refl _⟩
  case round =>
    clear q10 bel1
    obtain ⟨k, A1, c1, hk, hk20, rfl, rfl, own, q10, bel, hsz⟩ := hrel
    by_cases hlt : k < n ∧ k < 20
    · obtain ⟨hl1, hl2⟩ := hlt
      have hlz : k < zs.length := by rw [← HN.out]; exact hl1
      obtain ⟨b, off, rfl, hlt2, hcell⟩ := (hr.below bel).cell64 k hl1
      have HT := Lib.hid (take_cl (base : Int) zs k hlz)
      have HH := Lib.hid (hasD_take zs k hlz)
      obtain ⟨z, hz⟩ : ∃ z, z = zs.getD k 0 := ⟨_, rfl⟩
      rw [← hz] at HT HH hcell
      clear hz
      obtain ⟨u, hu, hu2, hu3⟩ : ∃ u : Nat, u < 18446744073709551616 ∧ IntKind.u64.wrap z = (u : Int) ∧ dd z = 1 + u % 32 := by
        refine ⟨(z % 18446744073709551616).toNat, by omega, ?_, ?_⟩
        · rw [IntKind.wrap_u64]; omega
        · unfold dd; omega
      obtain ⟨r, hr2⟩ : ∃ r : Nat, r = u % 32 := ⟨_, rfl⟩
      have hr32 : r < 32 := by omega
      have e1 : (u : Int) % 32 = (r : Int) := by omega
      rw [← hr2] at hu3
      have C1 := Lib.hid (plusC (base : Int) (1 + (r : Int)))
      have e2 : ((base : Int) + (1 + (r : Int))) % 65536 = ((nx16 base (dd z) : Nat) : Int) := by rw [nx16_eq, hu3]; omega
      rw [e2] at C1
      obtain ⟨D, hD⟩ : ∃ D, D = dd z := ⟨_, rfl⟩
      have e3 : 1 + (r : Int) = (D : Int) := by omega
      rw [e3] at C1
      rw [← hD] at C1 HT HH
      have hD33 : D < 33 := by omega
      clear e2 hr2 hu3 hD
      generalize nx16 base D = x at *
      go_wp2_with (first | (go_at_call 22; refine (C1.out _).mono ?_; rintro e w' ⟨rfl, rfl⟩) | (at_builtin; refine app16 _ rfl _ _ rfl w1.heap.size _ _ _ _ x _ rfl rfl own rfl (by omega) hsz ?_; intro A6 c6 w6 own6 hgr6; have q6 := q10.grown hgr6 (fun e => HGR.out (own.block g10 e).1)) | (refine at_cell rfl 4 _ _ rfl g10 D (.bool true) rfl rfl 55 _ q6 (by rw [B33_size]; omega) infoBool rfl ?_; intro w7 h7))
      go_roundw
      case rel =>
        have be6 : Below w.heap.size w w6 := bel.grown hgr6 bel.size (fun j hj => by have := (own.block j hj).1; have := HW1.out; omega)
        exact ⟨k + 1, A6, c6, by omega, by omega, by go_num, rfl, (by rw [HT.out]; exact own6.upd h7 HGL.out), (by rw [HH.out, ← B33_set _ D hD33]; exact h7.row), be6.trans (h7.below HG10.out), Nat.le_trans (Nat.le_trans hsz hgr6.size) (by rw [h7.size]; exact Nat.le_refl _)⟩
      case measure => simp [intOf] <;> omega
    · have HIN := Lib.hid (cl_in (base : Int) (zs.take k))
      have HHM : Hid (∀ j : Nat, j ≤ 32 → hm base (orl base (cl base (zs.take k))) (nx16 base j) = hasD (zs.take k) j) := fun j hj => hm_has base (zs.take k) j hj hb
      generalize hasD (zs.take k) = H at *
      generalize cl (base : Int) (zs.take k) = l at *
      have rd := own.rd
      have hM32 : orl base l < 4294967296 := orl_lt fun x hx => (HIN.out x hx).hi
      have CF := Lib.hid (ofC A1 k c1 l base wr rd (fun x hx => (HIN.out x hx).lt) (by omega) hb)
      rw [(of_in HIN.out).1, (of_in HIN.out).2] at CF
      generalize orl (base : Int) l = M at *
      have HC1 := Lib.hid (fun (W : World) => writeC 2 0 0 0 none 0 0 base M [] W (by omega) (by omega) ⟨rfl, fun h => absurd h (by omega)⟩ (by simp) (by omega) hb16 hM32)
      rw [show WE 2 0 0 [] = 0 from rfl, show WB 2 0 0 0 [] base M = ackW base M from rfl] at HC1
      obtain ⟨ax, ak, ab, am⟩ := ack_read hb16 hM32
      have hal : ∀ x ∈ ackW base M, x < 256 := by rw [ackW_eq hb16 hM32]; exact Crc.seal16_lt _ (ackH_lt hb16 hM32)
      have HC2 : Hid (∀ (A2 : Option Addr) (n2 c2 : Nat) (W : World), Rd W W.heap.size A2 n2 (U8 (ackW base M)) → n2 ≤ c2 → c2 ≤ 9223372036854775807 → ErrsAt W a → Calls Tryd.prog 15 #[.slice A2 n2 c2] W fun e w' => ∃ A3 n3 c3, e = .returned (.tuple #[.agg (FV 2 0 0 0 (.slice A3 n3 c3) base M), .int .i64 0]) ∧ Below W.heap.size W w') := fun A2 n2 c2 W h1 h2 h3 h4 => by
        refine (readTopC A2 n2 c2 (ackW base M) a W h1 hal h2 h3 h4).mono ?_
        rintro e w' ⟨F, he, hy, _, hbl⟩
        obtain ⟨A3, n3, c3, hF, _⟩ := hy ax
        refine ⟨A3, n3, c3, ?_, hbl⟩
        rw [he, ax, hF]
        unfold restF
        rw [if_pos ak, ab, am]
        rfl
      generalize ackW base M = aw at *
      have CM := Lib.hid (fun (W : World) => missingC (base : Int) (base : Int) 33 M W hM32 (by omega))
      rw [show mk64 33 = 33 from rfl] at CM
      clear ax ak ab am hal
      by_cases hkn : k < n
      · have h20 : ¬ k < 20 := fun h => hlt ⟨hkn, h⟩
        clear hlt
        go_upto_region 10 with (first | (go_at_call 23; refine CF.out.mono ?_; rintro e w2 ⟨rfl, be2⟩) | (refine at_alloc rfl 30 rfl (mv 0 0) zeroMap ?_; intro w3 L3) | (refine at_store rfl 30 _ _ rfl w2.heap.size (mv base M) rfl rfl 30 _ L3.row (infoMap _ _) rfl (mv_all _ _) ?_; intro w4 L4))
        have m4 : Blk w4 w2.heap.size 30 (mv base M) := L4.row
        have be4 : Below wr.heap.size wr w4 := (Below.then_ be2 L3.bel).trans (L4.below be2.size)
        have q4 := q10.after be4
        have bel4 := bel.trans (be4.mono bel.size)
        obtain ⟨g9, hg9⟩ : ∃ g, g = w2.heap.size := ⟨_, rfl⟩
        rw [← hg9] at m4 ⊢
        clear L3 L4 hg9 CF be2 be4 own rd q10 bel
        go_upto_region 11 with (first | (refine at_load rfl 30 _ rfl g9 rfl 30 #[.int .u16 (base : Int), .int .u32 (M : Int)] _ m4 Tryd.underlying30 rfl (infoMap (base : Int) M) ?_) | (go_at_call 11; refine (HC1.out _).mono ?_; rintro e w5 ⟨A5, n5, c5, rfl, own5, b5⟩))
        have m5 := m4.after b5
        have q5 := q4.after b5
        have bel5 := Below.then_ bel4 b5
        have rd5 := own5.rd
        have hbd := own5.bounds
        have C2 := Lib.hid (HC2.out A5 n5 c5 w5 rd5 hbd.1 (by have := hbd.2; unfold maxLen at this; omega) (hE.below bel5))
        clear HC1 HC2 m4 q4 bel4 b5 own5 rd5
        go_upto_region 12 with (first | (go_at_call 15; refine C2.out.mono ?_; rintro e w6 ⟨A6, n6, c6, rfl, b6⟩) | (refine at_alloc rfl 32 rfl _ zeroF ?_; intro w7 L7) | (refine at_store rfl 32 _ _ rfl w6.heap.size (FV 2 0 0 0 (.slice A6 n6 c6) base M) rfl rfl 32 _ L7.row (infoF _ _ _ _ _ _ _) rfl (FV_all _ _ _ _ _ _ _ _ _) ?_; intro w8 H8))
        have b68 : Below w6.heap.size w6 w8 := L7.bel.trans (H8.below (Nat.le_refl _))
        have f8 : Blk w8 w6.heap.size 32 (FV 2 0 0 0 (.slice A6 n6 c6) base M) := H8.row
        have m8 := (m5.after b6).after b68
        have q8 := (q5.after b6).after b68
        have bel8 := Below.then_ (Below.then_ bel5 b6) b68
        obtain ⟨g13, hg13⟩ : ∃ g, g = w6.heap.size := ⟨_, rfl⟩
        rw [← hg13] at f8 ⊢
        clear L7 H8 hg13 b68 b6 m5 q5 bel5 C2
        go_wp2_with fail
        refine (CS.out _).mono ?_; rintro e w9 ⟨rfl, b9⟩
        have m9 := m8.after b9
        have q9 := q8.after b9
        have f9 := f8.after b9
        have bel9 := Below.then_ bel8 b9
        have hrg : w9.rangeAt g13 5 (mv base M).toList := f9.range 5 _ (fun i u hu => by
          match i, hu with
          | 0, hu => exact hu
          | 1, hu => exact hu
          | i + 2, hu => simp [mv] at hu)
        clear m8 q8 f8 bel8 b9
        go_upto_region 17 with (first | (refine at_load_mid_g rfl 30 _ rfl g13 5 rfl (mv base M) _ hrg Tryd.underlying30 rfl (infoMap _ _) ?_) | (refine at_load_g rfl 30 _ rfl g9 rfl 30 (mv base M) _ m9 Tryd.underlying30 rfl (infoMap _ _) ?_) | (refine at_eq rfl .neq 30 _ _ _ rfl (mv base M) (mv base M) rfl rfl mapGuard (.bool false) (mapNeq base M) ?_) | (go_at_call 25; refine (CM.out _).mono ?_; rintro e w10 ⟨A10, n10, c10, rfl, own10, b10⟩))
        have q11 := q9.after b10
        have rd10 := own10.rd
        have HL := Lib.hid rd10.len16
        have bel10 := Below.then_ bel9 b10
        have hn10 : n10 ≤ 33 := by rw [HL.out]; exact ms_length _ _ _ _
        clear m9 q9 f9 bel9 b10 own10 hrg CM CS
        obtain ⟨wo, rfl⟩ : ∃ wo : World, wo = wr := ⟨_, rfl⟩
        go_loopw [16, 17] (fun j i wr => ∃ k q : Nat, k ≤ 33 ∧ i = .int .i64 (k : Int) ∧ j = .int .i64 (q : Int) ∧ q ≤ k ∧ Hid (q = (ms base M base k).length) ∧ Below w10.heap.size w10 wr) (fun _ i _ => 33 - (intOf i).toNat)
        case atStart => exact ⟨0, 0, Nat.zero_le _, rfl, rfl, Nat.le_refl _, rfl, Below.refl _ _⟩
        case round =>
          obtain ⟨j, q, hj, rfl, rfl, hqj, HQ, belr⟩ := hrel
          by_cases hlt : j < 33
          · have hjl : (j : Int) ≤ 32 := by omega
            have hj33 : (j : Int) < 33 := by omega
            have hcH : wr.cell? ⟨g10, j, none⟩ = some (.bool (H j)) := ((q11.after belr).cell j).trans (B33_get H j hlt)
            have hx := nx16_eq (base : Int) j
            have HB := Lib.hid (HHM.out j (by omega))
            have CP := Lib.hid (fun i : Nat => Calls.quiet_of_same ((plusC (base : Int) (j : Int) (wr.drewN i)).mono fun e w' h => ⟨h.1, h.2.symm⟩))
            rw [← hx] at CP
            have HX := Lib.hid hx
            obtain ⟨x, hxe⟩ : ∃ x, x = nx16 (base : Int) j := ⟨_, rfl⟩
            rw [← hxe] at CP HB HX
            clear hx hxe
            cases hHj : H j with
            | true =>
              rw [hHj] at hcH HB
              clear hHj
              go_wp2
              go_roundw
              case rel => exact ⟨j + 1, q, by omega, by go_num, rfl, by omega, by rw [ms_yes base M base j x HX.out HB.out]; exact HQ, belr⟩
              case measure => simp [intOf] <;> omega
            | false =>
              rw [hHj] at hcH HB
              clear hHj
              have e1 := ms_no (base : Int) M (base : Int) j x HX.out HB.out
              obtain ⟨r, hr3⟩ := ms_prefix (base : Int) M (base : Int) (j + 1) 33 (by omega)
              have hq : q < n10 := by rw [HL.out, hr3, e1, HQ.out]; simp
              obtain ⟨b2, off2, rfl, hlt4, hcell⟩ := (rd10.below belr).cell16 q hq
              have hxv : (ms (base : Int) M (base : Int) 33).getD q 0 = x := by
                rw [hr3, e1, HQ.out]; simp [List.getD]
              rw [hxv] at hcell
              have HE1 := Lib.hid e1
              have t1 : decide ((n10 : Int) ≤ (q : Int)) = false := decide_eq_false (by omega)
              have hqi : (q : Int) < (n10 : Int) := by omega
              clear e1 hr3 hxv
              go_wp2_with fail
              go_quiet ((go_at_call 22; exact CP.out _))
              go_wp2
              go_roundw
              case rel => exact ⟨j + 1, q + 1, by omega, by go_num, by go_num, by omega, by rw [HE1.out, List.length_append, HQ.out]; rfl, belr.trans (below_drawn _)⟩
              case measure => simp [intOf] <;> omega
          · have hj2 : ¬ (j : Int) ≤ 32 := by omega
            have HJ := Lib.hid (show j = 33 by omega)
            have hqn : q = n10 := by rw [HQ.out, HL.out, HJ.out]
            subst hqn
            go_wp2
            go_ret
            exact ⟨rfl, bel10.trans (belr.mono bel10.size)⟩
      · clear hlt
        go_upto_region 10 with (first | (go_at_call 23; refine CF.out.mono ?_; rintro e w2 ⟨rfl, be2⟩) | (refine at_alloc rfl 30 rfl (mv 0 0) zeroMap ?_; intro w3 L3) | (refine at_store rfl 30 _ _ rfl w2.heap.size (mv base M) rfl rfl 30 _ L3.row (infoMap _ _) rfl (mv_all _ _) ?_; intro w4 L4))
        have m4 : Blk w4 w2.heap.size 30 (mv base M) := L4.row
        have be4 : Below wr.heap.size wr w4 := (Below.then_ be2 L3.bel).trans (L4.below be2.size)
        have q4 := q10.after be4
        have bel4 := bel.trans (be4.mono bel.size)
        obtain ⟨g9, hg9⟩ : ∃ g, g = w2.heap.size := ⟨_, rfl⟩
        rw [← hg9] at m4 ⊢
        clear L3 L4 hg9 CF be2 be4 own rd q10 bel
        go_upto_region 11 with (first | (refine at_load rfl 30 _ rfl g9 rfl 30 #[.int .u16 (base : Int), .int .u32 (M : Int)] _ m4 Tryd.underlying30 rfl (infoMap (base : Int) M) ?_) | (go_at_call 11; refine (HC1.out _).mono ?_; rintro e w5 ⟨A5, n5, c5, rfl, own5, b5⟩))
        have m5 := m4.after b5
        have q5 := q4.after b5
        have bel5 := Below.then_ bel4 b5
        have rd5 := own5.rd
        have hbd := own5.bounds
        have C2 := Lib.hid (HC2.out A5 n5 c5 w5 rd5 hbd.1 (by have := hbd.2; unfold maxLen at this; omega) (hE.below bel5))
        clear HC1 HC2 m4 q4 bel4 b5 own5 rd5
        go_upto_region 12 with (first | (go_at_call 15; refine C2.out.mono ?_; rintro e w6 ⟨A6, n6, c6, rfl, b6⟩) | (refine at_alloc rfl 32 rfl _ zeroF ?_; intro w7 L7) | (refine at_store rfl 32 _ _ rfl w6.heap.size (FV 2 0 0 0 (.slice A6 n6 c6) base M) rfl rfl 32 _ L7.row (infoF _ _ _ _ _ _ _) rfl (FV_all _ _ _ _ _ _ _ _ _) ?_; intro w8 H8))
        have b68 : Below w6.heap.size w6 w8 := L7.bel.trans (H8.below (Nat.le_refl _))
        have f8 : Blk w8 w6.heap.size 32 (FV 2 0 0 0 (.slice A6 n6 c6) base M) := H8.row
        have m8 := (m5.after b6).after b68
        have q8 := (q5.after b6).after b68
        have bel8 := Below.then_ (Below.then_ bel5 b6) b68
        obtain ⟨g13, hg13⟩ : ∃ g, g = w6.heap.size := ⟨_, rfl⟩
        rw [← hg13] at f8 ⊢
        clear L7 H8 hg13 b68 b6 m5 q5 bel5 C2
        go_wp2_with fail
        refine (CS.out _).mono ?_; rintro e w9 ⟨rfl, b9⟩
        have m9 := m8.after b9
        have q9 := q8.after b9
        have f9 := f8.after b9
        have bel9 := Below.then_ bel8 b9
        have hrg : w9.rangeAt g13 5 (mv base M).toList := f9.range 5 _ (fun i u hu => by
          match i, hu with
          | 0, hu => exact hu
          | 1, hu => exact hu
          | i + 2, hu => simp [mv] at hu)
        clear m8 q8 f8 bel8 b9
        go_upto_region 17 with (first | (refine at_load_mid_g rfl 30 _ rfl g13 5 rfl (mv base M) _ hrg Tryd.underlying30 rfl (infoMap _ _) ?_) | (refine at_load_g rfl 30 _ rfl g9 rfl 30 (mv base M) _ m9 Tryd.underlying30 rfl (infoMap _ _) ?_) | (refine at_eq rfl .neq 30 _ _ _ rfl (mv base M) (mv base M) rfl rfl mapGuard (.bool false) (mapNeq base M) ?_) | (go_at_call 25; refine (CM.out _).mono ?_; rintro e w10 ⟨A10, n10, c10, rfl, own10, b10⟩))
        have q11 := q9.after b10
        have rd10 := own10.rd
        have HL := Lib.hid rd10.len16
        have bel10 := Below.then_ bel9 b10
        have hn10 : n10 ≤ 33 := by rw [HL.out]; exact ms_length _ _ _ _
        clear m9 q9 f9 bel9 b10 own10 hrg CM CS
        obtain ⟨wo, rfl⟩ : ∃ wo : World, wo = wr := ⟨_, rfl⟩
        go_loopw [16, 17] (fun j i wr => ∃ k q : Nat, k ≤ 33 ∧ i = .int .i64 (k : Int) ∧ j = .int .i64 (q : Int) ∧ q ≤ k ∧ Hid (q = (ms base M base k).length) ∧ Below w10.heap.size w10 wr) (fun _ i _ => 33 - (intOf i).toNat)
        case atStart => exact ⟨0, 0, Nat.zero_le _, rfl, rfl, Nat.le_refl _, rfl, Below.refl _ _⟩
        case round =>
          obtain ⟨j, q, hj, rfl, rfl, hqj, HQ, belr⟩ := hrel
          by_cases hlt : j < 33
          · have hjl : (j : Int) ≤ 32 := by omega
            have hj33 : (j : Int) < 33 := by omega
            have hcH : wr.cell? ⟨g10, j, none⟩ = some (.bool (H j)) := ((q11.after belr).cell j).trans (B33_get H j hlt)
            have hx := nx16_eq (base : Int) j
            have HB := Lib.hid (HHM.out j (by omega))
            have CP := Lib.hid (fun i : Nat => Calls.quiet_of_same ((plusC (base : Int) (j : Int) (wr.drewN i)).mono fun e w' h => ⟨h.1, h.2.symm⟩))
            rw [← hx] at CP
            have HX := Lib.hid hx
            obtain ⟨x, hxe⟩ : ∃ x, x = nx16 (base : Int) j := ⟨_, rfl⟩
            rw [← hxe] at CP HB HX
            clear hx hxe
            cases hHj : H j with
            | true =>
              rw [hHj] at hcH HB
              clear hHj
              go_wp2
              go_roundw
              case rel => exact ⟨j + 1, q, by omega, by go_num, rfl, by omega, by rw [ms_yes base M base j x HX.out HB.out]; exact HQ, belr⟩
              case measure => simp [intOf] <;> omega
            | false =>
              rw [hHj] at hcH HB
              clear hHj
              have e1 := ms_no (base : Int) M (base : Int) j x HX.out HB.out
              obtain ⟨r, hr3⟩ := ms_prefix (base : Int) M (base : Int) (j + 1) 33 (by omega)
              have hq : q < n10 := by rw [HL.out, hr3, e1, HQ.out]; simp
              obtain ⟨b2, off2, rfl, hlt4, hcell⟩ := (rd10.below belr).cell16 q hq
              have hxv : (ms (base : Int) M (base : Int) 33).getD q 0 = x := by
                rw [hr3, e1, HQ.out]; simp [List.getD]
              rw [hxv] at hcell
              have HE1 := Lib.hid e1
              have t1 : decide ((n10 : Int) ≤ (q : Int)) = false := decide_eq_false (by omega)
              have hqi : (q : Int) < (n10 : Int) := by omega
              clear e1 hr3 hxv
              go_wp2_with fail
              go_quiet ((go_at_call 22; exact CP.out _))
              go_wp2
              go_roundw
              case rel => exact ⟨j + 1, q + 1, by omega, by go_num, by go_num, by omega, by rw [HE1.out, List.length_append, HQ.out]; rfl, belr.trans (below_drawn _)⟩
              case measure => simp [intOf] <;> omega
          · have hj2 : ¬ (j : Int) ≤ 32 := by omega
            have HJ := Lib.hid (show j = 33 by omega)
            have hqn : q = n10 := by rw [HQ.out, HL.out, HJ.out]
            subst hqn
            go_wp2
            go_ret
            exact ⟨rfl, bel10.trans (belr.mono bel10.size)⟩
end Go.Proofs.YtboloaglakehkaaDoor
