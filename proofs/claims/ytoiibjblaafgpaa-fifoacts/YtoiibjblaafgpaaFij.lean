/-
  Layer 28: the walk of FifoActs.
-/
import Derived.Test.YtoiibjblaafgpaaFii
import Derived.Deep.CutBlock
import Derived.BigQuiet
namespace Go.Proofs.Ytoiibjblaafgpaa
open Go.RowKit
set_option maxRecDepth 100000
set_option linter.unusedVariables false
set_option linter.unusedSimpArgs false
set_option maxRecDepth 100000

theorem infoAct28 : (Try.prog.info? 65).map (·.size) = some 3 := by kernel_rfl
theorem infoAct28e (a b c : Value) : (Try.prog.info? 65).map (·.size) = some (#[a, b, c] : Array Value).size := infoAct28
theorem zeroAct28 : (Try.prog.info? 65).bind (fun i => i.zero.map (fun z => z.cells)) = some #[.int .i64 0, .slice none 0 0, .int .i64 0] := by kernel_rfl
theorem F3.refCells {w0 w : World} {X : Nat → Prop} {gQ gR most : Nat} {ms : List (List Nat)} {wt kp : Nat} {L : List (List Nat)} {d p a : Nat} (h : F3 w0 w X gQ gR most ms wt kp L d p a) :
    ∃ A c, w.cell? ⟨gR, 1, none⟩ = some (.slice A L.length c) ∧ w.cell? ⟨gR, 2, none⟩ = some (.int .i64 (d : Int)) ∧ w.cell? ⟨gR, 3, none⟩ = some (.int .i64 (p : Int)) ∧ w.cell? ⟨gR, 4, none⟩ = some (.int .i64 (a : Int)) := by
  obtain ⟨P, Q, _, h2, _⟩ := h.ch
  obtain ⟨A, c, hs, q, _⟩ := h2.blk
  exact ⟨A, c, (q.cell 1).trans rfl, (q.cell 2).trans rfl, (q.cell 3).trans rfl, (q.cell 4).trans rfl⟩
/-- What the loop holds. -/
structure S28 (w0 w : World) (gQ gR m : Nat) (L : List (List Nat)) (d p a : Nat) : Prop where
  f : F3 w0 w (fun _ => False) gQ gR m (L.drop p) (d - p) (L.length - a) L d p a
  pd : p ≤ d
  dl : d ≤ L.length
  ad : a ≤ d
set_option maxHeartbeats 4000000 in
/-- FifoActs: the walk. -/
theorem fifoActs (most : Int) (A : Option Addr) (n c : Nat) (es : Nat → A28) (w : World) (hr : A28Row w w.heap.size A n es) (hn : n ≤ 9223372036854775807) :
    Calls Try.prog 4 #[.int .i64 most, .slice A n c] w fun e w' => e = .returned (.bool true) ∧ Below w.heap.size w w' := by
  have CQ := Lib.hid queuesC
  have HRow := Lib.hid hr
  clear hr
  go_enter Try.func4, Try.ntmps4
  go_upto_region 4 with (first
    | (go_at_call 25; refine (noneQ _).mono ?_; rintro e w' ⟨rfl, rfl⟩)
    | (go_at_call 27; refine (CQ.out _).mono ?_; rintro e w5 ⟨rfl, bw⟩)
    | (go_at_call 28; refine (nilQSend _).mono ?_; rintro e w' ⟨rfl, rfl⟩)
    | (go_at_call 29; refine (nilQDeliver _).mono ?_; rintro e w' ⟨rfl, rfl⟩)
    | (go_at_call 26; refine (nilQPoll _).mono ?_; rintro e w' ⟨rfl, rfl⟩)
    | (go_at_call 30; refine (nilQAck _ _).mono ?_; rintro e w' ⟨rfl, rfl⟩)
    | (go_at_call 31; refine (nilQKept _).mono ?_; rintro e w' ⟨rfl, rfl⟩)
    | (go_at_call 32; refine (nilQUnder _).mono ?_; rintro e w' ⟨rfl, rfl⟩)
    | (go_at_call 33; refine (nilQWaiting _).mono ?_; rintro e w' ⟨rfl, rfl⟩))
  by_cases ha : 1 ≤ most ∧ most ≤ 64
  · obtain ⟨m, rfl⟩ : ∃ m : Nat, most = (m : Int) := ⟨most.toNat, by omega⟩
    have CN := Lib.hid (fNew w5 m (by omega))
    have d1 : decide ((m : Int) < 1) = false := by simp; omega
    have d2 : decide ((m : Int) > 64) = false := by simp; omega
    have d2' : decide ((64 : Int) < (m : Int)) = false := by simp; omega
    have hm1 : 1 ≤ m := by omega
    have hm2 : m ≤ 64 := by omega
    clear ha
    go_upto_region 8 with (first
      | (go_at_call 34; refine CN.out.mono ?_; rintro e w6 ⟨rfl, hC, b6⟩)
      | (refine at_box rfl 63 _ rfl (rf m none 0 0 0 0 0) (by first | rfl | (go_simp; rfl)) ?_; intro w7 L7))
    obtain ⟨gQ, hgQ⟩ : ∃ g, g = w5.heap.size := ⟨_, rfl⟩
    obtain ⟨gR, hgR⟩ : ∃ g, g = w6.heap.size := ⟨_, rfl⟩
    have H7 : Hid (S28 w w7 gQ gR m [] 0 0 0) := by
      have h1 := hC.after L7.bel
      have hs5 := bw.size
      have hs6 := b6.size
      rw [← hgQ] at h1
      have h2 : RQ w7 (fun k => k = gR) gR m [] 0 0 0 := ⟨⟨none, 0, [], by rw [hgR]; exact L7.row, OffR.nil _ _, (fun k hk => by cases hk), fun i hi => absurd hi (Nat.not_lt_zero i)⟩, rfl, fun k hk => by rw [hk, hgR]; exact L7.row.lt⟩
      exact ⟨⟨⟨_, _, h1, h2, fun k hk => by rw [hk, hgQ]; exact hs5, fun k hk => by rw [hk, hgR]; omega, fun k hk hq => by have := hC.lt gQ (by rw [hgQ]); rw [hk] at hq; omega, fun k hk => hk.elim⟩, fun k hk => hk.elim, (Below.then_ bw b6).trans (L7.bel.mono (by omega))⟩, Nat.le_refl _, Nat.le_refl _, Nat.le_refl _⟩
    rw [← hgQ, ← hgR]
    clear hC b6 L7 CN bw hgQ hgR CQ d1 d2 d2'
    go_wp2_with fail
    go_loopw [10] (fun s10 wr => ∃ (i : Nat) (L : List (List Nat)) (d p a : Nat), s10 = .int .i64 (i : Int) ∧ i ≤ n ∧ i ≤ 60 ∧ L.length ≤ i ∧ Hid (S28 w wr gQ gR m L d p a)) (fun s10 _ => 60 - (intOf s10).toNat)
    case atStart => exact ⟨0, [], 0, 0, 0, rfl, by omega, by omega, by simp, H7⟩
    case round =>
      clear H7
      obtain ⟨i, L, d, p, a, rfl, hi, hi60, hLi, H1⟩ := hrel
      by_cases hlt : i < n ∧ i < 60
      · obtain ⟨hlt1, hlt2⟩ := hlt
        obtain ⟨b, off, hA1, hb, hcell⟩ := (HRow.out.1.below H1.out.f.bel).at_ (by omega)
        subst hA1
        have hok := HRow.out.2 i hlt1
        have ic := fun W => run_idxR (P := Try.prog) (sz := 3) Try.underlying51 infoAct28 b off n c i hlt1 .i64 W
        have hcell' := hcell i hlt1
        clear hcell
        generalize es i = ev at *
        obtain ⟨what, bA, bn, bc, bs, kk⟩ := ev
        have HRA : Hid (wr.rangeAt b (off + 3 * i) (#[.int .i64 what, .slice bA bn bc, .int .i64 kk] : Array Value).toList) := fun j u hu => hcell' j u (by rw [← Array.getElem?_toList]; exact hu)
        have HOK : Hid (A28.Ok w ⟨what, bA, bn, bc, bs, kk⟩) := hok
        have hk1 : -9223372036854775808 ≤ kk := hok.kk.1
        have hk2 : kk ≤ 9223372036854775807 := hok.kk.2
        clear hcell' hok
        obtain ⟨uu, hu, hu2⟩ := wrap_u64 what
        obtain ⟨t, ht5, ht⟩ : ∃ t : Nat, t < 5 ∧ (uu : Int) % 5 = (t : Int) := ⟨uu % 5, by omega, by omega⟩
        have d1 : decide ((i : Int) < (n : Int)) = true := by simp; omega
        have d2 : decide ((i : Int) < 60) = true := by simp; omega
        clear hb
        go_upto_region 12 with (first
          | (refine at_load_mid rfl 65 _ rfl b (off + 3 * i) rfl #[.int .i64 what, .slice bA bn bc, .int .i64 kk] _ HRA.out Try.underlying65 rfl (infoAct28e _ _ _) ?_)
          | (refine at_alloc rfl 65 rfl _ zeroAct28 ?_; intro w4 L4)
          | (refine at_store rfl 65 _ _ rfl wr.heap.size #[.int .i64 what, .slice bA bn bc, .int .i64 kk] rfl rfl 65 _ L4.row (infoAct28e _ _ _) rfl (by simp [Value.oneCell']) ?_; intro w5 U5))
        obtain ⟨g6, hg6⟩ : ∃ g, g = wr.heap.size := ⟨_, rfl⟩
        have b45 : Below wr.heap.size wr w5 := L4.bel.trans (U5.below (Nat.le_refl _))
        have HBK : Hid (Blk w5 g6 65 #[.int .i64 what, .slice bA bn bc, .int .i64 kk]) := by unfold Hid; rw [hg6]; exact U5.row
        have H5 : Hid (F3 w w5 (fun k => False ∨ k = g6) gQ gR m (L.drop p) (d - p) (L.length - a) L d p a) := H1.out.f.more b45 (fun k => k = g6) (fun k hk => ⟨by omega, by rw [hk]; exact HBK.out.lt⟩)
        have HS : Hid (p ≤ d ∧ d ≤ L.length ∧ a ≤ d) := ⟨H1.out.pd, H1.out.dl, H1.out.ad⟩
        have c0 : w5.cell? ⟨g6, 0, none⟩ = some (.int .i64 what) := (HBK.out.cell 0).trans rfl
        have c1 : w5.cell? ⟨g6, 1, none⟩ = some (.slice bA bn bc) := (HBK.out.cell 1).trans rfl
        have c2 : w5.cell? ⟨g6, 2, none⟩ = some (.int .i64 kk) := (HBK.out.cell 2).trans rfl
        have HG6 : Hid (w.heap.size ≤ g6) := by unfold Hid; rw [hg6]; exact H1.out.f.bel.size
        rw [← hg6]
        clear HRA ic L4 U5 H1 hg6 b45
        go_upto_block 2 with fail
        go_cut [] (fun wc => ∃ (L2 : List (List Nat)) (d2 p2 a2 : Nat), L2.length ≤ i + 1 ∧ Hid (S28 w wc gQ gR m L2 d2 p2 a2))
        case first =>
          by_cases h2 : t = 2
          · have f0 : ((t : Int) == 0) = false := by simp [h2]
            have f1 : ((t : Int) == 1) = false := by simp [h2]
            have f2 : ((t : Int) == 2) = true := by simp [h2]
            clear h2
            obtain ⟨r, d2, e1, e2, e3, C1, C2⟩ := sDeliver (w0 := w) (X := fun k => False ∨ k = g6) (gQ := gQ) (gR := gR) (most := m) HS.out.1 HS.out.2.1 HS.out.2.2 (show L.length ≤ 1000 by omega)
            have CS1 := Lib.hid (C1 _ _ _ _ H5.out)
            have CS2 := Lib.hid C2
            have HS2 : Hid (p ≤ d2 ∧ d2 ≤ L.length ∧ a ≤ d2) := ⟨e1, e2, e3⟩
            have er : (r != r) = false := by simp
            clear C1 C2 e1 e2 e3
            go_wp2_with (first
              | (go_at_call 29; refine CS1.out.mono ?_; rintro e w6 ⟨rfl, h6, _⟩; have H6 := Lib.hid h6; clear h6)
              | (go_at_call 36; refine (CS2.out _ _ _ H6.out).mono ?_; rintro e w7 ⟨rfl, h7, _⟩; have H7 := Lib.hid (h7.less (Y := fun _ => False) (fun _ h => h.elim)); clear h7))
            go_meet
            case rel => exact ⟨L, d2, p, a, by omega, ⟨H7.out, HS2.out.1, HS2.out.2.1, HS2.out.2.2⟩⟩
          · by_cases h3 : t = 3
            · have f0 : ((t : Int) == 0) = false := by simp [h3]
              have f1 : ((t : Int) == 1) = false := by simp [h3]
              have f2 : ((t : Int) == 2) = false := by simp [h3]
              have f3 : ((t : Int) == 3) = true := by simp [h3]
              clear h3 h2
              obtain ⟨P, Q, h1, h2, h3, h4, h5, h6⟩ := H5.out.ch
              have hbel := H5.out.bel
              have HS1 := HS.out.1
              have HS2 := HS.out.2.1
              by_cases hpd : p < d
              · obtain ⟨m0, hm0⟩ : ∃ m0, m0 = L.getD p [] := ⟨_, rfl⟩
                have hdr : L.drop p = m0 :: L.drop (p + 1) := by rw [hm0, Bm.getD_lt L [] p (by omega)]; exact List.drop_eq_getElem_cons (by omega)
                rw [hdr, show d - p = d - (p + 1) + 1 by omega] at h1
                have CP1 := Lib.hid (fPoll w5 P gQ m m0 (L.drop (p + 1)) (d - (p + 1)) (L.length - a) h1 (by omega))
                have CP2 : Hid (∀ W, Kr w5 W P → Calls Try.prog 37 #[.pointer (some ⟨gR, 0, none⟩)] W fun e w' => Kr W w' Q ∧ RQ w' Q gR m L d (p + 1) a ∧ ∃ B c, e = .returned (.tuple #[.slice B m0.length c, .bool true]) ∧ Own w' 0 5 B m0.length c (U8 m0)) := fun W hk => by
                  have := rPoll W Q gR m L d p a (h2.kr hk (fun k hq hp => h5 k hp hq)) hpd HS2 (by omega)
                  rw [← hm0] at this
                  exact this
                obtain ⟨ml, hml⟩ : ∃ ml, ml = m0.length := ⟨_, rfl⟩
                obtain ⟨sm, hsm⟩ : ∃ sm, sm = str m0 := ⟨_, rfl⟩
                have HML := Lib.hid hml
                rw [← hml] at CP1 CP2
                have HSM := Lib.hid hsm
                have FIN : Hid (∀ (w6 w7 : World) (B B2 : Option Addr) (c1 c2 : Nat), QS w6 P gQ m (L.drop (p + 1)) (d - (p + 1)) (L.length - a) → Kr w5 w6 P → Own w6 0 5 B ml c1 (U8 m0) → (∀ k, blk B = some k → P k) → Kr w6 w7 Q → RQ w7 Q gR m L d (p + 1) a → Own w7 0 5 B2 ml c2 (U8 m0) →
                    ((convert 26 9 (.slice B ml c1)).run Try.prog w7 = .ok (.string sm) w7 ∧ (convert 26 9 (.slice B2 ml c2)).run Try.prog w7 = .ok (.string sm) w7) ∧ S28 w w7 gQ gR m L d (p + 1) a) := by
                  intro w6 w7 B B2 c1 c2 q6 k6 o6 hB k7 r7 o7
                  have hq7 := q6.kr k7 (fun k hp hq => h5 k hp hq)
                  have o67 : Own w7 0 5 B ml c1 (U8 m0) := o6.heap (fun k hk => k7.block k (q6.lt k (hB k hk)) (fun hq => h5 k (hB k hk) hq))
                  refine ⟨⟨?_, ?_⟩, ⟨⟨⟨P, Q, hq7, r7, h3, h4, h5, fun k hk => hk.elim⟩, fun k hk => hk.elim, (hbel.trans (k6.below h3 hbel.size)).trans (k7.below h4 (Nat.le_trans hbel.size k6.size))⟩, by omega, HS2, HS.out.2.2⟩⟩
                  · rw [HSM.out]; exact o67.conv w7 (Below.refl _ _)
                  · rw [HSM.out]; exact o7.conv w7 (Below.refl _ _)
                have tsm : (sm.toList != sm.toList) = false := by simp
                have hmlb : Hid (ml = m0.length) := HML.out
                clear h1 h2 h3 h4 h5 h6 hm0 hdr hml hsm hbel HS1 HS2 H5
                go_upto_region 28 with (first
                  | (go_at_call 26; refine CP1.out.mono ?_; rintro e w6 ⟨q6, k6, B, dd, rfl, o6, hB⟩; have HQ6 := Lib.hid q6; have HK6 := Lib.hid k6; have HO6 := Lib.hid o6; have HB6 := Lib.hid hB; clear q6 k6 o6 hB)
                  | (go_at_call 37; refine (CP2.out _ HK6.out).mono ?_; rintro e w7 ⟨k7, r7, B2, d7, rfl, o7⟩; have HF := Lib.hid (FIN.out w6 w7 B B2 dd d7 HQ6.out HK6.out HO6.out HB6.out k7 r7 o7); clear k7 r7 o7))
                have kc1 := HF.out.1.1
                have kc2 := HF.out.1.2
                go_wp2_with fail
                go_meet
                case rel => exact ⟨L, d, p + 1, a, by omega, HF.out.2⟩
              · obtain rfl : p = d := by omega
                rw [Nat.sub_self] at h1
                have CP1 := Lib.hid (fPollNo w5 P gQ m (L.drop p) (L.length - a) h1)
                have CP2 := Lib.hid (rPollNo w5 Q gR m L p a h2)
                have kc := fun W => run_convert_bytes_nil W 26 5 Try.underlying26 Try.underlying5 0 0 9 Try.underlying9
                clear h1 h2 h3 h4 h5 h6 hbel HS1 HS2 hpd
                go_wp2_with (first
                  | (go_at_call 26; refine CP1.out.mono ?_; rintro e w6 ⟨rfl, rfl⟩)
                  | (go_at_call 37; refine CP2.out.mono ?_; rintro e w7 ⟨rfl, b7⟩))
                go_meet
                case rel => exact ⟨L, p, p, a, by omega, ⟨(H5.out.grow b7).less (Y := fun _ => False) (fun _ h => h.elim), HS.out.1, HS.out.2.1, HS.out.2.2⟩⟩
            · by_cases h4 : t = 4
              · have f0 : ((t : Int) == 0) = false := by simp [h4]
                have f1 : ((t : Int) == 1) = false := by simp [h4]
                have f2 : ((t : Int) == 2) = false := by simp [h4]
                have f3 : ((t : Int) == 3) = false := by simp [h4]
                have f4 : ((t : Int) == 4) = true := by simp [h4]
                clear h4 h3 h2
                obtain ⟨r, a2, e1, C1, C2⟩ := sAck (w0 := w) (X := fun k => False ∨ k = g6) (gQ := gQ) (gR := gR) (most := m) kk HS.out.1 HS.out.2.1 HS.out.2.2 (show L.length ≤ 1000 by omega)
                have CS1 := Lib.hid C1
                have CS2 := Lib.hid C2
                have HA2 := Lib.hid e1
                have er : (r != r) = false := by simp
                clear C1 C2 e1
                go_upto_region 31 with fail
                go_region_with (first
                  | (go_at_call 30; refine (CS1.out _ _ H6b.out).mono ?_; rintro e w7 ⟨rfl, h7, _⟩; have H7 := Lib.hid (h7.less (Y := fun _ => False) (fun _ h => h.elim)); clear h7)
                  | (go_at_call 38; refine (CS2.out _ _ H6a.out).mono ?_; rintro e w7 ⟨rfl, h7, _⟩; have H7 := Lib.hid (h7.less (Y := fun _ => False) (fun _ h => h.elim)); clear h7)
                  | (go_at_call 30; refine (CS1.out w5.drew _ (H5.out.grow (Below.refl w5.heap.size w5).drew)).mono ?_; rintro e w6 ⟨rfl, h6, s6⟩; have H6a := Lib.hid h6; have c26 : w6.cell? ⟨g6, 2, none⟩ = some (.int .i64 kk) := (Blk.cell (s6.blk HBK.out (.inr rfl)) 2).trans rfl; clear h6 s6)
                  | (go_at_call 38; refine (CS2.out w5.drew _ (H5.out.grow (Below.refl w5.heap.size w5).drew)).mono ?_; rintro e w6 ⟨rfl, h6, s6⟩; have H6b := Lib.hid h6; have c26 : w6.cell? ⟨g6, 2, none⟩ = some (.int .i64 kk) := (Blk.cell (s6.blk HBK.out (.inr rfl)) 2).trans rfl; clear h6 s6))
                all_goals (go_wp2_with fail; go_meet; case rel => exact ⟨L, d, p, a2, by omega, ⟨H7.out, HS.out.1, HS.out.2.1, HA2.out⟩⟩)
              · have ht1 : t = 0 ∨ t = 1 := by omega
                by_cases h0 : t = 0
                · have f0 : ((t : Int) == 0) = true := by simp [h0]
                  clear h0 ht1 h2 h3 h4
                  obtain ⟨i0, hi0, hz0, hz1, hz2⟩ := info_parts info5
                  obtain ⟨k, hk66, hkn, hk3⟩ := min_if bn 66
                  obtain ⟨mk1, mk2⟩ := hk3 66 rfl
                  clear hk3
                  have hnc : bn ≤ bc := HOK.out.bnc
                  have hcm : bc ≤ 9223372036854775807 := HOK.out.bcm
                  have hn1c : k ≤ bc := by omega
                  have hno : bA = none → k = 0 ∧ bc = 0 := fun e => ⟨by have h0 : bn = 0 := (HOK.out.bno e).1; omega, (HOK.out.bno e).2⟩
                  have bel0 : Below w5.heap.size w5 (w5.alloc (.cells #[] 5)) := (Below.refl _ _).alloc (Nat.le_refl _) _
                  have c1a : (w5.alloc (.cells #[] 5)).cell? ⟨g6, 1, none⟩ = some (.slice bA bn bc) := (Blk.cell (HBK.out.after bel0) 1).trans rfl
                  have HR : Hid (Rd (w5.alloc (.cells #[] 5)) w5.heap.size bA k (U8 (bs.take k))) := (((HOK.out.rb.cut8 k hkn).below H5.out.bel).up H5.out.bel.size).below bel0
                  have HBB : Hid (∀ x ∈ bs.take k, x < 256) := fun x hx => HOK.out.b256 x (List.mem_of_mem_take hx)
                  have oE : Own (w5.alloc (.cells #[] 5)) w5.heap.size 5 (some ⟨w5.heap.size, 0, none⟩) 0 0 [] := ⟨World.ownsRow_made w5 #[] 0 (Nat.le_refl _) (by unfold maxLen; omega) (by simp)⟩
                  obtain ⟨bk, hbk⟩ : ∃ bk, bk = bs.take k := ⟨_, rfl⟩
                  rw [← hbk] at HR HBB
                  clear hbk
                  go_upto_region 16 with (at_builtin; refine wpList_app _ rfl _ _ 26 rfl w5.heap.size 5 i0 _ 1 Try.underlying26 hi0 hz0 hz1 hz2 rfl _ 0 0 [] rfl oE w5.heap.size bA k bc (U8 bk) rfl HR.out hno (U8_one bk) (by omega) (by unfold maxLen; omega) bel0.size ?_; intro A8 c8 w8 own8 g8)
                  have o8 : Own w8 w5.heap.size 5 A8 k c8 (U8 bk) := own8.to (Nat.zero_add k) (List.nil_append _)
                  have ek : (0 + k : Nat) = k := Nat.zero_add k
                  try rw [ek]
                  have b8 : Below w5.heap.size w5 w8 := bel0.grown g8 bel0.size (fun j hj => by simp [Value.ownBlock] at hj; omega)
                  have H8 := Lib.hid (H5.out.more b8 (fun j => blk A8 = some j) (fun j hj => o8.blkLt j hj))
                  have HO8 := Lib.hid o8
                  have hsz5 : Hid (w.heap.size ≤ w5.heap.size) := H5.out.bel.size
                  clear own8 g8 b8 bel0 oE c1 c1a c2 o8
                  obtain ⟨r, L2, l1, l2, C1, C2⟩ := sSend (w0 := w) (X := fun q => (False ∨ q = g6) ∨ blk A8 = some q) (gQ := gQ) (gR := gR) (most := m) A8 k c8 bk HO8.out.none_ HS.out.1 HS.out.2.1 HS.out.2.2 (show L.length ≤ 1000 by omega) (by omega)
                  have CS1 := Lib.hid (C1 w8 H8.out (HO8.out.rd))
                  have CS2 := Lib.hid C2
                  have HS2 : Hid (p ≤ d ∧ d ≤ L2.length ∧ a ≤ d) := ⟨HS.out.1, Nat.le_trans HS.out.2.1 l1, HS.out.2.2⟩
                  have er : (r != r) = false := by simp
                  clear C1 C2
                  go_upto_region 18 with (first
                    | (go_at_call 28; refine CS1.out.mono ?_; rintro e w9 ⟨rfl, h9, s9⟩; have H9 := Lib.hid h9; have HO9 : Hid (Own w9 w5.heap.size 5 A8 k c8 (U8 bk)) := HO8.out.heap (fun j hj => s9.2 j (.inr hj)); clear h9 s9)
                    | (go_at_call 35; refine (CS2.out _ H9.out (HO9.out.rd)).mono ?_; rintro e w10 ⟨rfl, h10, s10⟩; have H10 := Lib.hid h10; have HO10 : Hid (Own w10 w5.heap.size 5 A8 k c8 (U8 bk)) := HO9.out.heap (fun j hj => s10.2 j (.inr hj)); clear h10 s10))
                  have HXG : Hid (∀ q, ((False ∨ q = g6) ∨ blk A8 = some q) → w.heap.size ≤ q) := fun q hq => by
                    rcases hq with (h | h) | h
                    · exact h.elim
                    · rw [h]; exact HG6.out
                    · have := (HO10.out.blkLt q h).1; have := hsz5.out; omega
                  clear CS1 CS2 HR H8 HO8 mk1 mk2
                  go_wp2_with fail
                  go_loopw [13] (fun s13 wl => ∃ (j : Nat) (l : List Nat), s13 = .int .i64 (j : Int) ∧ j ≤ k ∧ Hid (Own wl w5.heap.size 5 A8 k c8 (U8 l)) ∧ Hid (∀ x ∈ l, x < 256) ∧ Hid (F3 w wl (fun q => (False ∨ q = g6) ∨ blk A8 = some q) gQ gR m (L2.drop p) (d - p) (L2.length - a) L2 d p a)) (fun s13 _ => k - (intOf s13).toNat)
                  case atStart => exact ⟨0, bk, rfl, by omega, HO10, HBB, H10⟩
                  case round =>
                    clear H9 H10 HO9 HO10 HBB
                    obtain ⟨j, l, rfl, hj, HO, HLB, HF⟩ := hrel
                    by_cases hjk : j < k
                    · obtain ⟨gs, rfl, hg1, hg2, hgc, hgf, hgs⟩ := HO.out.slot j hjk
                      have hll := HO.out.rd.len8
                      have hjl : j < l.length := by omega
                      have hx : l.getD j 0 < 256 := by rw [Bm.getD_lt l 0 j hjl]; exact HLB.out _ (List.getElem_mem hjl)
                      rw [U8_get l j hjl] at hgc
                      obtain ⟨x, hxe⟩ : ∃ x, x = l.getD j 0 := ⟨_, rfl⟩
                      rw [← hxe] at hx hgc
                      have hX : bits BinOp.xor IntKind.u8 (x : Int) 1 = ((x ^^^ 1 : Nat) : Int) := u8_xor_nat x 1 (by omega) (by omega)
                      have hy : x ^^^ 1 < 256 := Nat.xor_lt_two_pow (n := 8) hx (by omega)
                      have own2 := hgs (.int .u8 ((x ^^^ 1 : Nat) : Int))
                      rw [U8_set] at own2
                      have HO2 := Lib.hid own2
                      have HLB2 : Hid (∀ z ∈ l.set j (x ^^^ 1), z < 256) := fun z hz => by
                        rcases List.mem_or_eq_of_mem_set hz with e | e
                        · exact HLB.out z e
                        · rw [e]; exact hy
                      have HF2 := Lib.hid (F3.own (w' := World.setCell _ ⟨gs, j, none⟩ (.int .u8 ((x ^^^ 1 : Nat) : Int))) HF.out ⟨rfl, rfl, rfl, by simp [World.setCell], fun q _ hq => Below.heap_setCell _ _ _ _ (fun e => hq (.inr (by rw [e]; rfl)))⟩ HXG.out)
                      have d9 : decide ((j : Int) < (k : Int)) = true := by simp; omega
                      have f9 : (j : Int) < (k : Int) := by omega
                      generalize (x ^^^ 1 : Nat) = y at *
                      clear own2 hgs hxe hll hjl HLB HO HF
                      go_wp2_with fail
                      go_roundw
                      case rel => exact ⟨j + 1, _, by go_num, by omega, HO2, HLB2, HF2⟩
                      case measure => simp [intOf]; omega
                    · have d9 : decide ((j : Int) < (k : Int)) = false := by simp; omega
                      go_wp2_with fail
                      go_meet
                      case rel => exact ⟨L2, d, p, a, by omega, ⟨HF.out.less (fun _ h => h.elim), HS2.out.1, HS2.out.2.1, HS2.out.2.2⟩⟩
                · have f0 : ((t : Int) == 0) = false := by simp [h0]
                  have f1 : ((t : Int) == 1) = true := by have : t = 1 := by omega
                                                          simp [this]
                  clear h0 ht1 h2 h3 h4
                  obtain ⟨i0, hi0, hz0, hz1, hz2⟩ := info_parts info5
                  obtain ⟨k, hk66, hkn, hk3⟩ := min_if bn 66
                  obtain ⟨mk1, mk2⟩ := hk3 66 rfl
                  clear hk3
                  have hnc : bn ≤ bc := HOK.out.bnc
                  have hcm : bc ≤ 9223372036854775807 := HOK.out.bcm
                  have hn1c : k ≤ bc := by omega
                  have hno : bA = none → k = 0 ∧ bc = 0 := fun e => ⟨by have h0 : bn = 0 := (HOK.out.bno e).1; omega, (HOK.out.bno e).2⟩
                  have bel0 : Below w5.heap.size w5 (w5.alloc (.cells #[] 5)) := (Below.refl _ _).alloc (Nat.le_refl _) _
                  have c1a : (w5.alloc (.cells #[] 5)).cell? ⟨g6, 1, none⟩ = some (.slice bA bn bc) := (Blk.cell (HBK.out.after bel0) 1).trans rfl
                  have HR : Hid (Rd (w5.alloc (.cells #[] 5)) w5.heap.size bA k (U8 (bs.take k))) := (((HOK.out.rb.cut8 k hkn).below H5.out.bel).up H5.out.bel.size).below bel0
                  have HBB : Hid (∀ x ∈ bs.take k, x < 256) := fun x hx => HOK.out.b256 x (List.mem_of_mem_take hx)
                  have oE : Own (w5.alloc (.cells #[] 5)) w5.heap.size 5 (some ⟨w5.heap.size, 0, none⟩) 0 0 [] := ⟨World.ownsRow_made w5 #[] 0 (Nat.le_refl _) (by unfold maxLen; omega) (by simp)⟩
                  obtain ⟨bk, hbk⟩ : ∃ bk, bk = bs.take k := ⟨_, rfl⟩
                  rw [← hbk] at HR HBB
                  clear hbk
                  go_upto_region 16 with (at_builtin; refine wpList_app _ rfl _ _ 26 rfl w5.heap.size 5 i0 _ 1 Try.underlying26 hi0 hz0 hz1 hz2 rfl _ 0 0 [] rfl oE w5.heap.size bA k bc (U8 bk) rfl HR.out hno (U8_one bk) (by omega) (by unfold maxLen; omega) bel0.size ?_; intro A8 c8 w8 own8 g8)
                  have o8 : Own w8 w5.heap.size 5 A8 k c8 (U8 bk) := own8.to (Nat.zero_add k) (List.nil_append _)
                  have ek : (0 + k : Nat) = k := Nat.zero_add k
                  try rw [ek]
                  have b8 : Below w5.heap.size w5 w8 := bel0.grown g8 bel0.size (fun j hj => by simp [Value.ownBlock] at hj; omega)
                  have H8 := Lib.hid (H5.out.more b8 (fun j => blk A8 = some j) (fun j hj => o8.blkLt j hj))
                  have HO8 := Lib.hid o8
                  have hsz5 : Hid (w.heap.size ≤ w5.heap.size) := H5.out.bel.size
                  clear own8 g8 b8 bel0 oE c1 c1a c2 o8
                  obtain ⟨r, L2, l1, l2, C1, C2⟩ := sSend (w0 := w) (X := fun q => (False ∨ q = g6) ∨ blk A8 = some q) (gQ := gQ) (gR := gR) (most := m) A8 k c8 bk HO8.out.none_ HS.out.1 HS.out.2.1 HS.out.2.2 (show L.length ≤ 1000 by omega) (by omega)
                  have CS1 := Lib.hid (C1 w8 H8.out (HO8.out.rd))
                  have CS2 := Lib.hid C2
                  have HS2 : Hid (p ≤ d ∧ d ≤ L2.length ∧ a ≤ d) := ⟨HS.out.1, Nat.le_trans HS.out.2.1 l1, HS.out.2.2⟩
                  have er : (r != r) = false := by simp
                  clear C1 C2
                  go_upto_region 18 with (first
                    | (go_at_call 28; refine CS1.out.mono ?_; rintro e w9 ⟨rfl, h9, s9⟩; have H9 := Lib.hid h9; have HO9 : Hid (Own w9 w5.heap.size 5 A8 k c8 (U8 bk)) := HO8.out.heap (fun j hj => s9.2 j (.inr hj)); clear h9 s9)
                    | (go_at_call 35; refine (CS2.out _ H9.out (HO9.out.rd)).mono ?_; rintro e w10 ⟨rfl, h10, s10⟩; have H10 := Lib.hid h10; have HO10 : Hid (Own w10 w5.heap.size 5 A8 k c8 (U8 bk)) := HO9.out.heap (fun j hj => s10.2 j (.inr hj)); clear h10 s10))
                  have HXG : Hid (∀ q, ((False ∨ q = g6) ∨ blk A8 = some q) → w.heap.size ≤ q) := fun q hq => by
                    rcases hq with (h | h) | h
                    · exact h.elim
                    · rw [h]; exact HG6.out
                    · have := (HO10.out.blkLt q h).1; have := hsz5.out; omega
                  clear CS1 CS2 HR H8 HO8 mk1 mk2
                  go_wp2_with fail
                  go_loopw [13] (fun s13 wl => ∃ (j : Nat) (l : List Nat), s13 = .int .i64 (j : Int) ∧ j ≤ k ∧ Hid (Own wl w5.heap.size 5 A8 k c8 (U8 l)) ∧ Hid (∀ x ∈ l, x < 256) ∧ Hid (F3 w wl (fun q => (False ∨ q = g6) ∨ blk A8 = some q) gQ gR m (L2.drop p) (d - p) (L2.length - a) L2 d p a)) (fun s13 _ => k - (intOf s13).toNat)
                  case atStart => exact ⟨0, bk, rfl, by omega, HO10, HBB, H10⟩
                  case round =>
                    clear H9 H10 HO9 HO10 HBB
                    obtain ⟨j, l, rfl, hj, HO, HLB, HF⟩ := hrel
                    by_cases hjk : j < k
                    · obtain ⟨gs, rfl, hg1, hg2, hgc, hgf, hgs⟩ := HO.out.slot j hjk
                      have hll := HO.out.rd.len8
                      have hjl : j < l.length := by omega
                      have hx : l.getD j 0 < 256 := by rw [Bm.getD_lt l 0 j hjl]; exact HLB.out _ (List.getElem_mem hjl)
                      rw [U8_get l j hjl] at hgc
                      obtain ⟨x, hxe⟩ : ∃ x, x = l.getD j 0 := ⟨_, rfl⟩
                      rw [← hxe] at hx hgc
                      have hX : bits BinOp.xor IntKind.u8 (x : Int) 1 = ((x ^^^ 1 : Nat) : Int) := u8_xor_nat x 1 (by omega) (by omega)
                      have hy : x ^^^ 1 < 256 := Nat.xor_lt_two_pow (n := 8) hx (by omega)
                      have own2 := hgs (.int .u8 ((x ^^^ 1 : Nat) : Int))
                      rw [U8_set] at own2
                      have HO2 := Lib.hid own2
                      have HLB2 : Hid (∀ z ∈ l.set j (x ^^^ 1), z < 256) := fun z hz => by
                        rcases List.mem_or_eq_of_mem_set hz with e | e
                        · exact HLB.out z e
                        · rw [e]; exact hy
                      have HF2 := Lib.hid (F3.own (w' := World.setCell _ ⟨gs, j, none⟩ (.int .u8 ((x ^^^ 1 : Nat) : Int))) HF.out ⟨rfl, rfl, rfl, by simp [World.setCell], fun q _ hq => Below.heap_setCell _ _ _ _ (fun e => hq (.inr (by rw [e]; rfl)))⟩ HXG.out)
                      have d9 : decide ((j : Int) < (k : Int)) = true := by simp; omega
                      have f9 : (j : Int) < (k : Int) := by omega
                      generalize (x ^^^ 1 : Nat) = y at *
                      clear own2 hgs hxe hll hjl HLB HO HF
                      go_wp2_with fail
                      go_roundw
                      case rel => exact ⟨j + 1, _, by go_num, by omega, HO2, HLB2, HF2⟩
                      case measure => simp [intOf]; omega
                    · have d9 : decide ((j : Int) < (k : Int)) = false := by simp; omega
                      go_wp2_with fail
                      go_meet
                      case rel => exact ⟨L2, d, p, a, by omega, ⟨HF.out.less (fun _ h => h.elim), HS2.out.1, HS2.out.2.1, HS2.out.2.2⟩⟩
        case rest =>
          clear H5 HBK c0 c1 c2
          obtain ⟨L2, d2, p2, a2, hL2, H6⟩ := hcut
          obtain ⟨A9, c9, r1, r2, r3, r4⟩ := H6.out.f.refCells
          have hb9 : ∀ nq, Below wc.heap.size wc (wc.drewN nq) := fun _ => ⟨rfl, rfl, rfl, Nat.le_refl _, fun _ _ => rfl⟩
          have hpd := H6.out.pd
          have hdl := H6.out.dl
          have had := H6.out.ad
          obtain ⟨P9, Q9, q9, _⟩ := H6.out.f.ch
          have CK := Lib.hid (fun j : Nat => Calls.quiet_of_same ((fKept (wc.drewN j) P9 gQ m _ _ _ (q9.after (hb9 j))).mono fun e w' h => ⟨h.1, h.2.symm⟩))
          have CW := Lib.hid (fun j : Nat => Calls.quiet_of_same ((fWaiting (wc.drewN j) P9 gQ m _ _ _ (q9.after (hb9 j))).mono fun e w' h => ⟨h.1, h.2.symm⟩))
          have hlen : (L2.drop p2).length = L2.length - p2 := List.length_drop
          have CU0 := fun j : Nat => Calls.quiet_of (fUnder (wc.drewN j) P9 gQ m _ _ _ (q9.after (hb9 j)) (by omega) (by omega))
          simp only [hlen, show L2.length - p2 - (d2 - p2) = L2.length - d2 by omega] at CU0
          have CU := Lib.hid CU0
          obtain ⟨ln, hln⟩ : ∃ ln, ln = L2.length := ⟨_, rfl⟩
          rw [← hln] at r1 hL2 CK CU hdl
          have HLN := Lib.hid hln
          obtain ⟨k1, hk1'⟩ : ∃ y, y = ln - a2 := ⟨_, rfl⟩
          obtain ⟨k2, hk2'⟩ : ∃ y, y = ln - d2 := ⟨_, rfl⟩
          obtain ⟨k3, hk3'⟩ : ∃ y, y = d2 - p2 := ⟨_, rfl⟩
          rw [← hk1'] at CK
          rw [← hk2'] at CU
          rw [← hk3'] at CW
          have e1 : (ln : Int) - (a2 : Int) = (k1 : Int) := by omega
          have e2 : (ln : Int) - (d2 : Int) = (k2 : Int) := by omega
          have e3 : (d2 : Int) - (p2 : Int) = (k3 : Int) := by omega
          have n1 : ((k1 : Int) != (k1 : Int)) = false := by simp
          have n2 : ((k2 : Int) != (k2 : Int)) = false := by simp
          have n3 : ((k3 : Int) != (k3 : Int)) = false := by simp
          have l1 : k1 ≤ 100 := by omega
          have l2 : k2 ≤ 100 := by omega
          have l3 : k3 ≤ 100 := by omega
          have v1 : IntKind.i64.wrap (k1 : Int) = (k1 : Int) := IntWalk.i64_in _ (by omega)
          have v2 : IntKind.i64.wrap (k2 : Int) = (k2 : Int) := IntWalk.i64_in _ (by omega)
          have v3 : IntKind.i64.wrap (k3 : Int) = (k3 : Int) := IntWalk.i64_in _ (by omega)
          have HL2 := Lib.hid hL2
          clear hln hk1' hk2' hk3' CU0 hlen q9 hpd hdl had hL2
          go_upto_region 33 with fail
          go_quiet (first | (go_at_call 31; exact CK.out _) | (go_at_call 32; exact CU.out _) | (go_at_call 33; exact CW.out _))
          go_wp2_with fail
          go_roundw
          case rel => exact ⟨i + 1, L2, d2, p2, a2, by go_num, by omega, by omega, by have := HLN.out; have := HL2.out; omega, ⟨H6.out.f.grow (hb9 _), H6.out.pd, H6.out.dl, H6.out.ad⟩⟩
          case measure => simp [intOf]; omega
      · by_cases hin : i < n
        · have d1 : decide ((i : Int) < (n : Int)) = true := by simp; omega
          have d2 : decide ((i : Int) < 60) = false := by simp; omega
          clear hlt
          go_wp2_with fail
          go_ret
          exact ⟨rfl, H1.out.f.bel⟩
        · have d1 : decide ((i : Int) < (n : Int)) = false := by simp; omega
          clear hlt
          go_wp2_with fail
          go_ret
          exact ⟨rfl, H1.out.f.bel⟩
  · have CN := Lib.hid (fNewNo w5 most (by omega))
    by_cases h1 : most < 1
    · have d1 : decide (most < 1) = true := by simp; omega
      clear ha
      go_wp2_with (go_at_call 34; refine CN.out.mono ?_; rintro e w6 ⟨rfl, rfl⟩)
      go_ret
      exact ⟨rfl, bw⟩
    · have d1 : decide (most < 1) = false := by simp; omega
      have d2 : decide (most > 64) = true := by simp; omega
      have d2' : decide ((64 : Int) < most) = true := by simp; omega
      clear ha
      go_wp2_with (go_at_call 34; refine CN.out.mono ?_; rintro e w6 ⟨rfl, rfl⟩)
      go_ret
      exact ⟨rfl, bw⟩
end Go.Proofs.Ytoiibjblaafgpaa
