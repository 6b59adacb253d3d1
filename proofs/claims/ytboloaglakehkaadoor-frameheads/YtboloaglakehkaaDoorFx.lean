/-
  The walk of FrameHeads.
-/
import Derived.Test.YtboloaglakehkaaDoorFw
import Derived.Test.YtboloaglakehkaaDoorFt
namespace Go.Proofs.YtboloaglakehkaaDoor
open Go.RowKit
set_option maxRecDepth 100000
set_option linter.unusedVariables false
set_option linter.unusedSimpArgs false

set_option maxHeartbeats 2000000 in
set_option maxRecDepth 100000 in
theorem frameHeads (kind seq ver len : Int) (A : Option Addr) (n c : Nat) (ba : Int) (more : Nat) (body : List Nat) (at_ : Int) (t : Nat) (a : Nat → Addr) (w : World) (hr : Rd w w.heap.size A n (U8 body)) (h256 : ∀ b ∈ body, b < 256) (hnc : n ≤ c) (hc : c ≤ 9223372036854775807) (hnone : A = none → n = 0 ∧ c = 0) (hv : -9223372036854775808 ≤ ver ∧ ver ≤ 9223372036854775807) (hm : more < 4294967296) (ht : t < 65536) (hE : ErrsAt w a) :
    Calls Tryd.prog 5 #[.agg (RV kind seq ver len (.slice A n c) ba more), .int .i64 at_, .int .u16 (t : Int)] w fun e w' => e = .returned (.bool true) ∧ Below w.heap.size w w' := by
  obtain ⟨sq, hsq⟩ : ∃ s : Nat, (s : Int) = seq % 65536 := ⟨(seq % 65536).toNat, by omega⟩
  obtain ⟨b2, hb2⟩ : ∃ s : Nat, (s : Int) = ba % 65536 := ⟨(ba % 65536).toNat, by omega⟩
  have hsq2 : sq < 65536 := by omega
  have hb22 : b2 < 65536 := by omega
  have HB7 : Hid ((body.take 700).length ≤ 700) := by unfold Hid; rw [List.length_take]; omega
  have HT := Lib.hid (fun (W : World) (h : Rd W W.heap.size A n (U8 body)) => tameC kind seq ver len A n c ba more body W h hnc hc hnone)
  rw [← hsq, ← hb2] at HT
  have h256' : ∀ b ∈ body.take 700, b < 256 := fun b hb => h256 b (List.mem_of_mem_take hb)
  clear hsq hb2
  generalize body.take 700 = bd at *
  have HO := Lib.hid (fun (A' : Option Addr) (n' c' : Nat) (W : World) (h : Rd W W.heap.size A' n' (U8 bd)) (hn : A' = none → n' = 0 ∧ c' = 0) => toC kind sq ver len A' n' c' b2 more bd W h (by rw [h.len8]; have := HB7.out; omega) hn hsq2 hb22)
  have HWr := Lib.hid (fun (A' : Option Addr) (n' c' : Nat) (W : World) (h : Rd W W.heap.size A' n' (U8 bd)) => writeC kind sq ver len A' n' c' b2 more bd W hsq2 hv h h256' (by rw [h.len8]; have := HB7.out; omega) hb22 hm)
  have HCK := Lib.hid (head_write (kind := kind) (ver := ver) (len := len) (q := sq) (b := b2) (m := more) (body := bd) hsq2 hb22 hm)
  have HCF := Lib.hid (fun (W : World) (h : ErrsAt W a) => framesC a W h)
  generalize WE kind ver len bd = we at *
  generalize WB kind sq ver len bd b2 more = wb at *
  go_enter Tryd.func5, Tryd.ntmps5
  go_upto_region 1 with (refine at_box rfl 25 _ rfl (RV kind seq ver len (.slice A n c) ba more) rfl ?_; intro w1 L1)
  have p1 := L1.row
  have bel1 := L1.bel
  have r1 := (hr.below bel1).up bel1.size
  have HG1L : Hid (w.heap.size < w1.heap.size) := by unfold Hid; rw [L1.size]; omega
  obtain ⟨g1, hg1⟩ : ∃ g, g = w.heap.size := ⟨_, rfl⟩
  have HG1 : Hid (w.heap.size ≤ g1) := by unfold Hid; omega
  rw [← hg1] at p1 HG1L ⊢
  clear L1 hg1
  go_upto_region 2 with (first | (refine at_load rfl 25 _ rfl g1 rfl 25 (RV kind seq ver len (.slice A n c) ba more) _ p1 Tryd.underlying25 rfl (infoR _ _ _ _ _ _ _) ?_) | (go_at_call 9; refine (HT.out _ r1).mono ?_; rintro e w2 ⟨A2, n2, c2, rfl, own2, be2⟩; have p2 := p1.after be2) | (refine at_store rfl 25 _ _ rfl g1 (RV kind sq ver len (.slice A2 n2 c2) b2 more) rfl rfl 25 _ p2 (infoR _ _ _ _ _ _ _) rfl (RV_all _ _ _ _ _ _ _ _ _) ?_; intro w2' H2))
  have p2' : Blk w2' g1 25 (RV kind sq ver len (.slice A2 n2 c2) b2 more) := H2.row
  have own2' := own2.upd H2 HG1L.out
  have bel2 := (Below.then_ bel1 be2).trans (H2.below HG1.out)
  clear H2 own2 p1 p2 be2 r1 bel1
  go_upto_region 3 with (first | (refine at_load rfl 25 _ rfl g1 rfl 25 (RV kind sq ver len (.slice A2 n2 c2) b2 more) _ p2' Tryd.underlying25 rfl (infoR _ _ _ _ _ _ _) ?_) | (go_at_call 10; refine (HO.out _ _ _ _ own2'.rd own2'.none_).mono ?_; rintro e w3 ⟨A3, n3, c3, rfl, own3, be3⟩) | (go_at_call 11; refine (HWr.out _ _ _ _ own3.rd).mono ?_; rintro e w4 ⟨A4, n4, c4, rfl, own4, be4⟩))
  have be24 := Below.then_ be3 be4
  have bel4 := Below.then_ bel2 be24
  have p4 := p2'.after be24
  have CF := Lib.hid (HCF.out w4 (hE.below bel4))
  have HC2 := Lib.hid (fun (W : World) (h : Below w4.heap.size w4 W) => HCF.out W (hE.below (Below.then_ bel4 h)))
  clear HT HO HWr own2' own3 be3 be4 be24 p2' HCF
  by_cases hw0 : we = 0
  · by_cases ht0 : t = 0
    · subst hw0
      subst ht0
      go_upto_region 4 with (go_at_call 13; refine CF.out.mono ?_; rintro e w5 ⟨rfl, b5⟩)
      have C2 := Lib.hid (HC2.out w5 b5)
      go_wp2_with (go_at_call 13; refine C2.out.mono ?_; rintro e w6 ⟨rfl, b6⟩)
      go_ret
      exact ⟨rfl, Below.then_ (Below.then_ bel4 b5) b6⟩
    · subst hw0
      have t0 : ((t : Int) == 0) = false := by simp; omega
      obtain ⟨H, HH⟩ : ∃ H : Nat, ((kind = 1 ∧ H = 6) ∨ (kind = 2 ∧ H = 9)) ∧ HeadOk wb H := by
        rcases HCK.out rfl with ⟨h1, h2⟩ | ⟨h1, h2⟩
        · exact ⟨6, .inl ⟨h1, rfl⟩, h2⟩
        · exact ⟨9, .inr ⟨h1, rfl⟩, h2⟩
      obtain ⟨hkH, HOK⟩ := HH
      have HHO := Lib.hid HOK
      have hH : H = 6 ∨ H = 9 := by omega
      have rd4 := own4.rd
      have HN4 := Lib.hid rd4.len8
      have hHn : H ≤ n4 := by rw [HN4.out]; exact HOK.le
      have hl4 : n4 ≤ 75 := by rw [HN4.out]; exact HOK.le75
      have CO := Lib.hid (fun (W : World) (h : Rd W W.heap.size A4 n4 (U8 wb)) => refOf A4 n4 c4 wb W h HHO.out.lt (by omega))
      have CH := Lib.hid (headC kind)
      rw [show (if kind = 1 then (6 : Int) else if kind = 2 then 9 else 0) = (H : Int) from by rcases hkH with ⟨rfl, rfl⟩ | ⟨rfl, rfl⟩ <;> rfl] at CH
      clear HOK hkH HCK rd4
      obtain ⟨u, hu, hu2⟩ := wrap_u64 at_
      obtain ⟨N, hN⟩ : ∃ N : Nat, N = 8 * H - 20 := ⟨_, rfl⟩
      have eN : (8 : Int) * (H : Int) - 16 - 4 = (N : Int) := by omega
      obtain ⟨M, hM⟩ : ∃ M : Nat, M = N + 1 := ⟨_, rfl⟩
      have eM : (N : Int) + 1 = (M : Int) := by omega
      have eM2 : IntKind.u64.wrap (M : Int) = (M : Int) := IntWalk.u64_in _ (by omega)
      obtain ⟨r, hr2⟩ : ∃ r : Nat, r = u % M := ⟨_, rfl⟩
      have hrM : r < M := by rw [hr2]; exact Nat.mod_lt _ (by omega)
      have e1 : (u : Int) % (M : Int) = (r : Int) := by rw [hr2]; omega
      have hM0 : (M : Int) ≠ 0 := by omega
      obtain ⟨k, hk⟩ : ∃ k : Nat, k = 4 + r := ⟨_, rfl⟩
      have ek : 4 + (r : Int) = (k : Int) := by omega
      have hk4 : 4 ≤ k := by omega
      have hk16 : k + 16 ≤ 8 * H := by omega
      have hM99 : M ≤ 99 := by omega
      clear hr2 hN hM hk
      go_upto_region 5 with (go_at_call 13; refine CF.out.mono ?_; rintro e w5 ⟨rfl, b5⟩)
      have bel5 := Below.then_ bel4 b5
      have own5 := own4.below b5 (Nat.le_refl _)
      have p5 := p4.after b5
      have CO5 := Lib.hid (CO.out w5 own5.rd)
      clear CO own4 p4 CF HC2 bel4
      go_upto_region 6 with (go_at_call 19; refine CO5.out.mono ?_; rintro e w6 ⟨A6, n6, c6, rfl, own6, b6⟩)
      have bel6 := Below.then_ bel5 b6
      have p6 := p5.after b6
      have k6 : w6.cell? ⟨g1, 0, none⟩ = some (.int .i64 kind) := (p6.cell 0).trans rfl
      have HS5 : Hid (w.heap.size ≤ w5.heap.size) := bel5.size
      clear p5 own5 CO5 b6 bel5
      go_upto_region 9 with (go_at_call 20; refine (CH.out _).mono ?_; rintro e w' ⟨rfl, rfl⟩)
      have HN6 : Hid (n6 = 8 * n4) := by unfold Hid; rw [own6.rd.len8, Bm.ofBytes_length, ← HN4.out]
      have hn6 : n6 ≤ 600 := by have := HN6.out; omega
      clear k6 p6 eN eM eM2 e1 hM0 ek hu2
      go_loopw [12] (fun i wr => ∃ (j : Nat) (ys : List Nat), j ≤ 16 ∧ i = .int .i64 (j : Int) ∧ Own wr w5.heap.size 5 A6 n6 c6 (U8 (Bm.ofBytes ys)) ∧ Hid (TurnIs wb ys H k t j) ∧ Below w.heap.size w wr) (fun i _ => 16 - (intOf i).toNat)
      case atStart => exact ⟨0, wb, by omega, rfl, own6, TurnIs.start HHO.out k t, bel6⟩
      case round =>
        clear own6 bel6
        obtain ⟨j, ys, hj, rfl, own, HTI, bel⟩ := hrel
        have HLY : Hid (ys.length = n4) := HTI.out.len.trans HN4.out.symm
        by_cases hlt : j < 16
        · by_cases hbt : t / 2 ^ j % 2 = 1
          · have T : (bits BinOp.and IntKind.u16 ((t : Int) / 2 ^ j) 1 == 1) = true := by rw [bit_u16 t j ht, hbt]; rfl
            have T2 : ((t : Int) / 2 ^ j % 2 == 1) = true := by
              have e : ((t : Int) / 2 ^ j % 2) = ((t / 2 ^ j % 2 : Nat) : Int) := by simp
              rw [e, hbt]; rfl
            have HTN := Lib.hid (HTI.out.yes hbt hlt hk4 hk16 (by rw [HLY.out]; exact hHn))
            have hpl : k + j < 8 * ys.length := by rw [HLY.out]; omega
            have HFL := Lib.hid (Crc.ofBytes_fl ys (k + j) hpl)
            obtain ⟨s, hs⟩ : ∃ s, s = k + j := ⟨_, rfl⟩
            rw [← hs] at HTN HFL
            have hs6 : s < n6 := by have := HN6.out; omega
            have es : (k : Int) + (j : Int) = (s : Int) := by omega
            obtain ⟨g, rfl, hg1, hg2, hgc, hgf, hgs⟩ := own.slot s hs6
            rw [U8_get _ s (by rw [Bm.ofBytes_length, HLY.out]; omega)] at hgc
            have hx1 := Bm.bit_le (Bm.ofBytes ys) (Bm.ofBytes_bit ys) s
            generalize (Bm.ofBytes ys).getD s 0 = x at *
            have e4 := u8_xor_nat x 1 (by omega) (by omega)
            have e5 : bits BinOp.xor IntKind.u8 (x : Int) 1 = ((x ^^^ 1 : Nat) : Int) := e4
            have HG := Lib.hid (hgs (.int .u8 ((x ^^^ 1 : Nat) : Int)))
            have hsi : (s : Int) < (n6 : Int) := by omega
            have hs700 : s ≤ 700 := by omega
            clear hgs hbt hs hpl e4
            go_wp2
            go_roundw
            case rel =>
              refine ⟨j + 1, Crc.fl ys s, by omega, by go_num, ?_, HTN, bel.setCell (Nat.le_trans HS5.out hg1) _⟩
              rw [HFL.out, ← U8_set]
              exact HG.out
            case measure => simp [intOf] <;> omega
          · have T : (bits BinOp.and IntKind.u16 ((t : Int) / 2 ^ j) 1 == 1) = false := by rw [bit_u16 t j ht, show t / 2 ^ j % 2 = 0 by omega]; rfl
            have T2 : ((t : Int) / 2 ^ j % 2 == 1) = false := by
              have e : ((t : Int) / 2 ^ j % 2) = ((t / 2 ^ j % 2 : Nat) : Int) := by simp
              rw [e, show t / 2 ^ j % 2 = 0 by omega]; rfl
            have HTN := Lib.hid (HTI.out.no hbt)
            clear hbt
            go_wp2
            go_roundw
            case rel => exact ⟨j + 1, ys, by omega, by go_num, own, HTN, bel⟩
            case measure => simp [intOf] <;> omega
        · have hj16 : j = 16 := by omega
          subst hj16
          have HRX := Lib.hid (HTI.out.stop HHO.out ht ht0)
          have CB := Lib.hid (refBytes A6 n6 c6 (Bm.ofBytes ys) wr own.rd (Bm.ofBytes_bit ys) (by omega))
          rw [Bm.toBytes_ofBytes ys HTI.out.lt] at CB
          have HC9 := Lib.hid (readSent2 HRX.out HTI.out.lt a)
          clear HTI HRX HHO HN4 HLY
          go_upto_region 14 with (first | (go_at_call 21; refine CB.out.mono ?_; rintro e w7 ⟨A7, n7, c7, rfl, own7, b7⟩; have bel7 := bel.trans (b7.mono bel.size); have hbd7 := own7.bounds; have C9 := Lib.hid (HC9.out _ _ _ _ own7.rd hbd7.1 (by have := hbd7.2; unfold maxLen at this; omega) (hE.below bel7))) | (go_at_call 15; refine C9.out.mono ?_; rintro e w8 ⟨rfl, b8⟩) | (refine at_alloc rfl 32 rfl _ zeroF ?_; intro w9 L9) | (refine at_store rfl 32 _ _ rfl w8.heap.size (FV 0 0 0 0 (.slice none 0 0) 0 0) rfl rfl 32 _ L9.row (infoF _ _ _ _ _ _ _) rfl (FV_all _ _ _ _ _ _ _ _ _) ?_; intro w10 H10))
          have b810 : Below w8.heap.size w8 w10 := L9.bel.trans (H10.below (Nat.le_refl _))
          have bel10 := Below.then_ (Below.then_ bel7 b8) b810
          have x10 : Blk w10 w8.heap.size 32 (FV 0 0 0 0 (.slice none 0 0) 0 0) := H10.row
          have k10 : w10.cell? ⟨w8.heap.size, 0, none⟩ = some (.int .i64 0) := (x10.cell 0).trans rfl
          clear L9 H10 b810 x10 own7 C9 CB HC9
          go_wp2
          go_ret
          exact ⟨rfl, bel10⟩
  · have t1 : (we != 0) = true := by simp [hw0]
    go_upto_region 4 with (go_at_call 13; refine CF.out.mono ?_; rintro e w5 ⟨rfl, b5⟩)
    have C2 := Lib.hid (HC2.out w5 b5)
    go_wp2_with (go_at_call 13; refine C2.out.mono ?_; rintro e w6 ⟨rfl, b6⟩)
    go_ret
    exact ⟨rfl, Below.then_ (Below.then_ bel4 b5) b6⟩
end Go.Proofs.YtboloaglakehkaaDoor
