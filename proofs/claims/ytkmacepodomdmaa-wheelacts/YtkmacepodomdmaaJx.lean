/-
  Layer 19 (what is due at which tick): the walk of WheelActs.
-/
import Derived.Test.YtkmacepodomdmaaJw
import Derived.Deep.CutBlock
namespace Go.Proofs.Ytkmacepodomdmaa
open Go.RowKit
set_option maxRecDepth 100000
set_option linter.unusedVariables false
set_option linter.unusedSimpArgs false
set_option maxRecDepth 100000

theorem infoAct19 : (Try.prog.info? 60).map (·.size) = some 3 := by kernel_rfl
theorem infoAct19e (a b c : Value) : (Try.prog.info? 60).map (·.size) = some (#[a, b, c] : Array Value).size := infoAct19
theorem zeroAct19 : (Try.prog.info? 60).bind (fun i => i.zero.map (fun z => z.cells)) = some #[.int .i64 0, .int .u16 0, .int .i64 0] := by kernel_rfl
theorem NI_cell {w : World} {B : Nat} {A : Option Addr} {n : Nat} {l : List Nat} (h : Rd w B A n (NI l)) (hn : n = l.length) (k : Nat) (hk : k < n) :
    ∃ b off, A = some ⟨b, off, none⟩ ∧ b < B ∧ w.cell? ⟨b, off + k, none⟩ = some (.int .i64 ((l.getD k 0 : Nat) : Int)) := by
  obtain ⟨b, off, e, hlt, hc⟩ := h.at_ (by omega)
  have hk' : k < l.length := by omega
  refine ⟨b, off, e, hlt, hc k _ (NI_get (x := l.getD k 0) ?_)⟩
  simp [hk']
theorem restL_len_le {L : List (Nat × Nat)} {t n : Nat} (h : L.length ≤ n) : (restL L t).length ≤ n := Nat.le_trans (restL_le L t) h

set_option maxHeartbeats 800000 in
/-- WheelActs: the walk. -/
theorem wheelActs (HSort : SortOk) (A : Option Addr) (n c : Nat) (es : Nat → A19) (w : World) (hR : A19Row w w.heap.size A n es) (hn : n ≤ 9223372036854775807) :
    Calls Try.prog 4 #[.slice A n c] w fun e w' => e = .returned (.bool true) ∧ Below w.heap.size w w' := by
  have CT := Lib.hid (wTurns HSort)
  have HS := Lib.hid HSort
  clear HSort
  have HRow := Lib.hid hR
  clear hR
  go_enter Try.func4, Try.ntmps4
  go_upto_region 3 with (first
    | (go_at_call 22; refine (CT.out _).mono ?_; rintro e w1 ⟨rfl, hb1⟩)
    | (go_at_call 23; refine (wNoneC _).mono ?_; rintro e w' ⟨rfl, rfl⟩)
    | (go_at_call 24; refine (wSetNil _ _ _).mono ?_; rintro e w' ⟨rfl, rfl⟩)
    | (go_at_call 25; refine (wDropNil _ _).mono ?_; rintro e w' ⟨rfl, rfl⟩)
    | (go_at_call 26; refine (wTickNil _).mono ?_; rintro e w' ⟨rfl, rfl⟩)
    | (go_at_call 27; refine (wNowNil _).mono ?_; rintro e w' ⟨rfl, rfl⟩)
    | (go_at_call 28; refine (wLenNil _).mono ?_; rintro e w' ⟨rfl, rfl⟩))
  have CN := Lib.hid (lwNew w w1 hb1)
  go_upto_region 4 with (first
    | (go_at_call 29; refine CN.out.mono ?_; rintro e w2 ⟨gW, rfl, hl2⟩)
    | (refine at_box rfl 58 _ rfl (rwl 0 none 0 0) rfl ?_; intro w3 L3))
  have H3 := Lib.hid (wrStart hl2 L3)
  obtain ⟨gR, hgR⟩ : ∃ g, g = w2.heap.size := ⟨_, rfl⟩
  rw [← hgR] at H3 ⊢
  clear hl2 L3 hb1 hgR
  go_wp2_with fail
  go_loopw [5] (fun s5 wr => ∃ (i now : Nat) (L : List (Nat × Nat)), s5 = .int .i64 (i : Int) ∧ i ≤ n ∧ i ≤ 40 ∧ L.length ≤ i ∧ now ≤ 40 * i ∧ Hid (WR w wr gW gR now now L L none)) (fun s5 _ => 40 - (intOf s5).toNat)
  case atStart => exact ⟨0, 0, [], rfl, by omega, by omega, by simp, by omega, H3⟩
  case round =>
    clear H3
    obtain ⟨i, now, L, rfl, hi, hi40, hLi, hnow, H1⟩ := hrel
    by_cases hlt : i < n ∧ i < 40
    · obtain ⟨hlt1, hlt2⟩ := hlt
      have hRr := HRow.out.below H1.out.bel
      obtain ⟨b, off, hA1, hb, hcell⟩ := hRr.1.at_ (by omega)
      subst hA1
      obtain ⟨hok1, hok2, hok3⟩ := hRr.2 i hlt1
      have ic := fun W => run_idxR (P := Try.prog) (sz := 3) Try.underlying50 infoAct19 b off n c i hlt1 .i64 W
      have hcell' := hcell i hlt1
      clear hcell
      generalize es i = ev at *
      obtain ⟨what, av, inn⟩ := ev
      have HRA : Hid (wr.rangeAt b (off + 3 * i) (#[.int .i64 what, .int .u16 (av : Int), .int .i64 inn] : Array Value).toList) := fun j u hu => hcell' j u (by rw [← Array.getElem?_toList]; exact hu)
      clear hcell'
      have hav : av < 65536 := hok1
      have hin1 : -9223372036854775808 ≤ inn := hok2
      have hin2 : inn ≤ 9223372036854775807 := hok3
      obtain ⟨uu, hu, hu2⟩ := wrap_u64 what
      obtain ⟨m, hm6, hm⟩ : ∃ m : Nat, m < 6 ∧ (uu : Int) % 6 = (m : Int) := ⟨uu % 6, by omega, by omega⟩
      obtain ⟨a3, ha3, ha3e⟩ : ∃ a3 : Nat, a3 < 300 ∧ (av : Int) % 300 = (a3 : Int) := ⟨av % 300, by omega, by omega⟩
      have d1 : decide ((i : Int) < (n : Int)) = true := by simp; omega
      have d2 : decide ((i : Int) < 40) = true := by simp; omega
      clear hok1 hok2 hok3 hRr hb
      go_upto_region 8 with (first
        | (refine at_load_mid rfl 60 _ rfl b (off + 3 * i) rfl #[.int .i64 what, .int .u16 (av : Int), .int .i64 inn] _ HRA.out Try.underlying60 rfl (infoAct19e _ _ _) ?_)
        | (refine at_alloc rfl 60 rfl _ zeroAct19 ?_; intro w4 L4)
        | (refine at_store rfl 60 _ _ rfl wr.heap.size #[.int .i64 what, .int .u16 (av : Int), .int .i64 inn] rfl rfl 60 _ L4.row (infoAct19e _ _ _) rfl (by simp [Value.oneCell']) ?_; intro w5 U5))
      obtain ⟨g6, hg6⟩ : ∃ g, g = wr.heap.size := ⟨_, rfl⟩
      have H5 : Hid (WR w w5 gW gR now now L L (some (g6, #[.int .i64 what, .int .u16 (av : Int), .int .i64 inn]))) := by
        rw [hg6]
        exact H1.out.more L4 U5
      have c0 : w5.cell? ⟨g6, 0, none⟩ = some (.int .i64 what) := by rw [hg6]; exact (U5.row.cell 0).trans rfl
      have c1 : w5.cell? ⟨g6, 1, none⟩ = some (.int .u16 (av : Int)) := by rw [hg6]; exact (U5.row.cell 1).trans rfl
      have c2 : w5.cell? ⟨g6, 2, none⟩ = some (.int .i64 inn) := by rw [hg6]; exact (U5.row.cell 2).trans rfl
      rw [← hg6]
      clear HRA ic L4 U5 H1 hg6
      go_upto_block 2 with fail
      go_cut [7, 8, 9] (fun s7 s8 s9 wc => ∃ (nn : Nat) (L2 : List (Nat × Nat)), s7 = .int .i64 (nn : Int) ∧ nn ≤ 40 ∧ L2.length ≤ i + 1 ∧ Hid (WR w wc gW gR now now L2 L2 none))
      case first =>
        by_cases h01 : m = 0 ∨ m = 1
        · by_cases hin : 1 ≤ inn ∧ inn ≤ 1000
          · obtain ⟨q, rfl⟩ : ∃ q : Nat, inn = (q : Int) := ⟨inn.toNat, by omega⟩
            have CS : Hid (∀ W, WR w W gW gR now now L L (some (g6, #[.int .i64 what, .int .u16 (av : Int), .int .i64 (q : Int)])) → Calls Try.prog 24 #[.pointer (some ⟨gW, 0, none⟩), .int .u16 (a3 : Int), .int .i64 (q : Int)] W fun e w' => e = .returned (.int .i64 0) ∧ WR w w' gW gR now now (setL L a3 (now + q)) L (some (g6, #[.int .i64 what, .int .u16 (av : Int), .int .i64 (q : Int)]))) :=
              fun W h => wrSet w W gW gR now now L L _ h a3 q (by omega) (by omega) (by omega) (by omega)
            have CD : Hid (∀ W, WR w W gW gR now now (setL L a3 (now + q)) L (some (g6, #[.int .i64 what, .int .u16 (av : Int), .int .i64 (q : Int)])) → Calls Try.prog 30 #[.pointer (some ⟨gR, 0, none⟩), .int .i64 (a3 : Int), .int .i64 (q : Int)] W fun e w' => e = .returned (.tuple #[]) ∧ WR w w' gW gR now now (setL L a3 (now + q)) (setL L a3 (now + q)) (some (g6, #[.int .i64 what, .int .u16 (av : Int), .int .i64 (q : Int)]))) :=
              fun W h => wrDocSet w W gW gR now now _ L _ h a3 q (by omega) (by omega) (by omega) (by omega)
            have k1 : decide ((q : Int) ≥ 1) = true := by simp; omega
            have k1' : decide ((1 : Int) ≤ (q : Int)) = true := by simp; omega
            have k1'' : decide (1 ≤ q) = true := by simp; omega
            have k2 : decide ((q : Int) ≤ 1000) = true := by simp; omega
            have k2'' : decide (q ≤ 1000) = true := by simp; omega
            have HL2 := Lib.hid (Nat.le_trans (setL_len L a3 (now + q)) (show L.length + 1 ≤ i + 1 by omega))
            clear hin
            rcases h01 with h | h
            · have f0 : ((m : Int) == 0) = true := by simp [h]
              clear h
              go_wp2_with (first
                | (go_at_call 24; refine (CS.out _ H5.out).mono ?_; rintro e w6 ⟨rfl, h6⟩; have H6 := Lib.hid h6; have c16 : w6.cell? ⟨g6, 1, none⟩ = some (.int .u16 (av : Int)) := (h6.blk.cell 1).trans rfl; have c26 : w6.cell? ⟨g6, 2, none⟩ = some (.int .i64 (q : Int)) := (h6.blk.cell 2).trans rfl; clear h6)
                | (go_at_call 30; refine (CD.out _ H6.out).mono ?_; rintro e w7 ⟨rfl, h7⟩))
              go_meet
              case rel => exact ⟨0, setL L a3 (now + q), by first | rfl | go_num, by omega, HL2.out, Lib.hid h7.less⟩
            · have f0 : ((m : Int) == 0) = false := by simp [h]
              have f1 : ((m : Int) == 1) = true := by simp [h]
              clear h
              go_wp2_with (first
                | (go_at_call 24; refine (CS.out _ H5.out).mono ?_; rintro e w6 ⟨rfl, h6⟩; have H6 := Lib.hid h6; have c16 : w6.cell? ⟨g6, 1, none⟩ = some (.int .u16 (av : Int)) := (h6.blk.cell 1).trans rfl; have c26 : w6.cell? ⟨g6, 2, none⟩ = some (.int .i64 (q : Int)) := (h6.blk.cell 2).trans rfl; clear h6)
                | (go_at_call 30; refine (CD.out _ H6.out).mono ?_; rintro e w7 ⟨rfl, h7⟩))
              go_meet
              case rel => exact ⟨0, setL L a3 (now + q), by first | rfl | go_num, by omega, HL2.out, Lib.hid h7.less⟩
          · rcases h01 with h | h
            · have f0 : ((m : Int) == 0) = true := by simp [h]
              clear h
              have k3 : ¬ (1 ≤ inn ∧ inn ≤ 1000) := hin
              have kb : (decide (inn ≥ 1) && decide (inn ≤ 1000)) = false := by simp; omega
              by_cases j1 : 1 ≤ inn
              · have k1 : decide (inn ≥ 1) = true := by simp; omega
                have k1' : decide (1 ≤ inn) = true := by simp; omega
                have k2 : decide (inn ≤ 1000) = false := by simp; omega
                clear k3 kb j1 hin
                go_wp2_with (go_at_call 24; refine (wSetNo _ _ _ _ (by simpa using (show ¬ (1 ≤ inn ∧ inn ≤ 1000) from fun h => by have := of_decide_eq_false k2; omega))).mono ?_; rintro e w6 ⟨rfl, rfl⟩)
                go_meet
                case rel => exact ⟨0, L, by first | rfl | go_num, by omega, by omega, Lib.hid H5.out.less⟩
              · have k1 : decide (inn ≥ 1) = false := by simp; omega
                have k1' : decide (1 ≤ inn) = false := by simp; omega
                clear k3 kb j1 hin
                go_wp2_with (go_at_call 24; refine (wSetNo _ _ _ _ (by simpa using (show ¬ (1 ≤ inn ∧ inn ≤ 1000) from fun h => by have := of_decide_eq_false k1'; omega))).mono ?_; rintro e w6 ⟨rfl, rfl⟩)
                go_meet
                case rel => exact ⟨0, L, by first | rfl | go_num, by omega, by omega, Lib.hid H5.out.less⟩
            · have f0 : ((m : Int) == 0) = false := by simp [h]
              have f1 : ((m : Int) == 1) = true := by simp [h]
              clear h
              have k3 : ¬ (1 ≤ inn ∧ inn ≤ 1000) := hin
              have kb : (decide (inn ≥ 1) && decide (inn ≤ 1000)) = false := by simp; omega
              by_cases j1 : 1 ≤ inn
              · have k1 : decide (inn ≥ 1) = true := by simp; omega
                have k1' : decide (1 ≤ inn) = true := by simp; omega
                have k2 : decide (inn ≤ 1000) = false := by simp; omega
                clear k3 kb j1 hin
                go_wp2_with (go_at_call 24; refine (wSetNo _ _ _ _ (by simpa using (show ¬ (1 ≤ inn ∧ inn ≤ 1000) from fun h => by have := of_decide_eq_false k2; omega))).mono ?_; rintro e w6 ⟨rfl, rfl⟩)
                go_meet
                case rel => exact ⟨0, L, by first | rfl | go_num, by omega, by omega, Lib.hid H5.out.less⟩
              · have k1 : decide (inn ≥ 1) = false := by simp; omega
                have k1' : decide (1 ≤ inn) = false := by simp; omega
                clear k3 kb j1 hin
                go_wp2_with (go_at_call 24; refine (wSetNo _ _ _ _ (by simpa using (show ¬ (1 ≤ inn ∧ inn ≤ 1000) from fun h => by have := of_decide_eq_false k1'; omega))).mono ?_; rintro e w6 ⟨rfl, rfl⟩)
                go_meet
                case rel => exact ⟨0, L, by first | rfl | go_num, by omega, by omega, Lib.hid H5.out.less⟩
        · have f0 : ((m : Int) == 0) = false := by simp; omega
          have f1 : ((m : Int) == 1) = false := by simp; omega
          by_cases h2 : m = 2
          · have f2 : ((m : Int) == 2) = true := by simp [h2]
            clear h2 h01
            obtain ⟨r, hr⟩ : ∃ r : Int, r = if inL L a3 = true then 0 else 9 := ⟨_, rfl⟩
            have CS : Hid (∀ W, WR w W gW gR now now L L (some (g6, #[.int .i64 what, .int .u16 (av : Int), .int .i64 inn])) → Calls Try.prog 25 #[.pointer (some ⟨gW, 0, none⟩), .int .u16 (a3 : Int)] W fun e w' => e = .returned (.int .i64 r) ∧ WR w w' gW gR now now (dropL L a3) L (some (g6, #[.int .i64 what, .int .u16 (av : Int), .int .i64 inn]))) :=
              fun W h => wrDrop w W gW gR now now L L _ h a3 (by omega) r hr
            have CD : Hid (∀ W, WR w W gW gR now now (dropL L a3) L (some (g6, #[.int .i64 what, .int .u16 (av : Int), .int .i64 inn])) → Calls Try.prog 31 #[.pointer (some ⟨gR, 0, none⟩), .int .i64 (a3 : Int)] W fun e w' => e = .returned (.bool (inL L a3)) ∧ WR w w' gW gR now now (dropL L a3) (dropL L a3) (some (g6, #[.int .i64 what, .int .u16 (av : Int), .int .i64 inn]))) :=
              fun W h => wrDocDrop w W gW gR now now _ L _ h a3 (by omega) (by omega)
            have HL2 := Lib.hid (Nat.le_trans (dropL_le L a3) (show L.length ≤ i + 1 by omega))
            generalize inL L a3 = bb at hr CD
            have hr' : r = if bb = true then 0 else 9 := hr
            clear hr
            cases bb
            · have hr2 : r = 9 := hr'
              clear hr'
              subst hr2
              go_wp2_with (first
                | (go_at_call 25; refine (CS.out _ H5.out).mono ?_; rintro e w6 ⟨rfl, h6⟩; have H6 := Lib.hid h6; have c16 : w6.cell? ⟨g6, 1, none⟩ = some (.int .u16 (av : Int)) := (h6.blk.cell 1).trans rfl; clear h6)
                | (go_at_call 31; refine (CD.out _ H6.out).mono ?_; rintro e w7 ⟨rfl, h7⟩))
              go_meet
              case rel => exact ⟨0, dropL L a3, by first | rfl | go_num, by omega, HL2.out, Lib.hid h7.less⟩
            · have hr2 : r = 0 := hr'
              clear hr'
              subst hr2
              go_wp2_with (first
                | (go_at_call 25; refine (CS.out _ H5.out).mono ?_; rintro e w6 ⟨rfl, h6⟩; have H6 := Lib.hid h6; have c16 : w6.cell? ⟨g6, 1, none⟩ = some (.int .u16 (av : Int)) := (h6.blk.cell 1).trans rfl; clear h6)
                | (go_at_call 31; refine (CD.out _ H6.out).mono ?_; rintro e w7 ⟨rfl, h7⟩))
              go_meet
              case rel => exact ⟨0, dropL L a3, by first | rfl | go_num, by omega, HL2.out, Lib.hid h7.less⟩
          · have f2 : ((m : Int) == 2) = false := by simp; omega
            by_cases h5 : m = 5
            · have f5 : ((m : Int) == 5) = true := by simp [h5]
              obtain ⟨v, hv, hv2⟩ := wrap_u64 inn
              obtain ⟨nn, hnn1, hnn2⟩ : ∃ nn : Nat, nn ≤ 40 ∧ 1 + (v : Int) % 40 = (nn : Int) := ⟨1 + v % 40, by omega, by omega⟩
              clear h01 h2 h5
              go_wp2_with fail
              go_meet
              case rel => exact ⟨nn, L, by first | rfl | (congr 1; omega) | go_num, hnn1, by omega, Lib.hid H5.out.less⟩
            · have f5 : ((m : Int) == 5) = false := by simp; omega
              clear h01 h2 h5
              go_wp2_with fail
              go_meet
              case rel => exact ⟨1, L, by first | rfl | go_num, by omega, by omega, Lib.hid H5.out.less⟩
      case rest =>
        clear H5 c0 c1 c2
        obtain ⟨nn, L2, rfl, hnn, hL2, H6⟩ := hcut
        go_wp2_with fail
        go_loopw [10] (fun s10 wr => ∃ (k now2 : Nat) (L3 : List (Nat × Nat)), s10 = .int .i64 (k : Int) ∧ k ≤ nn ∧ now2 ≤ 40 * i + k ∧ L3.length ≤ i + 1 ∧ Hid (WR w wr gW gR now2 now2 L3 L3 none)) (fun s10 _ => nn - (intOf s10).toNat)
        case atStart => exact ⟨0, now, L2, rfl, by omega, by omega, hL2, H6⟩
        case round =>
          clear H6
          obtain ⟨k, now2, L3, rfl, hk, hnow2, hL3, H7⟩ := hrel
          by_cases hkn : k < nn
          · have d3 : decide ((k : Int) < (nn : Int)) = true := by simp; omega
            have d3' : decide (k < nn) = true := by simp; omega
            obtain ⟨t, ht⟩ : ∃ t, t = now2 + 1 := ⟨_, rfl⟩
            have HT := Lib.hid ht
            have htl : t ≤ 40 * i + (k + 1) := by omega
            have C1 : Hid (∀ W, WR w W gW gR now2 now2 L3 L3 none → Calls Try.prog 26 #[.pointer (some ⟨gW, 0, none⟩)] W fun e w' => ∃ A c l, e = .returned (.slice A l.length c) ∧ Due L3 t l ∧ WT w w' gW gR t now2 (restL L3 t) L3 none A l) :=
              fun W h => wrTick w W gW gR now2 now2 L3 L3 none h HS.out t ht (by omega) (by omega)
            have C2 : Hid (∀ W A l, WT w W gW gR t now2 (restL L3 t) L3 none A l → Calls Try.prog 32 #[.pointer (some ⟨gR, 0, none⟩)] W fun e w' => ∃ B c m, e = .returned (.slice B m.length c) ∧ Due L3 t m ∧ Rd w' w'.heap.size A l.length (N16 l) ∧ Rd w' w'.heap.size B m.length (NI m) ∧ WR w w' gW gR t t (restL L3 t) (restL L3 t) none) :=
              fun W A l h => wrDocTick w W gW gR t now2 _ L3 none A l h ht (by omega) (by omega)
            have HL4 := Lib.hid (restL_len_le (t := t) hL3)
            clear ht
            go_upto_region 29 with (first
              | (go_at_call 26; refine (C1.out _ H7.out).mono ?_; rintro e w8 ⟨A8, c8, l8, rfl, hd8, h8⟩; have H8 := Lib.hid h8; have hl8 := h8.len; clear h8)
              | (go_at_call 32; refine (C2.out _ _ _ H8.out).mono ?_; rintro e w9 ⟨A9, c9, l9, rfl, hd9, r8, r9, h9⟩; have H9 := Lib.hid h9; clear h9))
            obtain rfl : l9 = l8 := hd9.uniq hd8
            have R8 := Lib.hid r8
            have R9 := Lib.hid r9
            obtain ⟨ln, hln⟩ : ∃ ln, ln = l9.length := ⟨_, rfl⟩
            have HLN := Lib.hid hln
            have HX : Hid (∀ j, j < l9.length → l9.getD j 0 < 65536) := fun j hj => by
              have hm : l9.getD j 0 ∈ l9 := by rw [Bm.getD_lt _ _ _ hj]; exact List.getElem_mem hj
              exact H7.out.num _ ((hd8.mem _).1 hm)
            rw [← hln] at R8 R9 hl8 ⊢
            clear hd8 hd9 r8 r9 C1 C2 H7 H8 hln
            go_wp2_with fail
            go_loopw [13] (fun s13 wr => ∃ j : Nat, s13 = .int .i64 (j : Int) ∧ j ≤ ln ∧ Hid (Rd wr wr.heap.size A8 ln (N16 l9)) ∧ Hid (Rd wr wr.heap.size A9 ln (NI l9)) ∧ Hid (WR w wr gW gR t t (restL L3 t) (restL L3 t) none)) (fun s13 _ => ln - (intOf s13).toNat)
            case atStart => exact ⟨0, rfl, by omega, R8, R9, H9⟩
            case round =>
              clear R8 R9 H9
              obtain ⟨j, rfl, hj, R8, R9, H9⟩ := hrel
              by_cases hjl : j < ln
              · have d4 : decide ((j : Int) < (ln : Int)) = true := by simp; omega
                have d4' : decide (j < ln) = true := by simp; omega
                obtain ⟨b8, o8, hA8, hb8, hc8⟩ := R8.out.cell16 j hjl
                obtain ⟨b9, o9, hA9, hb9, hc9⟩ := NI_cell R9.out HLN.out j hjl
                subst hA8 hA9
                have hx := HX.out j (by rw [← HLN.out]; exact hjl)
                generalize l9.getD j 0 = x at hc8 hc9 hx
                have dx : ((x : Int) != (x : Int)) = false := by simp
                go_wp2_with fail
                go_big_quiet (fail)
                go_wp2_with fail
                go_roundw
                case rel => exact ⟨j + 1, by go_num, by omega, R8.out.below (below_drawn _), R9.out.below (below_drawn _), H9.out.draw _⟩
                case measure => simp [intOf]; omega
              · obtain rfl : j = ln := by omega
                have d4 : decide ((j : Int) < (j : Int)) = false := by simp
                go_wp2_with fail
                go_roundw
                case rel => exact ⟨k + 1, t, restL L3 t, by go_num, by omega, htl, HL4.out, H9⟩
                case measure => simp [intOf]; omega
          · have d3 : decide ((k : Int) < (nn : Int)) = false := by simp; omega
            have d3' : decide (k < nn) = false := by simp; omega
            obtain ⟨k0, A0, c00, k1⟩ := wrCells w wr gW gR now2 now2 L3 L3 none H7.out
            have CN : Hid (∀ q, Calls Try.prog 27 #[.pointer (some ⟨gW, 0, none⟩)] (wr.drewN q) fun e w' => e = .returned (.int .i64 (now2 : Int)) ∧ w' = wr.drewN q) := fun q => (wrNow w _ gW gR now2 now2 L3 L3 none (H7.out.draw q)).mono fun e w' h => ⟨h.1, h.2.symm⟩
            have CL : Hid (∀ q, Calls Try.prog 28 #[.pointer (some ⟨gW, 0, none⟩)] (wr.drewN q) fun e w' => e = .returned (.int .i64 (L3.length : Int)) ∧ w' = wr.drewN q) := fun q => (wrLen w _ gW gR now2 now2 L3 L3 none (H7.out.draw q)).mono fun e w' h => ⟨h.1, h.2.symm⟩
            have HL3 := Lib.hid hL3
            have hn2 : now2 ≤ 40 * (i + 1) := by omega
            obtain ⟨ln, hln⟩ : ∃ ln, ln = L3.length := ⟨_, rfl⟩
            rw [← hln] at CL k1
            clear hln hL3
            go_wp2_with fail
            go_big_quiet (first | (go_at_call 27; refine Calls.quiet_of_same (CN.out _)) | (go_at_call 28; refine Calls.quiet_of_same (CL.out _)))
            go_wp2_with fail
            go_roundw
            case rel => exact ⟨i + 1, now2, L3, by go_num, by omega, by omega, HL3.out, hn2, H7.out.draw _⟩
            case measure => simp [intOf]; omega
    · have hg : ¬ i < n ∨ i < n ∧ ¬ i < 40 := by omega
      have HB := Lib.hid H1.out.bel
      clear hlt
      rcases hg with g | ⟨g, g2⟩
      · have d1 : decide ((i : Int) < (n : Int)) = false := by simp; omega
        go_wp2_with fail
        go_ret
        exact ⟨rfl, HB.out⟩
      · have d1 : decide ((i : Int) < (n : Int)) = true := by simp; omega
        have d2 : decide ((i : Int) < 40) = false := by simp; omega
        go_wp2_with fail
        go_ret
        exact ⟨rfl, HB.out⟩
end Go.Proofs.Ytkmacepodomdmaa
