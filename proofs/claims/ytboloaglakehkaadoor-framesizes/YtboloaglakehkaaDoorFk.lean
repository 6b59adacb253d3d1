/-
  The walk of FrameSizes.
-/
import Derived.Test.YtboloaglakehkaaDoorFj
import Derived.Test.YtboloaglakehkaaDoorFm
namespace Go.Proofs.YtboloaglakehkaaDoor
open Go.RowKit
set_option maxRecDepth 100000
set_option linter.unusedVariables false
set_option linter.unusedSimpArgs false

set_option maxHeartbeats 4000000 in
theorem frameSizes (n : Int) (q m : Nat) (a : Nat → Addr) (w : World) (hq : q < 65536) (hm : m < 4294967296) (hE : ErrsAt w a) :
    Calls Tryd.prog 7 #[.int .i64 n, .int .u16 (q : Int), .int .u32 (m : Int)] w fun e w' => e = .returned (.bool true) ∧ Below w.heap.size w w' := by
  obtain ⟨i0, hi0, hz0, hz1, hz2⟩ := info_parts info5
  obtain ⟨u, hu, hu2⟩ := wrap_u64 n
  obtain ⟨L, hL⟩ : ∃ L : Nat, L = u % 65 := ⟨_, rfl⟩
  have hL64 : L ≤ 64 := by omega
  have e1 : (u : Int) % 65 = (L : Int) := by omega
  obtain ⟨v, hv⟩ : ∃ v : Nat, v = m % 4 := ⟨_, rfl⟩
  have hv4 : v < 4 := by omega
  have e2 : (m : Int) % 4 = (v : Int) := by omega
  clear hL hv
  obtain ⟨N, hN⟩ : ∃ N : Nat, N = 8 * (L + 4) + 6 := ⟨_, rfl⟩
  have HN := Lib.hid hN
  have hN2 : N ≤ 600 := by omega
  have C1 := Lib.hid (bitsC16 (L : Int))
  rw [show fb (L : Int) = (N : Int) from (if_pos ⟨by omega, by omega⟩).trans (by omega)] at C1
  have hwe : WE 1 (v : Int) (L : Int) (List.replicate N 0) = 0 := by
    unfold WE wE
    rw [if_pos rfl, if_neg (by
      have : Bm.isB (List.replicate N 0) = true := Bm.isB_of (fun x hx => by rw [List.eq_of_mem_replicate hx]; omega)
      rw [this]; simp; omega), if_neg (by omega), if_neg (by rw [List.length_replicate]; unfold fb; rw [if_pos ⟨by omega, by omega⟩]; omega)]
  have hwb : WB 1 q (v : Int) (L : Int) (List.replicate N 0) 0 0 = dataW v L q (List.replicate N 0) := by
    unfold WB wB
    have h2 : wE (v : Int) (L : Int) (List.replicate N 0) = 0 := hwe
    rw [if_pos rfl, if_pos h2]
    rfl
  have HC1 := Lib.hid (fun (A : Option Addr) (k c : Nat) (W : World) (h : Rd W W.heap.size A k (U8 (List.replicate N 0))) => writeC 1 q (v : Int) (L : Int) A k c 0 0 (List.replicate N 0) W hq (by omega) h (by intro b hb; rw [List.eq_of_mem_replicate hb]; omega) (by rw [h.len8, List.length_replicate]; omega) (by omega) (by omega))
  rw [hwe, hwb] at HC1
  have HC2 := Lib.hid (fun (W : World) => writeC 2 0 0 0 none 0 0 q m [] W (by omega) (by omega) ⟨rfl, fun h => absurd h (by omega)⟩ (by simp) (by omega) hq hm)
  have ha1 : WE 2 0 0 [] = 0 := rfl
  have ha2 : WB 2 0 0 0 [] q m = ackW q m := rfl
  rw [ha1, ha2] at HC2
  have HCF := Lib.hid (fun (W : World) (h : ErrsAt W a) => framesC a W h)
  have hDe := dataW_eq (v := v) (l := L) (q := q) (List.replicate N 0) hv4 (by omega) hq
  have hDl := dataW_length v L q (List.replicate N 0)
  rw [List.length_replicate] at hDl
  have HB1 : Hid ((dataW v L q (List.replicate N 0)).getD 1 0 = L) := by unfold Hid; rw [hDe]; rfl
  have HB2 : Hid ((dataW v L q (List.replicate N 0)).getD 2 0 = q / 256) := by unfold Hid; rw [hDe]; rfl
  have HB3 : Hid ((dataW v L q (List.replicate N 0)).getD 3 0 = q % 256) := by unfold Hid; rw [hDe]; rfl
  have HAl := Lib.hid (ackW_length q m)
  generalize dataW v L q (List.replicate N 0) = db at *
  generalize ackW q m = ab at *
  have HDl : Hid (db.length = 11 + L) := by unfold Hid; omega
  clear hwe hwb hDe hDl hN ha1 ha2
  obtain ⟨qh, hqh⟩ : ∃ x : Nat, x = q / 256 := ⟨_, rfl⟩
  obtain ⟨ql, hql⟩ : ∃ x : Nat, x = q % 256 := ⟨_, rfl⟩
  rw [← hqh] at HB2
  rw [← hql] at HB3
  have f1 : (q : Int) / 256 = (qh : Int) := by omega
  have f2 : (q : Int) % 256 = (ql : Int) := by omega
  have hqh2 : qh < 256 := by omega
  have hql2 : ql < 256 := by omega
  have f3 : IntKind.u8.wrap (qh : Int) = (qh : Int) := IntWalk.u8_in _ (by omega)
  have f4 : IntKind.u8.wrap (ql : Int) = (ql : Int) := IntWalk.u8_in _ (by omega)
  clear hqh hql
  go_enter Tryd.func7, Tryd.ntmps7
  go_upto_region 3 with (first | (go_at_call 14; refine (C1.out _).mono ?_; rintro e w' ⟨rfl, rfl⟩) | (at_make; refine wpList_make_full _ rfl _ _ 22 rfl w.heap.size 5 i0 (.int .u8 0) 1 Tryd.underlying22 hi0 hz0 hz1 .i64 .i64 _ _ N rfl rfl (by first | rfl | omega) (by first | rfl | omega) (by rw [hz2]; omega) (by unfold maxLen; omega) (Nat.le_refl _) ?_; intro w1 hown1 hgrow1; rw [made8] at hown1; have own1 : Own w1 w.heap.size 5 (some ⟨w.heap.size, 0, none⟩) N N (U8 (List.replicate N 0)) := ⟨hown1⟩; have rd1 := own1.rd) | (go_at_call 11; refine (HC1.out _ _ _ _ rd1).mono ?_; rintro e w2 ⟨A2, n2, c2, rfl, own2, b2⟩))
  have bel1 : Below w.heap.size w w1 := (Below.refl _ _).grown hgrow1 (Nat.le_refl _) (fun k h => by cases h)
  have bel2 := Below.then_ bel1 b2
  clear hown1 hgrow1 own1 rd1 hi0 hz0 hz1 hz2 HC1 C1
  go_upto_region 4 with (go_at_call 11; refine (HC2.out _).mono ?_; rintro e w3 ⟨A3, n3, c3, rfl, own3, b3⟩)
  have bel3 := Below.then_ bel2 b3
  have own2' := own2.below b3 (Nat.le_refl _)
  have hn3 : n3 = 9 := own3.rd.len8.trans HAl.out
  have hn2 : n2 = 11 + L := own2.rd.len8.trans HDl.out
  have CF := Lib.hid (HCF.out w3 (hE.below bel3))
  subst hn3
  subst hn2
  go_wp2_with fail
  refine CF.out.mono ?_; rintro e w4 ⟨rfl, b4⟩
  have rd4 := own2'.rdOf b4
  obtain ⟨bb, off, rfl, _, c1⟩ := rd4.cell8 1 (by omega)
  obtain ⟨_, _, hx2, _, c2⟩ := rd4.cell8 2 (by omega)
  injection hx2 with hx2; injection hx2 with hx2a hx2b; subst hx2a hx2b
  obtain ⟨_, _, hx3, _, c3⟩ := rd4.cell8 3 (by omega)
  injection hx3 with hx3; injection hx3 with hx3a hx3b; subst hx3a hx3b
  rw [HB1.out] at c1
  rw [HB2.out] at c2
  rw [HB3.out] at c3
  have bel4 := Below.then_ bel3 b4
  clear own2 own2' own3 rd4 b2 b3 b4
  go_wp2
  go_ret
  exact ⟨rfl, bel4⟩
end Go.Proofs.YtboloaglakehkaaDoor
