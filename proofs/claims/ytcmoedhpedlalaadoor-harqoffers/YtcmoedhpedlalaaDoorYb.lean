/-
  Layer 4's reference: Sum.
-/
import Derived.Test.YtcmoedhpedlalaaDoorYa
import Derived.Test.YtcmoedhpedlalaaDoorMz
import Derived.Laws.Tables
import Derived.Deep.DeepCutAuto
namespace Go.Proofs.YtcmoedhpedlalaaDoor
open Go.RowKit
set_option maxRecDepth 100000
set_option linter.unusedVariables false
set_option linter.unusedSimpArgs false

/-- The array's cells. -/
def PC : Array Value := #[.int .u8 1, .int .u8 0, .int .u8 0, .int .u8 0, .int .u8 0, .int .u8 0, .int .u8 1, .int .u8 0, .int .u8 0, .int .u8 1, .int .u8 1, .int .u8 0, .int .u8 0, .int .u8 0, .int .u8 0, .int .u8 0, .int .u8 1, .int .u8 0, .int .u8 0, .int .u8 0, .int .u8 1, .int .u8 1, .int .u8 1, .int .u8 0, .int .u8 1, .int .u8 1, .int .u8 0, .int .u8 1, .int .u8 1, .int .u8 0, .int .u8 1, .int .u8 1, .int .u8 1]
theorem PC_list : PC.toList = U8 Crc.pcL := rfl
theorem PC_size : PC.size = 33 := rfl
theorem built48 : Tryd.prog.built 171 [(0, .int .u8 1), (6, .int .u8 1), (9, .int .u8 1), (10, .int .u8 1), (16, .int .u8 1), (20, .int .u8 1), (21, .int .u8 1), (22, .int .u8 1), (24, .int .u8 1), (25, .int .u8 1), (27, .int .u8 1), (28, .int .u8 1), (30, .int .u8 1), (31, .int .u8 1), (32, .int .u8 1)] = some PC := by kernel_rfl
theorem info48 : (Tryd.prog.info? 171).map (fun i => (i.zero.map (fun z => z.cells.size), i.size)) = some (some 33, 33) := by kernel_rfl
theorem alloc48 (w : World) : ∃ old : Array Value, old.size = 33 ∧ (Instr.alloc 171 true (.tuple #[])).run Tryd.prog w = .ok (.pointer (some ⟨w.heap.size, 0, none⟩)) (w.alloc (.cells old 171)) := by
  cases hi : Tryd.prog.info? 171 with
  | none => have := info48; rw [hi] at this; cases this
  | some i =>
    have h := info48
    rw [hi] at h
    simp only [Option.map_some, Option.some.injEq, Prod.mk.injEq] at h
    cases hz : i.zero with
    | none => rw [hz] at h; simp at h
    | some z =>
      rw [hz] at h
      simp only [Option.map_some, Option.some.injEq] at h
      refine ⟨z.cells, h.1, ?_⟩
      simp [Instr.alloc, zeroValue, typeInfo, hi, hz, newVar, newRow]
/-- What holds behind it. -/
structure LaidP (w w' : World) : Prop where
  size : w'.heap.size = w.heap.size + 1
  row : w'.heap[w.heap.size]? = some (.cells PC 171 (0, 0))
  bel : Below w.heap.size w w'
theorem reg17 {ops : Array Oper} {Q : Exit → Act → World → Prop} {a : Act} {w : World} {o1 o2 o3 : Oper} (g1 : o1.guard = none) (g2 : o2.guard = none) (g3 : o3.guard = none)
    (h1 : o1.op = .build 171 #[(0, .const (.int .u8 1)), (6, .const (.int .u8 1)), (9, .const (.int .u8 1)), (10, .const (.int .u8 1)), (16, .const (.int .u8 1)), (20, .const (.int .u8 1)), (21, .const (.int .u8 1)), (22, .const (.int .u8 1)), (24, .const (.int .u8 1)), (25, .const (.int .u8 1)), (27, .const (.int .u8 1)), (28, .const (.int .u8 1)), (30, .const (.int .u8 1)), (31, .const (.int .u8 1)), (32, .const (.int .u8 1))])
    (h2 : o2.op = .alloc 171) (h3 : o3.op = .store 171 (.tmp 8) (.tmp 53)) (d1 : o1.dst = some 53) (d2 : o2.dst = some 8) (hs : 53 < a.tmps.size)
    (h : ∀ w', LaidP w w' → Q .normal (((a.put (some 53) (.agg PC)).put (some 8) (.pointer (some ⟨w.heap.size, 0, none⟩))).put o3.dst undef) w') : wpList Tryd.prog ops Q [o1, o2, o3] a w := by
  refine wpList_build g1 171 _ h1 (by show (Tryd.prog.built 171 _).isSome = true; kernel_rfl) ?_
  generalize hB : Tryd.prog.built 171 _ = B
  have e : B = some PC := by rw [← hB]; kernel_rfl
  rw [e, Option.getD_some]
  clear hB e
  obtain ⟨old, ho, hrun⟩ := alloc48 w
  refine wpList_plain g2 fun K hK => ?_
  unfold Oper.wp execOp
  simp only [h2, Sem.run_bind, hrun, Result.andThen_ok, Sem.run_pure]
  refine hK _ _ ?_
  rw [d1, d2]
  have hg : (w.alloc (.cells old 171)).heap[w.heap.size]? = some (.cells old 171 (0, 0)) := by
    show (w.heap.push _)[w.heap.size]? = _
    simp
  refine wpList_store_row g3 171 _ _ h3 w.heap.size PC ?_ ?_ 171 old hg (by kernel_rfl) (by rw [ho]; rfl) (by kernel_rfl) ?_
  · simp [Act.put, Act.eval, Array.getD]
    omega
  · simp [Act.put, Act.eval, Array.getD]
    rw [dif_pos hs, Array.getElem_setIfInBounds (by simpa using hs), if_neg (by decide), Array.getElem_setIfInBounds hs, if_pos rfl]
  · refine wpList_nil (h _ ⟨by simp, setRow_heap _ _ _ _ _ _ hg, ?_⟩)
    refine ⟨rfl, rfl, rfl, by simp, fun k hk => ?_⟩
    rw [setRow_other _ _ _ _ (by omega)]
    exact Below.heap_alloc _ _ _ hk
theorem Rd.keep {w w' : World} {B b off n : Nat} {xs : List Value} (h : Rd w B (some ⟨b, off, none⟩) n xs) (hb : w'.heap[b]? = w.heap[b]?) : Rd w' B (some ⟨b, off, none⟩) n xs := by
  refine ⟨h.len, fun h0 => ?_⟩
  obtain ⟨b', off', e, hlt, hc⟩ := h.at_ h0
  injection e with e
  injection e with e1 e2
  subst e1 e2
  exact ⟨b, off, rfl, hlt, fun i u hu => (World.cell?_of_block (w := w) (a := ⟨b, off + i, none⟩) hb).trans (hc i u hu)⟩
theorem LaidP.rd {w w' : World} (h : LaidP w w') : Rd w' (w.heap.size + 1) (some ⟨w.heap.size, 0, none⟩) 33 (U8 Crc.pcL) := by
  refine ⟨rfl, fun _ => ⟨w.heap.size, 0, rfl, by omega, fun i u hu => ?_⟩⟩
  rw [← PC_list, Array.getElem?_toList] at hu
  simp only [World.cell?, Nat.zero_add, h.row]
  exact hu
theorem lz_take (bs : List Nat) (k : Nat) (h : k < 32) : Crc.lo bs ++ List.replicate (k + 1) 0 = (Crc.lo bs ++ List.replicate k 0) ++ [0] := by
  rw [List.replicate_succ', List.append_assoc]
theorem allTo_take (n k : Nat) (h : k ≤ n) : (Bm.allTo n).take k = Bm.allTo k := by
  unfold Bm.allTo
  rw [← List.map_take, List.take_range, Nat.min_eq_left h]
theorem allTo_getD (n k : Nat) (h : k < n) : (Bm.allTo n).getD k 0 = (k : Int) := by
  rw [Bm.getD_lt _ _ _ (by rw [Bm.allTo_length]; exact h)]
  simp [Bm.allTo]
theorem trn_step (l : List Nat) (k : Nat) (h : k < 32) (hl : 32 ≤ l.length) : Bm.trn l (Bm.allTo (k + 1)) = (Bm.trn l (Bm.allTo k)).set k ((Bm.trn l (Bm.allTo k)).getD k 0 ^^^ 1) := by
  have := Bm.trn_in l (Bm.allTo 32) k (by rw [Bm.allTo_length]; exact h) k (by omega) (allTo_getD 32 k h)
  rw [allTo_take 32 (k + 1) (by omega), allTo_take 32 k (by omega)] at this
  exact this
set_option maxHeartbeats 2000000 in
set_option maxRecDepth 100000 in
/-- The reference's Sum. -/
theorem refSum32 (A : Option Addr) (n c : Nat) (bs : List Nat) (w : World) (hr : Rd w w.heap.size A n (U8 bs)) (hb : ∀ b ∈ bs, b < 256) (hn : n ≤ 1000) :
    Calls Tryd.prog 89 #[.slice A n c] w fun e w' => e = .returned (.int .u32 (Crc.c32 bs : Nat)) ∧ Below w.heap.size w w' := by
  have HN := Lib.hid hr.len8
  go_enter Tryd.func89, Tryd.ntmps89
  go_wp2
  go_loopw [3, 4] (fun l i wr => ∃ k : Nat, k ≤ n ∧ i = .int .i64 k ∧ ∃ A1 c1, l = .slice A1 (8 * k) c1 ∧ Own wr w.heap.size 5 A1 (8 * k) c1 (U8 (Crc.lo (bs.take k))) ∧ Below w.heap.size w wr) (fun _ i _ => n - (intOf i).toNat)
  case atStart => exact ⟨0, Nat.zero_le _, rfl, none, 0, rfl, Own.nil _ _ _, Below.refl _ _⟩
  case round =>
    obtain ⟨k, hk, rfl, A1, c1, rfl, hown, hbel⟩ := hrel
    by_cases hlt : k < n
    · obtain ⟨b, off, rfl, hlt2, hcell⟩ := (hr.below hbel).cell8 k hlt
      have hx := Bm.byte_lt bs hb k
      have HT := Lib.hid (Crc.lo_take bs k (by rw [← HN.out]; exact hlt))
      obtain ⟨x, hxe⟩ : ∃ x, x = bs.getD k 0 := ⟨_, rfl⟩
      rw [← hxe] at hx hcell HT
      have HX := Lib.hid hxe
      clear hxe
      go_wp2
      go_loopw [3, 5] (fun l i wr2 => ∃ m : Nat, m ≤ 8 ∧ i = .int .i64 (m : Int) ∧ ∃ A2 c2, l = .slice A2 (8 * k + m) c2 ∧ Own wr2 w.heap.size 5 A2 (8 * k + m) c2 (U8 (Crc.lo (bs.take k) ++ (Crc.lo8 x).take m)) ∧ Below w.heap.size w wr2) (fun _ i _ => 8 - (intOf i).toNat)
      case atStart => exact ⟨0, by omega, rfl, A1, c1, rfl, by simpa using hown, hbel⟩
      case round =>
        clear hown hcell
        obtain ⟨m, hm, rfl, A2, c2, rfl, hown, hbel2⟩ := hrel
        have hsz := hbel2.size
        by_cases hm8 : m < 8
        · obtain ⟨b', off', he, hlt3, hcell⟩ := (hr.below hbel2).cell8 k hlt
          injection he with he
          injection he with he1 he2
          subst he1 he2
          rw [← HX.out] at hcell
          have HM := Lib.hid (Crc.lo8_take x m hm8)
          go_wp2_with (at_builtin; refine app8 _ rfl _ _ rfl w.heap.size _ _ _ _ (x / 2 ^ m % 2) _ (bit_u8 x m hx) rfl hown rfl (by omega) hsz ?_; intro A3 c3 w3 hown3 hgrow3)
          go_roundw
          case rel =>
            refine ⟨m + 1, by omega, by go_num, A3, c3, rfl, ?_, hbel2.grown hgrow3 hsz (fun j hj => (hown.block j hj).1)⟩
            rw [HM.out, ← List.append_assoc]; exact hown3
          case measure => simp [intOf] <;> omega
        · go_wp2
          go_roundw
          case rel =>
            refine ⟨k + 1, by omega, by go_num, A2, c2, slice_len (by omega), ?_, hbel2⟩
            refine hown.to (by omega) ?_
            rw [HT.out, show m = 8 by omega, Crc.lo8_all]
          case measure => simp [intOf] <;> omega
    · have hkn : k = n := by omega
      obtain rfl := hkn
      rw [HN.out, List.take_length] at hown
      rw [← HN.out] at hown
      go_wp2
      go_loopw [3, 6] (fun l i wr2 => ∃ m : Nat, m ≤ 32 ∧ i = .int .i64 (m : Int) ∧ ∃ A2 c2, l = .slice A2 (8 * k + m) c2 ∧ Own wr2 w.heap.size 5 A2 (8 * k + m) c2 (U8 (Crc.lo bs ++ List.replicate m 0)) ∧ Below w.heap.size w wr2) (fun _ i _ => 32 - (intOf i).toNat)
      case atStart => exact ⟨0, by omega, rfl, A1, c1, rfl, by simpa using hown, hbel⟩
      case round =>
        clear hown hbel
        obtain ⟨m, hm, rfl, A2, c2, rfl, hown, hbel⟩ := hrel
        have hsz := hbel.size
        by_cases hm8 : m < 32
        · go_wp2_with (at_builtin; refine app8 _ rfl _ _ rfl w.heap.size _ _ _ _ 0 _ (by first | rfl | omega) rfl hown rfl (by omega) hsz ?_; intro A3 c3 w3 hown3 hgrow3)
          go_roundw
          case rel => exact ⟨m + 1, by omega, by go_num, A3, c3, rfl, by rw [lz_take bs m hm8]; exact hown3, hbel.grown hgrow3 hsz (fun j hj => (hown.block j hj).1)⟩
          case measure => simp [intOf] <;> omega
        · have hm32 : m = 32 := by omega
          subst hm32
          have hown2 : Own _ w.heap.size 5 A2 (8 * k + 32) c2 (U8 (Bm.trn (Crc.lz bs) (Bm.allTo 0))) := hown.to rfl (by rw [show Bm.allTo 0 = [] from rfl, Bm.trn_nil]; rfl)
          have HZ := Lib.hid (Crc.lz_length bs)
          rw [← HN.out] at HZ
          clear hown
          obtain ⟨N, hN⟩ : ∃ N, N = 8 * k + 32 := ⟨_, rfl⟩
          rw [← hN] at hown2 HZ ⊢
          go_wp2
          go_loopw [7] (fun i wr2 => ∃ m : Nat, m ≤ 32 ∧ i = .int .i64 (m : Int) ∧ Own wr2 w.heap.size 5 A2 N c2 (U8 (Bm.trn (Crc.lz bs) (Bm.allTo m))) ∧ Below w.heap.size w wr2) (fun i _ => 32 - (intOf i).toNat)
          case atStart => exact ⟨0, by omega, rfl, hown2, hbel⟩
          case round =>
            clear hown2 hbel
            obtain ⟨m, hm, rfl, hown, hbel⟩ := hrel
            by_cases hm8 : m < 32
            · have HS := Lib.hid (trn_step (Crc.lz bs) m hm8 (by rw [HZ.out]; omega))
              obtain ⟨g, rfl, hg1, hg2, hgc, hgf, hgs⟩ := hown.slot m (by omega)
              rw [U8_get _ m (by rw [Bm.trn_length, HZ.out]; omega)] at hgc
              have hy := Bm.bit_le _ (show ∀ x ∈ Bm.trn (Crc.lz bs) (Bm.allTo m), x ≤ 1 from fun x hx => by
                have := Bm.trn_lt 1 (by omega) (Crc.lz bs) (Bm.allTo m) (fun y hy => by have := Crc.lz_bit bs y hy; omega) x hx
                omega) m
              generalize (Bm.trn (Crc.lz bs) (Bm.allTo m)).getD m 0 = y at *
              have e1 : bits BinOp.xor IntKind.u8 (y : Int) 1 = ((y ^^^ 1 : Nat) : Int) := u8_xor_nat y 1 (by omega) (by omega)
              have HG := Lib.hid (hgs (.int .u8 ((y ^^^ 1 : Nat) : Int)))
              clear hgs
              have hmN : (m : Int) < (N : Int) := by omega
              go_wp2
              go_roundw
              case rel =>
                refine ⟨m + 1, by omega, by go_num, ?_, hbel.setCell hg1 _⟩
                rw [HS.out, ← U8_set]; exact HG.out
              case measure => simp [intOf] <;> omega
            · have hm32 : m = 32 := by omega
              have DS := Lib.hid (Crc.Dvd.start (Crc.lz bs) (Crc.lz_bit bs) (by rw [HZ.out]; omega))
              rw [hm32] at hown
              rename_i wr _
              obtain ⟨g, rfl, hg1, hg2, _, _, _⟩ := hown.slot 0 (by omega)
              have hN1 : N ≤ 8032 := by omega
              have hN2 : 32 ≤ N := by omega
              have HNK := Lib.hid hN
              clear hm32 hN
              have t42 : decide ((m : Int) < 32) = false := by simp; omega
              go_upto_region 17 with (fail)
              refine wp_region_list ?_
              refine reg17 rfl rfl rfl rfl rfl rfl rfl rfl (by simp) (fun w4 hl => ?_)
              simp only [Act.put, List.setIfInBounds_toArray, List.set_cons_zero, List.set_cons_succ]
              have rp := hl.rd
              have hown3 := hown.below hl.bel (Nat.le_refl _)
              have hbel3 := Below.then_ hbel hl.bel
              clear hown hbel hl
              generalize wr.heap.size = gp at *
              have hggp : g < gp := hg2
              go_wp2
              go_loopw [9] (fun i wr2 => ∃ j : Nat, j + 32 ≤ N ∧ i = .int .i64 (j : Int) ∧ ∃ X, Own wr2 w.heap.size 5 (some ⟨g, 0, none⟩) N c2 (U8 X) ∧ Hid (Crc.Dvd (Crc.lz bs) X j) ∧ Rd wr2 (gp + 1) (some ⟨gp, 0, none⟩) 33 (U8 Crc.pcL) ∧ Below w.heap.size w wr2) (fun i _ => N - (intOf i).toNat)
              case atStart => exact ⟨0, by omega, rfl, _, hown3, DS, rp, hbel3⟩
              case round =>
                clear hown3 DS rp hbel3
                obtain ⟨j, hj, rfl, X, own, DX, rp, bel⟩ := hrel
                have LX := Lib.hid own.rd.len8
                by_cases hjN : j + 32 < N
                · have DN := Lib.hid (DX.out.next (Crc.lz_bit bs) (by rw [HZ.out]; exact hjN))
                  obtain ⟨g', hg', _, _, hgc, _, _⟩ := own.slot j (by omega)
                  injection hg' with hg'
                  injection hg' with hg'
                  subst hg'
                  rw [U8_get _ j (by rw [← LX.out]; omega)] at hgc
                  have hy := Bm.bit_le X DX.out.bit j
                  have hj1 : (j : Int) < (N : Int) := by omega
                  have hj2 : (j : Int) + 32 < (N : Int) := by omega
                  obtain ⟨y, hye⟩ : ∃ y, y = X.getD j 0 := ⟨_, rfl⟩
                  rw [← hye] at hgc hy DN
                  have HY := Lib.hid hye
                  clear hye
                  by_cases hy0 : y = 0
                  · rw [if_pos hy0] at DN
                    have t1 : ((y : Int) == 0) = true := by simp [hy0]
                    clear hy0
                    go_wp2
                    go_roundw
                    case rel => exact ⟨j + 1, by omega, by go_num, X, own, DN, rp, bel⟩
                    case measure => simp [intOf] <;> omega
                  · rw [if_neg hy0] at DN
                    have t1 : ((y : Int) == 0) = false := by simp; omega
                    clear hy0
                    have BX := Lib.hid DX.out.bit
                    clear DX HY hy
                    go_wp2
                    clear t1 hgc
                    go_loopw [10] (fun i wr3 => ∃ q : Nat, q ≤ 33 ∧ i = .int .i64 (q : Int) ∧ Own wr3 w.heap.size 5 (some ⟨g, 0, none⟩) N c2 (U8 (Crc.dv X j q)) ∧ Rd wr3 (gp + 1) (some ⟨gp, 0, none⟩) 33 (U8 Crc.pcL) ∧ Below w.heap.size w wr3) (fun i _ => 33 - (intOf i).toNat)
                    case atStart => exact ⟨0, by omega, rfl, by rw [Crc.dv_zero]; exact own, rp, bel⟩
                    case round =>
                      clear own rp bel
                      obtain ⟨q, hq, rfl, own, rp, bel⟩ := hrel
                      by_cases hq33 : q < 33
                      · obtain ⟨s, hs⟩ : ∃ s, s = j + q := ⟨_, rfl⟩
                        have HD := Lib.hid (Crc.dv_succ X j q (by rw [← LX.out]; omega))
                        obtain ⟨g', hg', _, _, hgc, hgf, hgs⟩ := own.slot s (by omega)
                        injection hg' with hg'
                        injection hg' with hg'
                        subst hg'
                        rw [U8_get _ s (by rw [Crc.dv_length, ← LX.out]; omega)] at hgc
                        have hy2 := Bm.bit_le (Crc.dv X j q) (Crc.dv_bit X BX.out j q) s
                        obtain ⟨p', o', hp', _, pc⟩ := rp.cell8 q hq33
                        injection hp' with hp'
                        injection hp' with hp1 hp2
                        subst hp1 hp2
                        have hz2 := Bm.bit_le Crc.pcL Crc.pcL_bit q
                        rw [← hs] at HD
                        generalize (Crc.dv X j q).getD s 0 = y2 at *
                        generalize Crc.pcL.getD q 0 = z2 at *
                        have e4 := u8_xor_nat y2 z2 (by omega) (by omega)
                        have HG := Lib.hid (hgs (.int .u8 ((y2 ^^^ z2 : Nat) : Int)))
                        have pc2 := pc
                        rw [Nat.zero_add] at pc2
                        have e0 : (j : Int) + (q : Int) = (s : Int) := by omega
                        have hs1 : s ≤ 10000 := by omega
                        have hs2 : (s : Int) < (N : Int) := by omega
                        have hs3 : (0 : Int) ≤ (s : Int) := by omega
                        have e6 : IntKind.i64.wrap (s : Int) = (s : Int) := IntWalk.i64_in _ (by omega)
                        have q1 : (q : Int) < 33 := by omega
                        have q2 : (0 : Int) ≤ (q : Int) := by omega
                        have hne : gp ≠ g := by omega
                        clear hgs hs
                        go_wp2_with fail
                        go_region
                        go_wp2
                        go_roundw
                        case rel =>
                          refine ⟨q + 1, by omega, by go_num, ?_, ?_, (bel.setCell hg1 _).drew⟩
                          · rw [HD.out, ← U8_set]
                            exact ⟨HG.out.row.drew⟩
                          · exact rp.keep (Below.heap_setCell _ _ _ _ hne)
                        case measure => simp [intOf] <;> omega
                      · have hq0 : q = 33 := by omega
                        rw [hq0] at own
                        go_wp2
                        go_roundw
                        case rel => ((repeat apply Exists.intro); exact ⟨⟨j + 1, by omega, by go_num, Crc.dv X j 33, own, DN, rp, bel⟩, rfl⟩)
                        case measure => simp [intOf] <;> omega
                · have hjk : j = 8 * bs.length := by have := HNK.out; have := HN.out; omega
                  have HW : Hid (Crc.win X j 32 = Crc.r32 bs) := by
                    have := DX.out
                    rw [hjk] at this ⊢
                    exact this.stop hb
                  have HWL := Lib.hid (Crc.win_lt X DX.out.bit j)
                  have HWA := Lib.hid (Crc.win_add X DX.out.bit j)
                  have BX := Lib.hid DX.out.bit
                  have e0 : (N : Int) - 32 = (j : Int) := by omega
                  have hNj : N - j = 32 := by omega
                  have f0 : (0 : Int) ≤ (j : Int) := by omega
                  have f7 : (j : Int) ≤ (N : Int) := by omega
                  have hcap := own.bounds.1
                  have f9 : (N : Int) ≤ (c2 : Int) := by omega
                  have f10 : ¬ (j : Int) + 32 < (N : Int) := by omega
                  clear hjk DX rp
                  go_wp2
                  clear e0 hNj f0 f7 f9 f10
                  go_loop [12, 13] (fun n i => ∃ q r : Nat, q ≤ 32 ∧ i = .int .i64 (q : Int) ∧ n = .int .u32 (r : Int) ∧ Hid (r = Crc.win X j q)) (fun _ i => 32 - (intOf i).toNat)
                  case atStart => exact ⟨0, 0, by omega, rfl, rfl, rfl⟩
                  case round =>
                    obtain ⟨q, r, hq, rfl, rfl, HR⟩ := hrel
                    by_cases hq32 : q < 32
                    · obtain ⟨g', hg', _, _, hgc, _, _⟩ := own.slot (j + q) (by omega)
                      injection hg' with hg'
                      injection hg' with hg'
                      subst hg'
                      rw [U8_get _ (j + q) (by rw [← LX.out]; omega)] at hgc
                      have hx := Bm.bit_le X BX.out (j + q)
                      have h1 := HWL.out q
                      have h2 := HWL.out (q + 1)
                      have HS := Lib.hid (HWA.out q)
                      rw [HS.out] at h2
                      rw [← HR.out] at h1 h2 HS
                      have h3 : 2 ^ (q + 1) ≤ 2 ^ 32 := Nat.pow_le_pow_right (by decide) (by omega)
                      generalize X.getD (j + q) 0 = x at *
                      obtain ⟨y, hy⟩ : ∃ y, y = x * 2 ^ q := ⟨_, rfl⟩
                      rw [← hy] at h2 HS
                      have hy2 : y % 2 ^ q = 0 := by rw [hy]; exact Nat.mul_mod_left _ _
                      have hy3 : y < 4294967296 := by omega
                      have hr4 : r < 4294967296 := by omega
                      have e2 : (x : Int) * 2 ^ q = (y : Int) := by rw [hy]; simp
                      have e3 := or_32 r y q hr4 hy3 hy2 h1
                      have e4 : IntKind.u32.wrap (y : Int) = (y : Int) := IntWalk.u32_in _ (by omega)
                      clear hy hy2 h3 h1 h2
                      go_wp2
                      go_round
                      case rel => exact ⟨q + 1, r + y, by omega, by go_num, by go_num, HS.out.symm⟩
                      case measure => simp [intOf] <;> omega
                    · have hr4 : r < 4294967296 := by
                        have := HWL.out 32
                        rw [HR.out, show q = 32 by omega]; exact this
                      go_wp2
                      go_ret
                      refine ⟨ret_int' ?_, bel⟩
                      unfold Crc.c32
                      rw [← HW.out, ← show q = 32 by omega, ← HR.out]
                      exact u32_xor_nat 4294967295 r (by omega) hr4
end Go.Proofs.YtcmoedhpedlalaaDoor
