/-
  Layer 13: Counts; the statements' first test; a version of a list, with some bits turned.
-/
import Derived.Test.YtknfpdlomgllhaaDoorUb
import Derived.Test.YtknfpdlomgllhaaDoorPa
import Derived.Test.YtknfpdlomgllhaaDoorRt
import Derived.Test.YtknfpdlomgllhaaDoorKz
import Derived.Test.YtknfpdlomgllhaaDoorRc
namespace Go.Proofs.YtknfpdlomgllhaaDoor
open Go.RowKit
set_option maxRecDepth 100000
set_option linter.unusedVariables false
set_option linter.unusedSimpArgs false

/-- Counts as a list. -/
def cl (row : List (Nat × List Nat)) : List Nat := [Cv.cv row 0, Cv.cv row 1, Cv.cv row 2, Cv.cv row 3]
theorem Rd.kp {w w' : World} {b off n g : Nat} {o : Option Nat} {xs : List Value} (h : Rd w w.heap.size (some ⟨b, off, none⟩) n xs) (hk : Kp w w' g o) (h1 : b ≠ g) (h2 : o ≠ some b) (hb : b < w.heap.size) : Rd w' w'.heap.size (some ⟨b, off, none⟩) n xs :=
  ⟨h.len, fun hn => by
    obtain ⟨b', off', e, _, hc⟩ := h.at_ hn
    injection e with e
    injection e with e1 e2
    subst e1 e2
    exact ⟨b, off, rfl, Nat.lt_of_lt_of_le hb hk.size, fun i u hu => (cell_of_heap (hk.block b hb h1 h2) (off + i)).trans (hc i u hu)⟩⟩
/-- A made row that is not empty lies in a block of its own. -/
theorem Own.at0 {w : World} {base : Nat} {e : TypeId} {A : Option Addr} {n c : Nat} {xs : List Value} (h : Own w base e A n c xs) (hn : 0 < n) : ∃ g, A = some ⟨g, 0, none⟩ ∧ base ≤ g ∧ g < w.heap.size := by
  obtain ⟨g, h1, h2, h3, _⟩ := h.slot 0 hn
  exact ⟨g, h1, h2, h3⟩
theorem Z4w_eq' : (Tryd.prog.info? 22).bind (fun i => i.zero.map (fun z => z.cells)) = some (W4 (nw [0, 0, 0, 0])) := by kernel_rfl
theorem BF_mid (n : Nat) (row : List (Nat × List Nat)) (S : Value) : ∀ i u, (W4 (nw (cl row))).toList[i]? = some u → (BF n (Cv.cv row) S)[1 + i]? = some u := by
  intro i u hu
  have hi : i < 4 := by
    have := (List.getElem?_eq_some_iff.1 hu).1
    simpa [W4, nw, cl, I64] using this
  have h : i = 0 ∨ i = 1 ∨ i = 2 ∨ i = 3 := by omega
  rcases h with rfl | rfl | rfl | rfl <;> exact hu
set_option maxHeartbeats 400000 in
/-- (*Buffer).Counts. -/
theorem countsC (gB n : Nat) (row : List (Nat × List Nat)) (S : Value) (w : World) (hb : Blk w gB 97 (BF n (Cv.cv row) S)) :
    Calls Tryd.prog 20 #[.pointer (some ⟨gB, 0, none⟩)] w fun e w' => e = .returned (.agg (W4 (nw (cl row)))) ∧ Below w.heap.size w w' := by
  have iZ : Hid ((Tryd.prog.info? 22).map (·.size) = some (W4 (nw (cl row))).size) := info4w
  have HM := Lib.hid (BF_mid n row S)
  have HS : Hid ((W4 (nw [0, 0, 0, 0])).size = (W4 (nw (cl row))).size) := rfl
  have H1 := Lib.hid (W4_one (nw (cl row)))
  have HR : Hid (∀ W, Below w.heap.size w W → W.rangeAt gB 1 (W4 (nw (cl row))).toList) := fun W h => (hb.after h).range 1 _ HM.out
  generalize W4 (nw (cl row)) = Z at *
  clear hb HM
  go_enter Tryd.func20, Tryd.ntmps20
  go_wp2_with (first | (refine at_alloc rfl 22 rfl (W4 (nw [0, 0, 0, 0])) Z4w_eq' ?_; intro w1 h1) | (refine at_load_mid rfl 22 _ rfl gB 1 rfl Z _ (HR.out w1 h1.bel) Tryd.underlying22 rfl iZ.out ?_) | (refine at_store rfl 22 _ _ rfl w.heap.size Z rfl rfl 22 _ h1.row iZ.out HS.out H1.out ?_; intro w2 h2))
  refine bodyPost_ret (v := .agg Z) (results_row rfl _ _ w.heap.size 22 _ _ rfl h2.row Tryd.underlying22 rfl iZ.out) rfl ?_
  exact ⟨rfl, h1.bel.trans (h2.below (Nat.le_refl _))⟩
/-- The versions of a list, one behind the other. -/
def wrow (l : List Nat) (k : Nat) : List (Nat × List Nat) := (List.range k).map fun v => (v, Cv.pick (Cv.code l) v)
theorem wrow_succ (l : List Nat) (k : Nat) : wrow l (k + 1) = wrow l k ++ [(k, Cv.pick (Cv.code l) k)] := by unfold wrow; rw [List.range_succ, List.map_append]; rfl
theorem wrow_length (l : List Nat) (k : Nat) : (wrow l k).length = k := by simp [wrow]
theorem cl_four (l : List Nat) : cl (wrow l 4) = [1, 1, 1, 1] := rfl
theorem eq4w : ∀ w, (binOp .eql 22 (.agg #[.int .i64 1, .int .i64 1, .int .i64 1, .int .i64 1]) (.agg #[.int .i64 1, .int .i64 1, .int .i64 1, .int .i64 1])).run Tryd.prog w = .ok (.bool true) w := fun _ => by kernel_rfl
theorem five : ∀ x ∈ [1, 1, 0, 1, 0], x ≤ 1 := by decide
set_option maxHeartbeats 1000000 in
set_option maxRecDepth 100000 in
/-- The statements' first test. -/
theorem combinesC (w : World) (hT : Taps w) : Calls Tryd.prog 17 #[] w fun e w' => e = .returned (.bool true) ∧ Below w.heap.size w w' := by
  have CN : Hid (∀ W, Calls Tryd.prog 22 #[.int .i64 5] W fun e w' => e = .returned (.tuple #[.pointer (some ⟨W.heap.size, 0, none⟩), .int .i64 0]) ∧ BufS w' W.heap.size 5 [] (.slice none 0 0) ∧ Below W.heap.size W w' ∧ w'.heap.size = W.heap.size + 1) := fun W => newC 5 W (by omega)
  have HCL : Hid ((Cv.code [1, 1, 0, 1, 0]).length = 44) := Cv.code_length _
  have HRB : Hid (Cv.rb (Cv.softs 11 (wrow [1, 1, 0, 1, 0] 4)) 5 0 0 = [1, 1, 0, 1, 0]) := by
    have h1 : Cv.Best _ 5 _ := Cv.row_whole [1, 1, 0, 1, 0] five (wrow [1, 1, 0, 1, 0] 4) (by simp [wrow]) (fun r hr => by
      obtain ⟨v, hv, rfl⟩ := List.mem_map.1 hr
      exact ⟨List.mem_range.1 hv, rfl⟩)
    exact (Cv.rb_best _ 5).uniq h1
  go_enter Tryd.func17, Tryd.ntmps17
  go_upto_region 2 with fail
  have r0 := rd_block w 5 #[.int .u8 1, .int .u8 1, .int .u8 0, .int .u8 1, .int .u8 0] (0, 0) (U8 [1, 1, 0, 1, 0]) 5 rfl rfl
  have b0 : Below w.heap.size w (w.alloc (.cells #[.int .u8 1, .int .u8 1, .int .u8 0, .int .u8 1, .int .u8 0] 5)) := (Below.refl _ _).alloc (Nat.le_refl _) _
  generalize w.alloc (.cells #[.int .u8 1, .int .u8 1, .int .u8 0, .int .u8 1, .int .u8 0] 5) = w0 at *
  go_upto_region 4 with (go_at_call 22; refine (CN.out w0).mono ?_; rintro e w1 ⟨rfl, hB, b1, s1⟩)
  obtain ⟨gB, hgB⟩ : ∃ g, g = w0.heap.size := ⟨_, rfl⟩
  rw [← hgB] at hB b1 s1
  rw [← hgB]
  have HG := Lib.hid hgB
  have hw0 : w.heap.size ≤ gB := by rw [hgB]; exact b0.size
  have hpos := hT.pos
  clear hgB
  go_loopw [4] (fun x wr => ∃ v : Nat, v ≤ 4 ∧ x = .int .i64 v ∧ ∃ S, BufS wr gB 5 (wrow [1, 1, 0, 1, 0] v) S ∧ Below gB w0 wr ∧ (∀ k, S.ownBlock = some k → gB ≤ k) ∧ gB ≤ wr.heap.size) (fun x _ => 4 - (intOf x).toNat)
  case atStart => exact ⟨0, by omega, rfl, _, hB, b1, (fun k hk => by cases hk), by rw [s1]; omega⟩
  case round =>
    clear hB b1 s1
    obtain ⟨v, hv, rfl, S, hB, bel, hS, hsz⟩ := hrel
    have rw0 : Rd wr wr.heap.size (some ⟨w.heap.size, 0, none⟩) 5 (U8 [1, 1, 0, 1, 0]) := by
      have := r0
      rw [← HG.out] at this
      exact (this.below bel).up hsz
    by_cases hlt : v < 4
    · have CC := Lib.hid (refCode (some ⟨w.heap.size, 0, none⟩) 5 5 [1, 1, 0, 1, 0] wr rw0 five (by omega))
      have CP := Lib.hid (fun (Ac : Option Addr) (nc cc : Nat) (W : World) (h : Rd W W.heap.size Ac nc (U8 (Cv.code [1, 1, 0, 1, 0]))) => refPick Ac nc cc 11 v (Cv.code [1, 1, 0, 1, 0]) W h (by rw [h.len8, HCL.out]) (by omega) hlt)
      have HWS := Lib.hid (wrow_succ [1, 1, 0, 1, 0] v)
      have HWL := Lib.hid (wrow_length [1, 1, 0, 1, 0] v)
      have HPL : Hid ((Cv.pick (Cv.code [1, 1, 0, 1, 0]) v).length = 11) := by unfold Hid; rw [Cv.pick_length, HCL.out]
      have HPB := Lib.hid (Cv.pick_bit _ (Cv.code_bit _ five) v)
      have dv : decide ((v : Int) < 4) = true := by simp <;> omega
      generalize Cv.pick (Cv.code [1, 1, 0, 1, 0]) v = p at *
      generalize Cv.code [1, 1, 0, 1, 0] = cd at *
      generalize wrow [1, 1, 0, 1, 0] v = row at *
      go_wp2_with fail
      refine CC.out.mono ?_
      rintro e w2 ⟨A2, n2, c2, rfl, own2, b2⟩
      go_wp2_with fail
      refine (CP.out A2 n2 c2 w2 own2.rd).mono ?_
      rintro e w3 ⟨A3, n3, c3, rfl, own3, b3⟩
      obtain rfl : n3 = 11 := by rw [own3.rd.len8, HPL.out]
      obtain ⟨g3, rfl, hg3, hg3l⟩ := own3.at0 (by omega)
      have b23 := Below.then_ b2 b3
      have hB3 := hB.after b23
      have hlB := hB.blk.lt
      have hg3r : wr.heap.size ≤ g3 := Nat.le_trans b2.size hg3
      have CA := Lib.hid (addC gB 5 v 11 c3 g3 0 row p S w3 hB3 (by omega) (by rw [HWL.out]; omega) hlt rfl own3.rd HPB.out (by omega) hg3l (fun e => by have := hB.lt g3 e; omega))
      have hs3 := b23.size
      clear own2 own3 b2 b3
      go_wp2_with fail
      refine CA.out.mono ?_
      rintro e w4 ⟨rfl, S4, hB4, hK, hO⟩
      have bel4 := (bel.trans (b23.mono hsz)).trans (hK.below (Nat.le_refl _) hS (Nat.le_trans hsz hs3))
      have hsz4 := hK.size
      go_wp2
      go_roundw
      case rel => exact ⟨v + 1, by omega, by go_num, S4, by rw [HWS.out]; exact hB4, bel4, fun k hk => by
        rcases hO with e | ⟨j, e, hj⟩
        · exact hS k (by rw [← e]; exact hk)
        · rw [e] at hk; injection hk with hk; omega, by omega⟩
      case measure => simp [intOf] <;> omega
    · have dv : decide ((v : Int) < 4) = false := by simp <;> omega
      obtain rfl : v = 4 := by omega
      have hTr : Taps wr := hT.low (b0.trans (bel.mono hw0)) hpos
      have CD := Lib.hid (bdecode gB 5 _ S wr hB (by omega) (by rw [wrow_length]; omega) hTr)
      rw [show (5 + 6 : Nat) = 11 from rfl, HRB.out] at CD
      have CT := Lib.hid (fun (W : World) (h : Below wr.heap.size wr W) => countsC gB 5 _ S W (hB.after h).blk)
      rw [cl_four] at CT
      have CT2 : Hid (∀ W, Below wr.heap.size wr W → Calls Tryd.prog 20 #[.pointer (some ⟨gB, 0, none⟩)] W fun e w' => e = .returned (.agg #[.int .i64 1, .int .i64 1, .int .i64 1, .int .i64 1]) ∧ Below W.heap.size W w') := CT.out
      have heq := eq4w
      have HSZ := Lib.hid hsz
      clear hB CT hsz dv
      go_wp2_with fail
      refine CD.out.mono ?_
      rintro e w2 ⟨A2, n2, c2, rfl, own2, b2⟩
      have hq1 := own2.conv w2 (Below.refl _ _)
      have hq2 := rw0.convS (c := 5) w2 b2
      generalize str [1, 1, 0, 1, 0] = s0 at *
      have ts : (s0.toList == s0.toList) = true := by simp
      clear own2
      go_wp2_with (go_at_call 20; refine (CT2.out w2 b2).mono ?_; rintro e w3 ⟨rfl, b3⟩)
      go_ret
      exact ⟨rfl, ((b0.trans (bel.mono hw0)).trans (b2.mono (Nat.le_trans hw0 HSZ.out))).trans (b3.mono (Nat.le_trans (Nat.le_trans hw0 HSZ.out) b2.size))⟩
end Go.Proofs.YtknfpdlomgllhaaDoor
