/-
  Layer 11: there, bits.Weight, read, Alone, Code.
-/
import Derived.Test.YtcmoedhpedlalaaDoorNb
import Derived.Test.YtcmoedhpedlalaaDoorKg
import Derived.Test.YtcmoedhpedlalaaDoorMz
namespace Go.Proofs.YtcmoedhpedlalaaDoor
open Go.RowKit
set_option maxRecDepth 100000
set_option linter.unusedVariables false
set_option linter.unusedSimpArgs false

set_option maxHeartbeats 400000 in
/-- version.there. -/
theorem vthere (v : Nat) (w : World) (hv : v < 4) : Calls Tryd.prog 93 #[.int .i64 (v : Int)] w fun e w' => e = .returned (.bool true) ∧ w = w' := by
  have d : decide ((v : Int) < 4) = true := by simp <;> omega
  go_enter Tryd.func93, Tryd.ntmps93
  go_wp2
  go_ret
  exact ⟨rfl, rfl⟩
set_option maxHeartbeats 400000 in
theorem vthereNo (v : Int) (w : World) (h : v < 0 ∨ 3 < v) : Calls Tryd.prog 93 #[.int .i64 v] w fun e w' => e = .returned (.bool false) ∧ w = w' := by
  by_cases h1 : 0 ≤ v
  · have d : decide (v < 4) = false := by simp <;> omega
    go_enter Tryd.func93, Tryd.ntmps93
    go_wp2
    go_ret
    exact ⟨rfl, rfl⟩
  · go_enter Tryd.func93, Tryd.ntmps93
    go_wp2
    go_ret
    exact ⟨rfl, rfl⟩
/-- How many are not 0. -/
def cnz (bs : List Nat) : Nat := (bs.filter (· != 0)).length
theorem cnz_snoc (bs : List Nat) (x : Nat) : cnz (bs ++ [x]) = cnz bs + if x = 0 then 0 else 1 := by
  unfold cnz
  rw [List.filter_append, List.length_append]
  by_cases h : x = 0
  · subst h; rfl
  · simp [h]
theorem cnz_le (bs : List Nat) : cnz bs ≤ bs.length := List.length_filter_le _ _
theorem cnz_zero (bs : List Nat) : cnz bs = 0 ↔ ∀ i, i < bs.length → bs.getD i 0 = 0 := by
  unfold cnz
  rw [List.length_eq_zero_iff, List.filter_eq_nil_iff]
  constructor
  · intro h i hi
    have := h _ (List.getElem_mem hi)
    rw [Bm.getD_lt _ _ _ hi]
    simpa using this
  · intro h x hx
    obtain ⟨i, hi, rfl⟩ := List.mem_iff_getElem.1 hx
    have := h i hi
    rw [Bm.getD_lt _ _ _ hi] at this
    simp [this]
set_option maxHeartbeats 400000 in
/-- bits.Weight. -/
theorem weightB (A : Option Addr) (n c : Nat) (bs : List Nat) (w : World) (hr : Rd w w.heap.size A n (U8 bs)) (hn : n ≤ 1000000) :
    Calls Tryd.prog 118 #[.slice A n c] w fun e w' => e = .returned (.int .i64 (cnz bs : Nat)) ∧ w = w' := by
  have HN := Lib.hid hr.len8
  go_enter Tryd.func118, Tryd.ntmps118
  go_wp2
  go_loop [3, 8] (fun s i => ∃ k r : Nat, k ≤ n ∧ i = .int .i64 k ∧ s = .int .i64 r ∧ r ≤ k ∧ Hid (r = cnz (bs.take k))) (fun _ i => n - (intOf i).toNat)
  case atStart => exact ⟨0, 0, Nat.zero_le _, rfl, rfl, Nat.le_refl _, rfl⟩
  case round =>
    obtain ⟨k, r, hk, rfl, rfl, hrk, HR⟩ := hrel
    by_cases hlt : k < n
    · obtain ⟨b, off, rfl, hlt2, hcell⟩ := hr.cell8 k hlt
      have HS : Hid (cnz (bs.take (k + 1)) = cnz (bs.take k) + if bs.getD k 0 = 0 then 0 else 1) := by
        unfold Hid
        rw [List.take_succ_eq_append_getElem (by rw [← HN.out]; exact hlt), cnz_snoc, ← Bm.getD_lt _ 0 k (by rw [← HN.out]; exact hlt)]
      generalize bs.getD k 0 = x at *
      by_cases h0 : x = 0
      · have t0 : ((x : Int) != 0) = false := by simp [h0]
        have HX := Lib.hid h0
        clear h0
        go_wp2
        go_round
        case rel => exact ⟨k + 1, r, by omega, by go_num, rfl, by omega, by unfold Hid; rw [HS.out, if_pos HX.out, ← HR.out, Nat.add_zero]⟩
        case measure => simp [intOf] <;> omega
      · have t0 : ((x : Int) != 0) = true := by simp; omega
        have HX := Lib.hid h0
        clear h0
        go_wp2
        go_round
        case rel => exact ⟨k + 1, r + 1, by omega, by go_num, by go_num, by omega, by unfold Hid; rw [HS.out, if_neg HX.out, ← HR.out]⟩
        case measure => simp [intOf] <;> omega
    · go_wp2
      go_ret
      refine ⟨ret_int' ?_, rfl⟩
      rw [HR.out, List.take_of_length_le (by rw [← HN.out]; omega)]
theorem sv_left (l r : List Nat) : ∀ t, t ≤ l.length → Cv.sv (l ++ r) t = Cv.sv l t
  | 0, _ => rfl
  | t + 1, h => by
    show Cv.nx (Cv.sv (l ++ r) t) ((l ++ r).getD t 0) = Cv.nx (Cv.sv l t) (l.getD t 0)
    rw [sv_left l r t (by omega), Bm.getD_lt _ _ _ (by rw [List.length_append]; omega), Bm.getD_lt _ _ _ (by omega), List.getElem_append_left (by omega)]
theorem al_state (p : List Nat) (hp : ∀ x ∈ p, x ≤ 1) (v t : Nat) :
    Cv.bitAt (Cv.al p v t ++ [0]) t (Cv.st v t) = Cv.out (Cv.sv (Cv.al p v t) t) 0 (Cv.st v t) ∧
    Cv.sv (Cv.al p v (t + 1)) (t + 1) = Cv.nx (Cv.sv (Cv.al p v t) t) (p.getD t 0 ^^^ Cv.bitAt (Cv.al p v t ++ [0]) t (Cv.st v t)) := by
  have hl := Cv.al_length p v t
  have hb := Cv.al_bit p hp v t
  have hb0 : ∀ x ∈ Cv.al p v t ++ [0], x ≤ 1 := fun x hx => by
    rcases List.mem_append.1 hx with h | h
    · exact hb x h
    · rw [List.mem_singleton.1 h]; omega
  have hg : ∀ y : Nat, (Cv.al p v t ++ [y]).getD t 0 = y := fun y => by
    rw [Bm.getD_lt _ _ _ (by rw [List.length_append, hl]; simp)]
    simp [hl]
  constructor
  · rw [← Cv.out_bitAt _ hb0 t, sv_left _ _ t (by rw [hl]; exact Nat.le_refl _), hg]
  · show Cv.nx (Cv.sv (Cv.al p v (t + 1)) t) ((Cv.al p v (t + 1)).getD t 0) = _
    show Cv.nx (Cv.sv (Cv.al p v t ++ [_]) t) ((Cv.al p v t ++ [_]).getD t 0) = _
    rw [sv_left _ _ t (by rw [hl]; exact Nat.le_refl _), hg]
theorem xor_le1 {x y : Nat} (hx : x ≤ 1) (hy : y ≤ 1) : x ^^^ y ≤ 1 := by
  have h1 : x = 0 ∨ x = 1 := by omega
  have h2 : y = 0 ∨ y = 1 := by omega
  rcases h1 with rfl | rfl <;> rcases h2 with rfl | rfl <;> decide
/-- What read gives. -/
def ReadOk (w : World) (n : Nat) (bs : List Nat) (e : Ending) (w' : World) : Prop := ∃ A c, e = .returned (.slice A n c) ∧ Own w' w.heap.size 5 A n c (U8 bs) ∧ Below w.heap.size w w'
theorem C4_at (a b c d : Nat) (f : Nat → Nat) (h0 : f 0 = a) (h1 : f 1 = b) (h2 : f 2 = c) (h3 : f 3 = d) (i : Nat) (hi : i < 4) : (C4 a b c d)[i]? = some (.int .u8 ((f i : Nat) : Int)) := by
  have h : i = 0 ∨ i = 1 ∨ i = 2 ∨ i = 3 := by omega
  rcases h with rfl | rfl | rfl | rfl
  · rw [h0]; rfl
  · rw [h1]; rfl
  · rw [h2]; rfl
  · rw [h3]; rfl
set_option maxHeartbeats 1000000 in
/-- version.read. -/
theorem vread (A : Option Addr) (n c v : Nat) (p : List Nat) (w : World) (hr : Rd w w.heap.size A n (U8 p)) (hp : ∀ x ∈ p, x ≤ 1) (hn : n ≤ 100000) (hv : v < 4) (hT : Taps w) :
    Calls Tryd.prog 117 #[.slice A n c, .int .i64 (v : Int)] w (ReadOk w n (Cv.al p v n)) := by
  obtain ⟨i0, hi0, hz0, hz1, hz2⟩ := info_parts info5
  have HB := Lib.hid (Cv.al_bit p hp v)
  have HSt := Lib.hid (al_state p hp v)
  have HPB := Lib.hid (fun t => Bm.bit_le p hp t)
  clear hp
  go_enter Tryd.func117, Tryd.ntmps117
  go_wp2_with (at_make; refine wpList_make_own _ rfl _ _ 22 rfl w.heap.size 5 i0 (.int .u8 0) 1 Tryd.underlying22 hi0 hz0 hz1 .i64 .i64 _ n rfl rfl (by first | rfl | omega) (by rw [hz2]; omega) (by unfold maxLen; omega) (Nat.le_refl _) ?_; intro w0 hown0 hgrow0)
  have hbel0 : Below w.heap.size w w0 := (Below.refl _ _).grown hgrow0 (Nat.le_refl _) (fun k h => by cases h)
  clear hgrow0 hi0 hz0 hz1 hz2
  go_loopw [5, 6, 19] (fun s st i wr => ∃ t : Nat, t ≤ n ∧ i = .int .i64 t ∧ ∃ q : Nat, st = .int .i64 q ∧ Hid (q = Cv.sv (Cv.al p v t) t) ∧ ∃ A1 c1, s = .slice A1 t c1 ∧ Own wr w.heap.size 5 A1 t c1 (U8 (Cv.al p v t)) ∧ Below w.heap.size w wr) (fun _ _ i _ => n - (intOf i).toNat)
  case atStart => exact ⟨0, Nat.zero_le _, rfl, 0, rfl, rfl, _, _, rfl, ⟨hown0⟩, hbel0⟩
  case round =>
    clear hown0 hbel0
    obtain ⟨t, ht, rfl, q, rfl, HQ, A1, c1, rfl, hown, hbel⟩ := hrel
    have hsz := hbel.size
    by_cases hlt : t < n
    · have hst := Cv.st_lt v t
      have hq : q < 64 := by rw [HQ.out]; exact Cv.sv_lt _ (HB.out t) t
      obtain ⟨b, off, rfl, hlt2, hcell⟩ := (hr.below hbel).cell8 t hlt
      have hx1 := HPB.out t
      have C1 := Lib.hid (patStream v t wr hv (by omega))
      have C2 : Hid (Calls Tryd.prog 133 #[.int .i64 (q : Int), .int .u8 0] wr fun e w' => e = .returned (.tuple #[.agg (C4 (Cv.out q 0 0) (Cv.out q 0 1) (Cv.out q 0 2) (Cv.out q 0 3)), .int .i64 0]) ∧ Below wr.heap.size wr w') := outC q 0 wr hq (by omega) (hT.after hbel)
      obtain ⟨hs1, hs2⟩ := HSt.out t
      rw [← HQ.out] at hs1 hs2
      have hy1 := Cv.out_bit q 0 (Cv.st v t)
      have HCE := Lib.hid (C4_at (Cv.out q 0 0) (Cv.out q 0 1) (Cv.out q 0 2) (Cv.out q 0 3) (Cv.out q 0) rfl rfl rfl rfl (Cv.st v t) hst)
      have HAL : Hid (Cv.al p v (t + 1) = Cv.al p v t ++ [p.getD t 0 ^^^ Cv.out q 0 (Cv.st v t)]) := by unfold Hid; rw [← hs1]; rfl
      rw [hs1] at hs2
      have HS2 := Lib.hid hs2
      obtain ⟨x, hx⟩ : ∃ x, x = p.getD t 0 := ⟨_, rfl⟩
      rw [← hx] at HAL HS2 hx1 hcell
      generalize hC4 : C4 (Cv.out q 0 0) (Cv.out q 0 1) (Cv.out q 0 2) (Cv.out q 0 3) = CC at *
      have HC1 : Hid (CC.all (·.oneCell') = true) := by rw [← hC4]; exact C4_one _ _ _ _
      have HCS : Hid (CC.size = 4) := by rw [← hC4]; rfl
      have iC : Hid ((Tryd.prog.info? 99).map (·.size) = some CC.size) := by unfold Hid; rw [HCS.out]; exact info4
      generalize Cv.out q 0 (Cv.st v t) = y at *
      have hxy := u8_xor_nat x y (by omega) (by omega)
      have hz : x ^^^ y ≤ 1 := xor_le1 hx1 hy1
      generalize x ^^^ y = z at *
      have C3 := Lib.hid (fun W => nextC q z W hq hz)
      generalize Cv.st v t = s at *
      generalize Cv.nx q z = q2 at *
      have ia := fun g W => run_idx (P := Tryd.prog) (sz := 1) Tryd.underlying99 (by kernel_rfl) g 0 s hst .i64 W
      simp only [Nat.zero_add, Nat.one_mul] at ia
      clear hx hs1 hs2 HQ hC4
      go_upto_region 8 with (first | (go_at_call 132; refine C1.out.mono ?_; rintro e w' ⟨rfl, rfl⟩) | (go_at_call 133; refine C2.out.mono ?_; rintro e w2 ⟨rfl, hb2⟩) | (refine at_alloc rfl 99 rfl (C4 0 0 0 0) Z4_eq ?_; intro w3 h3) | (refine at_store rfl 99 _ _ rfl w2.heap.size CC rfl rfl 99 (C4 0 0 0 0) h3.row iC.out (by rw [HCS.out]; rfl) HC1.out ?_; intro w4 h4))
      have kc : w4.cell? ⟨w2.heap.size, s, none⟩ = some (.int .u8 (y : Int)) := (h4.row.cell s).trans HCE.out
      have b24 : Below wr.heap.size wr w4 := (Below.then_ hb2 h3.bel).trans (h4.below hb2.size)
      have kp := (b24.cell (p := ⟨b, off + t, none⟩) (by show b < wr.heap.size; omega)).trans hcell
      have own4 := hown.below b24 (Nat.le_refl _)
      have bel4 := hbel.trans (b24.mono hsz)
      obtain ⟨g2, hg2⟩ : ∃ g, g = w2.heap.size := ⟨_, rfl⟩
      rw [← hg2] at kc
      rw [← hg2]
      clear h3 h4 hb2 b24 hcell hown hbel hg2
      go_wp2_with (first | (at_builtin; refine app8 _ rfl _ _ rfl w.heap.size _ _ _ _ z _ rfl rfl own4 rfl (by omega) bel4.size ?_; intro A3 c3 w5 hown5 hgrow5) | (go_at_call 134; refine (C3.out _).mono ?_; rintro e w' ⟨rfl, rfl⟩))
      go_roundw
      case rel => exact ⟨t + 1, by omega, by go_num, q2, rfl, HS2.out.symm, A3, c3, rfl, by rw [HAL.out]; exact hown5, bel4.grown hgrow5 bel4.size (fun j hj => (own4.block j hj).1)⟩
      case measure => simp [intOf] <;> omega
    · obtain rfl : t = n := by omega
      go_wp2
      go_ret
      exact ⟨A1, c1, rfl, hown, hbel⟩
end Go.Proofs.YtcmoedhpedlalaaDoor
