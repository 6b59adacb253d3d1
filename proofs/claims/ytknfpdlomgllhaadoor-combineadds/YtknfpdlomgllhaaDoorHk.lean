/-
  The reference of layer 13: New, DocAdd.
-/
import Derived.Test.YtknfpdlomgllhaaDoorUb
import Derived.Test.YtknfpdlomgllhaaDoorPa
namespace Go.Proofs.YtknfpdlomgllhaaDoor
open Go.RowKit
set_option maxRecDepth 100000
set_option linter.unusedVariables false
set_option linter.unusedSimpArgs false

/-- The reference's Buffer, as cells. -/
def RF (n : Nat) (S : Value) (c : Nat → Nat) : Array Value := #[.int .i64 (n : Int), S, .int .i64 ((c 0 : Nat) : Int), .int .i64 ((c 1 : Nat) : Int), .int .i64 ((c 2 : Nat) : Int), .int .i64 ((c 3 : Nat) : Int)]
/-- The reference's Buffer to which a row of versions came. -/
structure RBufS (w : World) (gR n : Nat) (row : List (Nat × List Nat)) (gs : Nat) : Prop where
  blk : Blk w gR 54 (RF n (.slice (some ⟨gs, 0, none⟩) (4 * (n + 6)) (4 * (n + 6))) (Cv.cv row))
  sums : Blk w gs 3 (W4 (Cv.softs (n + 6) row))
  ne : gs ≠ gR
theorem RBufS.of_heap {w w' : World} {gR n gs : Nat} {row : List (Nat × List Nat)} (h : RBufS w gR n row gs) (h1 : w'.heap[gR]? = w.heap[gR]?) (h2 : w'.heap[gs]? = w.heap[gs]?) : RBufS w' gR n row gs := ⟨h1.trans h.blk, h2.trans h.sums, h.ne⟩
theorem RBufS.after {w w' : World} {gR n gs : Nat} {row : List (Nat × List Nat)} (h : RBufS w gR n row gs) (hb : Below w.heap.size w w') : RBufS w' gR n row gs := ⟨h.blk.after hb, h.sums.after hb, h.ne⟩
theorem RF_set (n : Nat) (row : List (Nat × List Nat)) (S : Value) (v : Nat) (p : List Nat) (hv : v < 4) : (RF n S (Cv.cv row)).setIfInBounds (2 + v) (.int .i64 ((Cv.cv row v + 1 : Nat) : Int)) = RF n S (Cv.cv (row ++ [(v, p)])) := by
  have h : v = 0 ∨ v = 1 ∨ v = 2 ∨ v = 3 := by omega
  unfold RF
  rcases h with rfl | rfl | rfl | rfl <;> simp [Cv.cv_snoc]
theorem RF_cell (n : Nat) (c : Nat → Nat) (S : Value) (v : Nat) (hv : v < 4) : (RF n S c)[2 + v]? = some (.int .i64 ((c v : Nat) : Int)) := by
  have h : v = 0 ∨ v = 1 ∨ v = 2 ∨ v = 3 := by omega
  rcases h with rfl | rfl | rfl | rfl <;> rfl
theorem softs_nil (T : Nat) : Cv.softs T [] = List.replicate (4 * T) 0 := rfl
set_option maxHeartbeats 400000 in
/-- The reference's New. -/
theorem rNew13 (n : Nat) (w : World) (hn : n ≤ 4096) : Calls Tryd.prog 23 #[.int .i64 (n : Int)] w fun e w' => ∃ gR gs, e = .returned (.pointer (some ⟨gR, 0, none⟩)) ∧ RBufS w' gR n [] gs ∧ Below w.heap.size w w' ∧ w.heap.size ≤ gR ∧ w.heap.size ≤ gs := by
  obtain ⟨i0, hi0, hz0, hz1, hz2⟩ := info_parts info3
  obtain ⟨N, hN⟩ : ∃ N, N = 4 * (n + 6) := ⟨_, rfl⟩
  have e1 : (4 : Int) * ((n : Int) + 6) = (N : Int) := by omega
  have hN2 : N ≤ 20000 := by omega
  have HN := Lib.hid hN
  clear hN
  go_enter Tryd.func23, Tryd.ntmps23
  go_wp2_with (first
    | (at_make; refine wpList_make_full _ rfl _ _ 39 rfl w.heap.size 3 i0 (.int .i64 0) 1 Tryd.underlying39 hi0 hz0 hz1 .i64 .i64 _ _ N rfl rfl (by first | rfl | omega) (by first | rfl | omega) (by rw [hz2]; omega) (by unfold maxLen; omega) (Nat.le_refl _) ?_; intro w0 hown0 hgrow0)
    | (refine at_box rfl 54 _ rfl (RF n (.slice (some ⟨w.heap.size, 0, none⟩) N N) (Cv.cv [])) rfl ?_; intro w1 h1))
  have hbel0 : Below w.heap.size w w0 := (Below.refl _ _).grown hgrow0 (Nat.le_refl _) (fun k h => by cases h)
  have q0 : Blk w0 w.heap.size 3 (W4 (List.replicate N 0)) := by
    rw [made64z] at hown0
    exact own_blk64 (n := N) ⟨hown0⟩
  go_ret
  have hlt := q0.lt
  refine ⟨w0.heap.size, w.heap.size, rfl, ⟨?_, ?_, by omega⟩, Below.then_ hbel0 h1.bel, hbel0.size, Nat.le_refl _⟩
  · rw [← HN.out]; exact h1.row
  · have := q0.after h1.bel
    rw [HN.out] at this
    exact this
set_option maxHeartbeats 2000000 in
set_option maxRecDepth 100000 in
/-- The reference's Add. -/
theorem docAdd (gR n v T c gs b off : Nat) (row : List (Nat × List Nat)) (p : List Nat) (w : World) (hB : RBufS w gR n row gs) (hn : n ≤ 4096) (hrl : row.length ≤ 30) (hv : v < 4) (hT : T = n + 6) (hr : Rd w w.heap.size (some ⟨b, off, none⟩) T (U8 p)) (hp : ∀ x ∈ p, x ≤ 1) (hbB : b ≠ gR) (hgsb : b ≠ gs) (hbl : b < w.heap.size) :
    Calls Tryd.prog 26 #[.pointer (some ⟨gR, 0, none⟩), .int .i64 (v : Int), .slice (some ⟨b, off, none⟩) T c] w fun e w' => e = .returned (.tuple #[]) ∧ RBufS w' gR n (row ++ [(v, p)]) gs ∧ Kp w w' gR (some gs) := by
  have hl := Cv.softs_length (n + 6) row
  have HZB : Hid (∀ k, -30 ≤ (Cv.softs (n + 6) row).getD k 0 ∧ (Cv.softs (n + 6) row).getD k 0 ≤ 30) := fun k => by
    by_cases hk : k < (Cv.softs (n + 6) row).length
    · rw [Bm.getD_lt _ _ _ hk]
      have := Cv.softs_in (n + 6) row _ (List.getElem_mem hk)
      omega
    · rw [Bm.getD_ge _ _ _ (by omega)]; omega
  have HSN : Hid (Cv.softs (n + 6) (row ++ [(v, p)]) = Cv.addv (Cv.softs (n + 6) row) (v, p)) := Cv.softs_snoc _ _ _
  have HBF := Lib.hid (fun S => RF_set n row S v p hv)
  have hcl := cv_le row v
  have hT2 : T ≤ 5000 := by omega
  have hT6 : 6 ≤ T := by omega
  obtain ⟨N, hN⟩ : ∃ N, N = 4 * (n + 6) := ⟨_, rfl⟩
  have HN := Lib.hid hN
  have HNT : Hid (N = 4 * T) := by unfold Hid; omega
  have HLT : Hid ((Cv.softs (n + 6) row).length = 4 * T) := by unfold Hid; rw [hl, hT]
  have hN2 : N ≤ 20000 := by omega
  have HQB5 : Hid (Blk w gR 54 (RF n (.slice (some ⟨gs, 0, none⟩) N N) (Cv.cv row))) := by unfold Hid; rw [hN]; exact hB.blk
  have qs := hB.sums
  have hgsB := hB.ne
  have HCP5 : Hid (∀ t, t < T → w.cell? ⟨b, off + t, none⟩ = some (.int .u8 ((p.getD t 0 : Nat) : Int))) := fun t ht => by
    obtain ⟨bb, oo, e, _, hc⟩ := hr.cell8 t ht
    injection e with e
    injection e with e1 e2
    subst e1 e2
    exact hc
  clear hT hN hB hl
  generalize hll : Cv.softs (n + 6) row = l at *
  have HLL := Lib.hid hll.symm
  clear hll
  have hup0 : Upd w w gs 3 (W4 (adt l v p 0)) := by rw [adt_none]; exact Upd.self qs
  have HUP := Lib.hid hup0
  have HK5 := Lib.hid (HQB5.out.cell 1)
  clear hup0 qs
  go_enter Tryd.func26, Tryd.ntmps26
  go_wp2
  go_loopw [6] (fun x wr => ∃ t : Nat, t ≤ T ∧ x = .int .i64 t ∧ Upd w wr gs 3 (W4 (adt l v p t))) (fun x _ => T - (intOf x).toNat)
  case atStart => exact ⟨0, by omega, rfl, HUP.out⟩
  case round =>
    obtain ⟨t, ht, rfl, hup⟩ := hrel
    have k5r : wr.cell? ⟨gR, 1, none⟩ = some (.slice (some ⟨gs, 0, none⟩) N N) := (cell_of_heap (hup.oth gR (Ne.symm hgsB)) 1).trans (HK5.out.trans rfl)
    by_cases hlt : t < T
    · have hst := Cv.st_lt v t
      have kp := (cell_of_heap (hup.oth b hgsb) (off + t)).trans (HCP5.out t hlt)
      obtain ⟨ha1, ha2⟩ := adt_at l v p T t HLT.out hv hlt
      have hzb := HZB.out (4 * t + Cv.st v t)
      have hpl : 4 * t + Cv.st v t < N := by have := HNT.out; omega
      have q := hup.row
      have kq := (q.cell (4 * t + Cv.st v t)).trans (W4_get _ _ (by rw [adt_length, HLT.out, ← HNT.out]; exact hpl))
      rw [ha1] at kq
      have sz0 : 4 * t + Cv.st v t < (W4 (adt l v p t)).size := by rw [W4_size, adt_length, HLT.out, ← HNT.out]; exact hpl
      have HSET := Lib.hid ha2
      have CSt := Lib.hid (fun W => refStream v t W hv (by omega))
      have COf := Lib.hid (fun W => refOf (p.getD t 0) W)
      rw [sn_val] at COf
      obtain ⟨x, hx⟩ : ∃ x, x = p.getD t 0 := ⟨_, rfl⟩
      rw [← hx] at COf kp HSET
      have hsn : Cv.sn x = 1 ∨ Cv.sn x = -1 := by unfold Cv.sn; split <;> simp
      obtain ⟨y, hy⟩ : ∃ y, y = l.getD (4 * t + Cv.st v t) 0 := ⟨_, rfl⟩
      rw [← hy] at kq hzb HSET
      have CAd := Lib.hid (fun W => refAdd y (Cv.sn x) W)
      have hcl2 : Cv.clip (Cv.clip y + Cv.clip (Cv.sn x)) = y + Cv.sn x := by
        rw [Cv.clip_in (z := y) (by omega) (by omega), Cv.clip_in (z := Cv.sn x) (by omega) (by omega), Cv.clip_in (by omega) (by omega)]
      rw [hcl2] at CAd
      obtain ⟨y2, hy2⟩ : ∃ y2, y2 = y + Cv.sn x := ⟨_, rfl⟩
      rw [← hy2] at CAd HSET
      obtain ⟨M, hM⟩ : ∃ M, M = adt l v p t := ⟨_, rfl⟩
      rw [← hM] at q sz0 HSET
      obtain ⟨p', hpp⟩ : ∃ p', p' = 4 * t + Cv.st v t := ⟨_, rfl⟩
      have e4 : 4 * (t : Int) + ((Cv.st v t : Nat) : Int) = (p' : Int) := by omega
      rw [← hpp] at kq sz0 HSET hpl
      generalize Cv.st v t = s0 at *
      have f64 : IntKind.i64.wrap (p' : Int) = (p' : Int) := IntWalk.i64_in _ (by omega)
      have f1 : (t : Int) < (T : Int) := by omega
      have f2 : (p' : Int) < (N : Int) := by omega
      have dt : decide ((t : Int) < (T : Int)) = true := by simp <;> omega
      generalize Cv.sn x = s1 at *
      clear hx hy hcl2 hy2 hM hpp ha1 ha2 hsn
      go_upto_region 4 with (go_at_call 61; refine (CSt.out _).mono ?_; rintro e w' ⟨rfl, rfl⟩)
      have hS0 : wr.drew.cell? ⟨gR, 1, none⟩ = some (.slice (some ⟨gs, 0, none⟩) N N) ∧ wr.drew.cell? ⟨b, off + t, none⟩ = some (.int .u8 (x : Int)) := ⟨k5r, kp⟩
      have HK : Hid (∀ W : World, (∀ k, k ≠ gs → W.heap[k]? = wr.drew.heap[k]?) → W.cell? ⟨gR, 1, none⟩ = some (.slice (some ⟨gs, 0, none⟩) N N) ∧ W.cell? ⟨b, off + t, none⟩ = some (.int .u8 (x : Int))) := fun W h => ⟨(cell_of_heap (h gR (Ne.symm hgsB)) 1).trans k5r, (cell_of_heap (h b hgsb) (off + t)).trans kp⟩
      have kq0 : wr.drew.cell? ⟨gs, p', none⟩ = some (.int .i64 y) := kq
      have q0 : Blk wr.drew gs 3 (W4 M) := q.drew
      have sz := sz0
      clear kq q k5r kp sz0
      refine wp_region_noPanic ?_
      refine wp_region_held_drew (S := fun W => W.cell? ⟨gR, 1, none⟩ = some (.slice (some ⟨gs, 0, none⟩) N N) ∧ W.cell? ⟨b, off + t, none⟩ = some (.int .u8 (x : Int))) (by kernel_rfl) hS0 (fun hHeld => ?_)
      refine wpAnyH_take (i := 0) (oi := ⟨some 20, _, _, _, _, _⟩) (v := ?_) rfl (by kernel_rfl) (by kernel_rfl) (by kernel_rfl) (fun _ _ _ h => h) (Or.inl ⟨by rfl, ?_⟩) hHeld ?_
      rotate_left
      · intro W hSW; obtain ⟨hSW0, hSW1⟩ := hSW; go_simp; first | done | with_reducible rfl
      (try simp only [Act.put, List.setIfInBounds_toArray, List.set_cons_zero, List.set_cons_succ])
      refine wpAnyH_take (i := 1) (oi := ⟨some 21, _, _, _, _, _⟩) (v := ?_) rfl (by kernel_rfl) (by kernel_rfl) (by kernel_rfl) (fun _ _ _ h => h) (Or.inl ⟨by rfl, ?_⟩) hHeld ?_
      rotate_left
      · intro W hSW; obtain ⟨hSW0, hSW1⟩ := hSW; go_simp; first | done | with_reducible rfl
      (try simp only [Act.put, List.setIfInBounds_toArray, List.set_cons_zero, List.set_cons_succ])
      refine wpAnyH_take (i := 2) (oi := ⟨some 22, _, _, _, _, _⟩) (v := ?_) rfl (by kernel_rfl) (by kernel_rfl) (by kernel_rfl) (fun _ _ _ h => h) (Or.inl ⟨by rfl, ?_⟩) hHeld ?_
      rotate_left
      · intro W hSW; obtain ⟨hSW0, hSW1⟩ := hSW; go_simp; first | done | with_reducible rfl
      (try simp only [Act.put, List.setIfInBounds_toArray, List.set_cons_zero, List.set_cons_succ])
      refine wpAnyH_take (i := 3) (oi := ⟨some 23, _, _, _, _, _⟩) (v := ?_) rfl (by kernel_rfl) (by kernel_rfl) (by kernel_rfl) (fun _ _ _ h => h) (Or.inl ⟨by rfl, ?_⟩) hHeld ?_
      rotate_left
      · intro W hSW; obtain ⟨hSW0, hSW1⟩ := hSW; go_simp; first | done | with_reducible rfl
      (try simp only [Act.put, List.setIfInBounds_toArray, List.set_cons_zero, List.set_cons_succ])
      refine wpAnyH_take (i := 4) (oi := ⟨some 24, _, _, _, _, _⟩) (v := ?_) rfl (by kernel_rfl) (by kernel_rfl) (by kernel_rfl) (fun _ _ _ h => h) (Or.inl ⟨by rfl, ?_⟩) hHeld ?_
      rotate_left
      · intro W hSW; obtain ⟨hSW0, hSW1⟩ := hSW; go_simp; first | done | with_reducible rfl
      (try simp only [Act.put, List.setIfInBounds_toArray, List.set_cons_zero, List.set_cons_succ])
      refine wpAnyH_take (i := 5) (oi := ⟨some 25, _, _, _, _, _⟩) (v := ?_) rfl (by kernel_rfl) (by kernel_rfl) (by kernel_rfl) (fun _ _ _ h => h) (Or.inl ⟨by rfl, ?_⟩) hHeld ?_
      rotate_left
      · intro W hSW; obtain ⟨hSW0, hSW1⟩ := hSW; go_simp; first | done | with_reducible rfl
      (try simp only [Act.put, List.setIfInBounds_toArray, List.set_cons_zero, List.set_cons_succ])
      refine wpAnyH_take (i := 6) (oi := ⟨some 26, _, _, _, _, _⟩) (v := ?_) rfl (by kernel_rfl) (by kernel_rfl) (by kernel_rfl) (fun _ _ _ h => h) (Or.inl ⟨by rfl, ?_⟩) hHeld ?_
      rotate_left
      · intro W hSW; obtain ⟨hSW0, hSW1⟩ := hSW; go_simp; first | done | with_reducible rfl
      (try simp only [Act.put, List.setIfInBounds_toArray, List.set_cons_zero, List.set_cons_succ])
      refine wpAnyH_take (i := 7) (oi := ⟨some 27, _, _, _, _, _⟩) (v := ?_) rfl (by kernel_rfl) (by kernel_rfl) (by kernel_rfl) (fun _ _ _ h => h) (Or.inl ⟨by rfl, ?_⟩) hHeld ?_
      rotate_left
      · intro W hSW; obtain ⟨hSW0, hSW1⟩ := hSW; go_simp; first | done | with_reducible rfl
      (try simp only [Act.put, List.setIfInBounds_toArray, List.set_cons_zero, List.set_cons_succ])
      refine wpAnyH_take (i := 8) (oi := ⟨some 28, _, _, _, _, _⟩) (v := ?_) rfl (by kernel_rfl) (by kernel_rfl) (by kernel_rfl) (fun _ _ _ h => h) (Or.inl ⟨by rfl, ?_⟩) hHeld ?_
      rotate_left
      · intro W hSW; obtain ⟨hSW0, hSW1⟩ := hSW; go_simp; first | done | with_reducible rfl
      (try simp only [Act.put, List.setIfInBounds_toArray, List.set_cons_zero, List.set_cons_succ])
      refine wpAnyH_take (i := 9) (oi := ⟨some 29, _, _, _, _, _⟩) (v := ?_) rfl (by kernel_rfl) (by kernel_rfl) (by kernel_rfl) (fun _ _ _ h => h) (Or.inl ⟨by rfl, ?_⟩) hHeld ?_
      rotate_left
      · intro W hSW; obtain ⟨hSW0, hSW1⟩ := hSW; go_simp; first | done | with_reducible rfl
      (try simp only [Act.put, List.setIfInBounds_toArray, List.set_cons_zero, List.set_cons_succ])
      refine wpAnyH_take (i := 10) (oi := ⟨some 30, _, _, _, _, _⟩) (v := ?_) rfl (by kernel_rfl) (by kernel_rfl) (by kernel_rfl) (fun _ _ _ h => h) (Or.inl ⟨by rfl, ?_⟩) hHeld ?_
      rotate_left
      · intro W hSW; obtain ⟨hSW0, hSW1⟩ := hSW; go_simp; first | done | with_reducible rfl
      (try simp only [Act.put, List.setIfInBounds_toArray, List.set_cons_zero, List.set_cons_succ])
      refine wpAnyH_take (i := 12) (oi := ⟨some 32, _, _, _, _, _⟩) (v := ?_) rfl (by kernel_rfl) (by kernel_rfl) (by kernel_rfl) (fun _ _ _ h => h) (Or.inl ⟨by rfl, ?_⟩) hHeld ?_
      rotate_left
      · intro W hSW; obtain ⟨hSW0, hSW1⟩ := hSW; go_simp; first | done | with_reducible rfl
      (try simp only [Act.put, List.setIfInBounds_toArray, List.set_cons_zero, List.set_cons_succ])
      refine wpAnyH_take (i := 13) (oi := ⟨some 33, _, _, _, _, _⟩) (v := ?_) rfl (by kernel_rfl) (by kernel_rfl) (by kernel_rfl) (fun _ _ _ h => h) (Or.inl ⟨by rfl, ?_⟩) hHeld ?_
      rotate_left
      · intro W hSW; obtain ⟨hSW0, hSW1⟩ := hSW; go_simp; first | done | with_reducible rfl
      (try simp only [Act.put, List.setIfInBounds_toArray, List.set_cons_zero, List.set_cons_succ])
      refine wpAnyH_take (i := 14) (oi := ⟨some 34, _, _, _, _, _⟩) (v := ?_) rfl (by kernel_rfl) (by kernel_rfl) (by kernel_rfl) (fun _ _ _ h => h) (Or.inl ⟨by rfl, ?_⟩) hHeld ?_
      rotate_left
      · intro W hSW; obtain ⟨hSW0, hSW1⟩ := hSW; go_simp; first | done | with_reducible rfl
      (try simp only [Act.put, List.setIfInBounds_toArray, List.set_cons_zero, List.set_cons_succ])
      refine wpAnyH_take (i := 15) (oi := ⟨some 35, _, _, _, _, _⟩) (v := ?_) rfl (by kernel_rfl) (by kernel_rfl) (by kernel_rfl) (fun _ _ _ h => h) (Or.inl ⟨by rfl, ?_⟩) hHeld ?_
      rotate_left
      · intro W hSW; obtain ⟨hSW0, hSW1⟩ := hSW; go_simp; first | done | with_reducible rfl
      (try simp only [Act.put, List.setIfInBounds_toArray, List.set_cons_zero, List.set_cons_succ])
      refine wpAnyH_ready (rs := [11, 16]) (by kernel_rfl) (by simp) ?_
      refine AllReadyH.cons (o := ⟨some 31, _, _, _, _, _⟩) rfl (fun K hK => ?_) (AllReadyH.cons (o := ⟨some 36, _, _, _, _, _⟩) rfl (fun K hK => ?_) (AllReadyH.nil))
      · go_simp
        clear hHeld
        refine hK.out _ _ ?_ (fun hHeld => ?_)
        · exact hS0
        clear hK K
        (try simp only [Act.put, List.setIfInBounds_toArray, List.set_cons_zero, List.set_cons_succ])
        refine wpAnyH_ready (rs := [16]) (by kernel_rfl) (by simp) ?_
        refine AllReadyH.cons (o := ⟨some 36, _, _, _, _, _⟩) rfl (fun K hK => ?_) (AllReadyH.nil)
        go_simp
        refine (COf.out _).mono ?_
        rintro e W' ⟨rfl, rfl⟩
        clear hHeld
        refine hK.out _ _ ?_ (fun hHeld => ?_)
        · exact hS0
        clear hK K
        (try simp only [Act.put, List.setIfInBounds_toArray, List.set_cons_zero, List.set_cons_succ])
        refine wpAnyH_ready (rs := [17]) (by kernel_rfl) (by simp) ?_
        refine AllReadyH.cons (o := ⟨some 37, _, _, _, _, _⟩) rfl (fun K hK => ?_) (AllReadyH.nil)
        go_simp
        refine (CAd.out _).mono ?_
        rintro e W' ⟨rfl, rfl⟩
        clear hHeld
        refine hK.out _ _ ?_ (fun hHeld => ?_)
        · exact hS0
        clear hK K
        (try simp only [Act.put, List.setIfInBounds_toArray, List.set_cons_zero, List.set_cons_succ])
        refine wpAnyH_take (i := 18) (oi := ⟨some 38, _, _, _, _, _⟩) (v := ?_) rfl (by kernel_rfl) (by kernel_rfl) (by kernel_rfl) (fun _ _ _ h => h) (Or.inl ⟨by rfl, ?_⟩) hHeld ?_
        rotate_left
        · intro W hSW; obtain ⟨hSW0, hSW1⟩ := hSW; go_simp; first | done | with_reducible rfl
        (try simp only [Act.put, List.setIfInBounds_toArray, List.set_cons_zero, List.set_cons_succ])
        refine wpAnyH_ready (rs := [19]) (by kernel_rfl) (by simp) ?_
        refine AllReadyH.cons (o := ⟨none, _, _, _, _, _⟩) rfl (fun K hK => ?_) (AllReadyH.nil)
        refine step_cell (by rfl) 3 _ _ (by rfl) gs p' (.int .i64 y2) (by rfl) (by rfl) 3 (W4 M) q0 sz info3one rfl ?_
        intro W6 h6
        clear hHeld
        refine hK.out _ _ ?_ (fun hHeld => ?_)
        · exact HK.out _ (fun k hk => h6.oth k hk)
        clear hK K
        (try simp only [Act.put, List.setIfInBounds_toArray, List.set_cons_zero, List.set_cons_succ])
        refine wpAnyH_done (by kernel_rfl) ?_ _
        refine NoPanic.normal ?_
        clear hHeld
        clear f64 e4
        go_wp2
        go_roundw
        case rel => exact ⟨t + 1, by omega, by go_num, by rw [← HSET.out, ← W4_setI]; exact (hup.drew).upd h6⟩
        case measure => simp [intOf] <;> omega
      · go_simp
        refine (COf.out _).mono ?_
        rintro e W' ⟨rfl, rfl⟩
        clear hHeld
        refine hK.out _ _ ?_ (fun hHeld => ?_)
        · exact hS0
        clear hK K
        (try simp only [Act.put, List.setIfInBounds_toArray, List.set_cons_zero, List.set_cons_succ])
        refine wpAnyH_ready (rs := [11]) (by kernel_rfl) (by simp) ?_
        refine AllReadyH.cons (o := ⟨some 31, _, _, _, _, _⟩) rfl (fun K hK => ?_) (AllReadyH.nil)
        go_simp
        clear hHeld
        refine hK.out _ _ ?_ (fun hHeld => ?_)
        · exact hS0
        clear hK K
        (try simp only [Act.put, List.setIfInBounds_toArray, List.set_cons_zero, List.set_cons_succ])
        refine wpAnyH_ready (rs := [17]) (by kernel_rfl) (by simp) ?_
        refine AllReadyH.cons (o := ⟨some 37, _, _, _, _, _⟩) rfl (fun K hK => ?_) (AllReadyH.nil)
        go_simp
        refine (CAd.out _).mono ?_
        rintro e W' ⟨rfl, rfl⟩
        clear hHeld
        refine hK.out _ _ ?_ (fun hHeld => ?_)
        · exact hS0
        clear hK K
        (try simp only [Act.put, List.setIfInBounds_toArray, List.set_cons_zero, List.set_cons_succ])
        refine wpAnyH_take (i := 18) (oi := ⟨some 38, _, _, _, _, _⟩) (v := ?_) rfl (by kernel_rfl) (by kernel_rfl) (by kernel_rfl) (fun _ _ _ h => h) (Or.inl ⟨by rfl, ?_⟩) hHeld ?_
        rotate_left
        · intro W hSW; obtain ⟨hSW0, hSW1⟩ := hSW; go_simp; first | done | with_reducible rfl
        (try simp only [Act.put, List.setIfInBounds_toArray, List.set_cons_zero, List.set_cons_succ])
        refine wpAnyH_ready (rs := [19]) (by kernel_rfl) (by simp) ?_
        refine AllReadyH.cons (o := ⟨none, _, _, _, _, _⟩) rfl (fun K hK => ?_) (AllReadyH.nil)
        refine step_cell (by rfl) 3 _ _ (by rfl) gs p' (.int .i64 y2) (by rfl) (by rfl) 3 (W4 M) q0 sz info3one rfl ?_
        intro W6 h6
        clear hHeld
        refine hK.out _ _ ?_ (fun hHeld => ?_)
        · exact HK.out _ (fun k hk => h6.oth k hk)
        clear hK K
        (try simp only [Act.put, List.setIfInBounds_toArray, List.set_cons_zero, List.set_cons_succ])
        refine wpAnyH_done (by kernel_rfl) ?_ _
        refine NoPanic.normal ?_
        clear hHeld
        clear f64 e4
        go_wp2
        go_roundw
        case rel => exact ⟨t + 1, by omega, by go_num, by rw [← HSET.out, ← W4_setI]; exact (hup.drew).upd h6⟩
        case measure => simp [intOf] <;> omega
    · have dt : decide ((t : Int) < (T : Int)) = false := by simp <;> omega
      have HTT : Hid (t = T) := by unfold Hid; omega
      have HKPF : Hid (Kp w wr gR (some gs)) := ⟨hup.os, hup.tape, hup.output, by rw [hup.size]; exact Nat.le_refl _, fun k _ _ h2 => hup.oth k (fun e => h2 (by rw [e]))⟩
      have HLAST : Hid (Blk wr.drew gs 3 (W4 (Cv.softs (n + 6) (row ++ [(v, p)])))) := by
        unfold Hid
        rw [HSN.out, ← adt_all l v p T HLT.out, ← HTT.out]
        exact hup.row.drew
      have qBr : Blk wr gR 54 (RF n (.slice (some ⟨gs, 0, none⟩) N N) (Cv.cv row)) := (hup.oth gR (Ne.symm hgsB)).trans HQB5.out
      have kc := (qBr.cell (2 + v)).trans (RF_cell n _ _ v hv)
      have qB0 : Blk wr.drew gR 54 (RF n (.slice (some ⟨gs, 0, none⟩) N N) (Cv.cv row)) := qBr.drew
      have szB : 2 + v < (RF n (.slice (some ⟨gs, 0, none⟩) N N) (Cv.cv row)).size := by show 2 + v < 6; omega
      obtain ⟨c0, hc0⟩ : ∃ c0, c0 = Cv.cv row v := ⟨_, rfl⟩
      obtain ⟨c1, hc1⟩ : ∃ c1, c1 = Cv.cv row v + 1 := ⟨_, rfl⟩
      rw [← hc0] at kc
      rw [← hc1] at HBF
      have f1 : IntKind.i64.wrap ((c0 : Int) + 1) = (c1 : Int) := by rw [IntWalk.i64_in _ (by omega)]; omega
      have ic := fun W => run_idx (P := Tryd.prog) (sz := 1) Tryd.underlying22 (by kernel_rfl) gR 2 v hv .i64 W
      simp only [Nat.one_mul] at ic
      have kc0 : wr.drew.cell? ⟨gR, 2 + v, none⟩ = some (.int .i64 (c0 : Int)) := kc
      clear hc0 hc1 kc qBr
      go_upto_region 5 with fail
      refine wp_region_noPanic ?_
      refine wp_region_held_drew (S := fun _ => True) (by kernel_rfl) trivial (fun hHeld => ?_)
      refine wpAnyH_take (i := 0) (oi := ⟨some 39, _, _, _, _, _⟩) (v := ?_) rfl (by kernel_rfl) (by kernel_rfl) (by kernel_rfl) (fun _ _ _ h => h) (Or.inl ⟨by rfl, ?_⟩) hHeld ?_
      rotate_left
      · intro W hSW; have hSW0 := hSW; go_simp; first | done | with_reducible rfl
      (try simp only [Act.put, List.setIfInBounds_toArray, List.set_cons_zero, List.set_cons_succ])
      refine wpAnyH_take (i := 1) (oi := ⟨some 40, _, _, _, _, _⟩) (v := ?_) rfl (by kernel_rfl) (by kernel_rfl) (by kernel_rfl) (fun _ _ _ h => h) (Or.inl ⟨by rfl, ?_⟩) hHeld ?_
      rotate_left
      · intro W hSW; have hSW0 := hSW; go_simp; first | done | with_reducible rfl
      (try simp only [Act.put, List.setIfInBounds_toArray, List.set_cons_zero, List.set_cons_succ])
      refine wpAnyH_take (i := 2) (oi := ⟨some 41, _, _, _, _, _⟩) (v := ?_) rfl (by kernel_rfl) (by kernel_rfl) (by kernel_rfl) (fun _ _ _ h => h) (Or.inl ⟨by rfl, ?_⟩) hHeld ?_
      rotate_left
      · intro W hSW; have hSW0 := hSW; go_simp; first | done | with_reducible rfl
      (try simp only [Act.put, List.setIfInBounds_toArray, List.set_cons_zero, List.set_cons_succ])
      refine wpAnyH_take (i := 3) (oi := ⟨some 42, _, _, _, _, _⟩) (v := ?_) rfl (by kernel_rfl) (by kernel_rfl) (by kernel_rfl) (fun _ _ _ h => h) (Or.inl ⟨by rfl, ?_⟩) hHeld ?_
      rotate_left
      · intro W hSW; have hSW0 := hSW; go_simp; first | done | with_reducible rfl
      (try simp only [Act.put, List.setIfInBounds_toArray, List.set_cons_zero, List.set_cons_succ])
      refine wpAnyH_take (i := 4) (oi := ⟨some 43, _, _, _, _, _⟩) (v := ?_) rfl (by kernel_rfl) (by kernel_rfl) (by kernel_rfl) (fun _ _ _ h => h) (Or.inl ⟨by rfl, ?_⟩) hHeld ?_
      rotate_left
      · intro W hSW; have hSW0 := hSW; go_simp; first | done | with_reducible rfl
      (try simp only [Act.put, List.setIfInBounds_toArray, List.set_cons_zero, List.set_cons_succ])
      refine wpAnyH_take (i := 7) (oi := ⟨some 46, _, _, _, _, _⟩) (v := ?_) rfl (by kernel_rfl) (by kernel_rfl) (by kernel_rfl) (fun _ _ _ h => h) (Or.inl ⟨by rfl, ?_⟩) hHeld ?_
      rotate_left
      · intro W hSW; have hSW0 := hSW; go_simp; first | done | with_reducible rfl
      (try simp only [Act.put, List.setIfInBounds_toArray, List.set_cons_zero, List.set_cons_succ])
      refine wpAnyH_take (i := 8) (oi := ⟨some 47, _, _, _, _, _⟩) (v := ?_) rfl (by kernel_rfl) (by kernel_rfl) (by kernel_rfl) (fun _ _ _ h => h) (Or.inl ⟨by rfl, ?_⟩) hHeld ?_
      rotate_left
      · intro W hSW; have hSW0 := hSW; go_simp; first | done | with_reducible rfl
      (try simp only [Act.put, List.setIfInBounds_toArray, List.set_cons_zero, List.set_cons_succ])
      refine wpAnyH_ready (rs := [5]) (by kernel_rfl) (by simp) ?_
      refine AllReadyH.cons (o := ⟨some 44, _, _, _, _, _⟩) rfl (fun K hK => ?_) (AllReadyH.nil)
      go_simp
      clear hHeld
      refine hK.out _ _ ?_ (fun hHeld => ?_)
      · trivial
      clear hK K
      (try simp only [Act.put, List.setIfInBounds_toArray, List.set_cons_zero, List.set_cons_succ])
      refine wpAnyH_take (i := 6) (oi := ⟨some 45, _, _, _, _, _⟩) (v := ?_) rfl (by kernel_rfl) (by kernel_rfl) (by kernel_rfl) (fun _ _ _ h => h) (Or.inl ⟨by rfl, ?_⟩) hHeld ?_
      rotate_left
      · intro W hSW; have hSW0 := hSW; go_simp; first | done | with_reducible rfl
      (try simp only [Act.put, List.setIfInBounds_toArray, List.set_cons_zero, List.set_cons_succ])
      refine wpAnyH_take (i := 9) (oi := ⟨some 48, _, _, _, _, _⟩) (v := ?_) rfl (by kernel_rfl) (by kernel_rfl) (by kernel_rfl) (fun _ _ _ h => h) (Or.inl ⟨by rfl, ?_⟩) hHeld ?_
      rotate_left
      · intro W hSW; have hSW0 := hSW; go_simp; first | done | with_reducible rfl
      (try simp only [Act.put, List.setIfInBounds_toArray, List.set_cons_zero, List.set_cons_succ])
      refine wpAnyH_ready (rs := [10]) (by kernel_rfl) (by simp) ?_
      refine AllReadyH.cons (o := ⟨none, _, _, _, _, _⟩) rfl (fun K hK => ?_) (AllReadyH.nil)
      refine step_cell (by rfl) 3 _ _ (by rfl) gR (2 + v) (.int .i64 (c1 : Int)) (by rfl) (by rfl) 54 (RF n (.slice (some ⟨gs, 0, none⟩) N N) (Cv.cv row)) qB0 szB info3one rfl ?_
      intro W7 h7
      clear hHeld
      refine hK.out _ _ ?_ (fun hHeld => ?_)
      · trivial
      clear hK K
      (try simp only [Act.put, List.setIfInBounds_toArray, List.set_cons_zero, List.set_cons_succ])
      refine wpAnyH_done (by kernel_rfl) ?_ _
      refine NoPanic.normal ?_
      clear hHeld
      have hB7 := h7.row
      rw [HBF.out] at hB7
      have HL7 := Lib.hid (h7.blk HLAST.out hgsB)
      have HK7 := Lib.hid (HKPF.out.trans (Kp.drewUpd h7) (.inl rfl))
      clear h7
      go_wp2
      refine bodyPost_end (v := .tuple #[]) (results_none rfl _ _ _) rfl ?_
      exact ⟨rfl, ⟨by rw [← HN.out]; exact hB7, HL7.out, hgsB⟩, HK7.out⟩
end Go.Proofs.YtknfpdlomgllhaaDoor
