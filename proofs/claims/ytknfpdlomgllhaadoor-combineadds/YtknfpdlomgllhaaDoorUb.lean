/-
  Layer 13: Add.
-/
import Derived.Test.YtknfpdlomgllhaaDoorUa
import Derived.Test.YtknfpdlomgllhaaDoorSz
import Derived.Test.YtknfpdlomgllhaaDoorMg
import Derived.Test.YtknfpdlomgllhaaDoorRr
import Derived.Deep.DeepCutAuto
namespace Go.Proofs.YtknfpdlomgllhaaDoor
open Go.RowKit
set_option maxRecDepth 100000
set_option linter.unusedVariables false
set_option linter.unusedSimpArgs false

theorem W4_setI (A : List Int) (j : Nat) (z : Int) : (W4 A).setIfInBounds j (.int .i64 z) = W4 (A.set j z) := by
  unfold W4 I64
  simp [List.map_set]
theorem set_getI (l : List Int) (i : Nat) (x : Int) (j : Nat) (h : i < l.length) : (l.set i x).getD j 0 = if i = j then x else l.getD j 0 := by
  by_cases hj : j < l.length
  · rw [Bm.getD_lt _ _ _ (by rw [List.length_set]; exact hj), Bm.getD_lt _ _ _ hj, List.getElem_set]
  · rw [Bm.getD_ge _ _ _ (by rw [List.length_set]; omega), Bm.getD_ge _ _ _ (by omega), if_neg (by omega)]
theorem Upd.drew {w w' : World} {g : Nat} {t : TypeId} {cs : Array Value} (h : Upd w w' g t cs) : Upd w w'.drew g t cs := ⟨h.size, h.row.drew, h.oth, h.os, h.tape, h.output⟩
theorem Upd.upd {w w1 w2 : World} {g : Nat} {t t2 : TypeId} {cs ds : Array Value} (h : Upd w w1 g t cs) (h2 : Upd w1 w2 g t2 ds) : Upd w w2 g t2 ds :=
  ⟨h2.size.trans h.size, h2.row, fun k hk => (h2.oth k hk).trans (h.oth k hk), h2.os.trans h.os, h2.tape.trans h.tape, h2.output.trans h.output⟩
theorem Upd.self {w : World} {g : Nat} {t : TypeId} {cs : Array Value} (h : Blk w g t cs) : Upd w w g t cs := ⟨rfl, h, fun _ _ => rfl, rfl, rfl, rfl⟩
theorem Kp.drewUpd {w w' : World} {g : Nat} {t : TypeId} {cs : Array Value} {o : Option Nat} (h : Upd w.drew w' g t cs) : Kp w w' g o :=
  ⟨h.os, h.tape, h.output, by rw [h.size]; exact Nat.le_refl _, fun k hk h1 _ => h.oth k h1⟩
theorem cell_of_heap {w w' : World} {g : Nat} (h : w'.heap[g]? = w.heap[g]?) (i : Nat) : w'.cell? ⟨g, i, none⟩ = w.cell? ⟨g, i, none⟩ := by
  simp only [World.cell?, h]
/-- The sums, with the first bits of a version added. -/
def adt (l : List Int) (v : Nat) (p : List Nat) (t : Nat) : List Int := (List.range l.length).map fun k => if Cv.vr (k % 4) (k / 4) = v ∧ k / 4 < t then l.getD k 0 + Cv.sn (p.getD (k / 4) 0) else l.getD k 0
theorem adt_length (l : List Int) (v : Nat) (p : List Nat) (t : Nat) : (adt l v p t).length = l.length := by simp [adt]
theorem adt_get (l : List Int) (v : Nat) (p : List Nat) (t k : Nat) (h : k < l.length) : (adt l v p t).getD k 0 = if Cv.vr (k % 4) (k / 4) = v ∧ k / 4 < t then l.getD k 0 + Cv.sn (p.getD (k / 4) 0) else l.getD k 0 := by simp [adt, List.getD, h]
theorem adt_none (l : List Int) (v : Nat) (p : List Nat) : adt l v p 0 = l := by
  refine Cv.ext_int (adt_length l v p 0) fun k hk => ?_
  rw [adt_length] at hk
  rw [adt_get l v p 0 k hk, if_neg (by omega)]
theorem adt_all (l : List Int) (v : Nat) (p : List Nat) (T : Nat) (hl : l.length = 4 * T) : adt l v p T = Cv.addv l (v, p) := by
  refine Cv.ext_int (by rw [adt_length, Cv.addv_length]) fun k hk => ?_
  rw [adt_length] at hk
  rw [adt_get l v p T k hk, Cv.addv_get l (v, p) k hk]
  unfold Cv.ctr
  by_cases h : Cv.vr (k % 4) (k / 4) = v
  · rw [if_pos ⟨h, by omega⟩, if_pos h]
  · rw [if_neg (fun hc => h hc.1), if_neg h, Int.add_zero]
theorem adt_at (l : List Int) (v : Nat) (p : List Nat) (T t : Nat) (hl : l.length = 4 * T) (hv : v < 4) (ht : t < T) : (adt l v p t).getD (4 * t + Cv.st v t) 0 = l.getD (4 * t + Cv.st v t) 0 ∧ (adt l v p t).set (4 * t + Cv.st v t) (l.getD (4 * t + Cv.st v t) 0 + Cv.sn (p.getD t 0)) = adt l v p (t + 1) := by
  have hs := Cv.st_lt v t
  have e1 : (4 * t + Cv.st v t) % 4 = Cv.st v t := by omega
  have e2 : (4 * t + Cv.st v t) / 4 = t := by omega
  have hp : 4 * t + Cv.st v t < l.length := by omega
  constructor
  · rw [adt_get l v p t _ hp, e1, e2, if_neg (by omega)]
  · refine Cv.ext_int (by rw [List.length_set, adt_length, adt_length]) fun k hk => ?_
    rw [List.length_set, adt_length] at hk
    rw [set_getI _ _ _ _ (by rw [adt_length]; exact hp), adt_get l v p (t + 1) k hk, adt_get l v p t k hk]
    by_cases h : 4 * t + Cv.st v t = k
    · subst h
      rw [if_pos rfl, e1, e2, Cv.vr_st v t hv, if_pos ⟨rfl, by omega⟩]
    · rw [if_neg h]
      by_cases hv2 : Cv.vr (k % 4) (k / 4) = v
      · have hne : k / 4 ≠ t := by
          intro hc
          apply h
          have := Cv.st_vr (k % 4) (k / 4) (by omega)
          rw [hv2, hc] at this
          omega
        by_cases hlt : k / 4 < t
        · rw [if_pos ⟨hv2, hlt⟩, if_pos ⟨hv2, by omega⟩]
        · rw [if_neg (by omega), if_neg (by omega)]
      · rw [if_neg (fun hc => hv2 hc.1), if_neg (fun hc => hv2 hc.1)]
theorem BF_set (n : Nat) (row : List (Nat × List Nat)) (S : Value) (v : Nat) (p : List Nat) (hv : v < 4) : (BF n (Cv.cv row) S).setIfInBounds (1 + v) (.int .i64 ((Cv.cv row v + 1 : Nat) : Int)) = BF n (Cv.cv (row ++ [(v, p)])) S := by
  have h : v = 0 ∨ v = 1 ∨ v = 2 ∨ v = 3 := by omega
  unfold BF
  rcases h with rfl | rfl | rfl | rfl <;> simp [Cv.cv_snoc]
theorem BF_cell (n : Nat) (c : Nat → Nat) (S : Value) (v : Nat) (hv : v < 4) : (BF n c S)[1 + v]? = some (.int .i64 ((c v : Nat) : Int)) := by
  have h : v = 0 ∨ v = 1 ∨ v = 2 ∨ v = 3 := by omega
  rcases h with rfl | rfl | rfl | rfl <;> rfl
theorem cv_le (row : List (Nat × List Nat)) (v : Nat) : Cv.cv row v ≤ row.length := List.length_filter_le _ _
theorem sn_val (x : Nat) : (if x = 0 then (1 : Int) else -1) = Cv.sn x := rfl
theorem nil_nil : ∀ W, (binOp .eql 39 (.slice none 0 0) (.slice none 0 0)).run Tryd.prog W = .ok (.bool true) W := fun _ => by kernel_rfl
theorem some_nil (g n c : Nat) : ∀ W, (binOp .eql 39 (.slice (some ⟨g, 0, none⟩) n c) (.slice none 0 0)).run Tryd.prog W = .ok (.bool false) W := fun _ => by kernel_rfl
/-- What Add gives. -/
def AddOk (w : World) (gB n : Nat) (row : List (Nat × List Nat)) (S : Value) (v : Nat) (p : List Nat) (e : Ending) (w' : World) : Prop := e = .returned (.int .i64 0) ∧ ∃ S', BufS w' gB n (row ++ [(v, p)]) S' ∧ Kp w w' gB S.ownBlock ∧ (S'.ownBlock = S.ownBlock ∨ ∃ k, S'.ownBlock = some k ∧ w.heap.size ≤ k)
set_option maxHeartbeats 2000000 in
set_option maxRecDepth 100000 in
/-- (*Buffer).Add, the first. -/
theorem add0 (gB n v T c : Nat) (b off : Nat) (row : List (Nat × List Nat)) (p : List Nat) (w : World) (hB : BufS w gB n row (.slice none 0 0)) (hn : n ≤ 4096) (hrl : row.length ≤ 30) (hv : v < 4) (hT : T = n + 6) (hr : Rd w w.heap.size (some ⟨b, off, none⟩) T (U8 p)) (hp : ∀ x ∈ p, x ≤ 1) (hbB : b ≠ gB) (hbl : b < w.heap.size) :
    Calls Tryd.prog 18 #[.pointer (some ⟨gB, 0, none⟩), .int .i64 (v : Int), .slice (some ⟨b, off, none⟩) T c] w (AddOk w gB n row (.slice none 0 0) v p) := by
  have hl := Cv.softs_length (n + 6) row
  have HZB : Hid (∀ k, -30 ≤ (Cv.softs (n + 6) row).getD k 0 ∧ (Cv.softs (n + 6) row).getD k 0 ≤ 30) := fun k => by
    by_cases hk : k < (Cv.softs (n + 6) row).length
    · rw [Bm.getD_lt _ _ _ hk]
      have := Cv.softs_in (n + 6) row _ (List.getElem_mem hk)
      omega
    · rw [Bm.getD_ge _ _ _ (by omega)]; omega
  have HSN : Hid (Cv.softs (n + 6) (row ++ [(v, p)]) = Cv.addv (Cv.softs (n + 6) row) (v, p)) := Cv.softs_snoc _ _ _
  have CB := Lib.hid (fun W => vBits n W (by omega))
  rw [← hT] at CB
  have CPl := Lib.hid (fun W => patPlaces v T W hv (by omega))
  have CR := Lib.hid (fun (W : World) (hb : Below w.heap.size w W) => right (some ⟨b, off, none⟩) T c p W ((hr.below hb).up hb.size) (bit256 hp) (by omega))
  rw [Bm.isB_of hp] at CR
  have k0 : w.cell? ⟨gB, 0, none⟩ = some (.int .i64 (n : Int)) := hB.blk.cell 0
  have HBF := Lib.hid (fun S => BF_set n row S v p hv)
  have hcl := cv_le row v
  have t1 : ((T : Int) != (T : Int)) = false := by simp
  have hT2 : T ≤ 5000 := by omega
  have hT6 : 6 ≤ T := by omega
  obtain ⟨N, hN⟩ : ∃ N, N = 4 * (n + 6) := ⟨_, rfl⟩
  have HN := Lib.hid hN
  have HNT : Hid (N = 4 * T) := by unfold Hid; omega
  have HLT : Hid ((Cv.softs (n + 6) row).length = 4 * T) := by unfold Hid; rw [hl, hT]
  have hN2 : N ≤ 20000 := by omega
  clear hT hN
  go_enter Tryd.func18, Tryd.ntmps18
  go_upto_region 4 with (first | (go_at_call 56; refine (CB.out _).mono ?_; rintro e w' ⟨rfl, rfl⟩) | (go_at_call 55; refine (CPl.out _).mono ?_; rintro e w1 ⟨A7, c7, rfl, own7, b1⟩))
  have qB1 := hB.blk.after b1
  have k5 : w1.cell? ⟨gB, 5, none⟩ = some (.slice none 0 0) := qB1.cell 5
  have lB := hB.blk.lt
  obtain ⟨g7, hA7, hg7, hg7l, h7rest⟩ := own7.slot 0 (by omega)
  clear h7rest
  subst hA7
  have HC7 : Hid (∀ t, t < T → w1.cell? ⟨g7, t, none⟩ = some (.int .i64 ((4 * t + Cv.st v t : Nat) : Int))) := fun t ht => by
    obtain ⟨bb, oo, e, _, hc⟩ := own7.rd.cell64 t ht
    injection e with e
    injection e with e1 e2
    subst e1 e2
    rw [Nat.zero_add] at hc
    rw [hc, plc_get v T t ht]
  have HCP : Hid (∀ t, t < T → w1.cell? ⟨b, off + t, none⟩ = some (.int .u8 ((p.getD t 0 : Nat) : Int))) := fun t ht => by
    obtain ⟨bb, oo, e, _, hc⟩ := (hr.below b1).cell8 t ht
    injection e with e
    injection e with e1 e2
    subst e1 e2
    exact hc
  clear own7 k0 CB CPl
  have hnil := nil_nil
  have CSo := Lib.hid (softC gB n N (Cv.cv row) _ _ w1 qB1 (hB.after b1).sums hn HN.out (by rw [hl, HN.out]))
  clear hl
  generalize hll : Cv.softs (n + 6) row = l at *
  have HLL := Lib.hid hll.symm
  clear hll
  go_upto_region 11 with (go_at_call 57; refine (CR.out _ b1).mono ?_; rintro e w' ⟨rfl, rfl⟩)
  have szB5 : 5 < (BF n (Cv.cv row) (.slice none 0 0)).size := by show 5 < 6; omega
  go_upto_region 12 with (first | (go_at_call 19; refine CSo.out.mono ?_; rintro e w4 ⟨rfl, qs4, b4⟩) | (refine at_cell rfl 39 _ _ rfl gB 5 (.slice (some ⟨w1.heap.size, 0, none⟩) N N) rfl rfl 97 (BF n (Cv.cv row) (.slice none 0 0)) (qB1.after b4) szB5 infoBI rfl ?_; intro w5 h5))
  have hgsB : w1.heap.size ≠ gB := by have := b1.size; omega
  have hgs7 : g7 ≠ w1.heap.size := by omega
  have hgsb : b ≠ w1.heap.size := by have := b1.size; omega
  have hgsl : w.heap.size ≤ w1.heap.size := b1.size
  have qs5 := h5.blk qs4 hgsB
  have HQB5 : Hid (Blk w5 gB 97 (BF n (Cv.cv row) (.slice (some ⟨w1.heap.size, 0, none⟩) N N))) := h5.row
  have hg7B : g7 ≠ gB := by omega
  have HC75 : Hid (∀ t, t < T → w5.cell? ⟨g7, t, none⟩ = some (.int .i64 ((4 * t + Cv.st v t : Nat) : Int))) := fun t ht => (cell_of_heap ((h5.oth g7 hg7B).trans (b4.block g7 hg7l)) t).trans (HC7.out t ht)
  have HCP5 : Hid (∀ t, t < T → w5.cell? ⟨b, off + t, none⟩ = some (.int .u8 ((p.getD t 0 : Nat) : Int))) := fun t ht => (cell_of_heap ((h5.oth b hbB).trans (b4.block b (by have := b1.size; omega))) (off + t)).trans (HCP.out t ht)
  have HKP0 : Hid (Kp w w5 gB none) := ((Kp.of_below (g := gB) (o := none) (Below.then_ b1 b4)).trans ⟨h5.os, h5.tape, h5.output, by rw [h5.size]; exact Nat.le_refl _, fun k hk h1 _ => h5.oth k h1⟩ (.inl rfl))
  have hup0 : Upd w5 w5 w1.heap.size 3 (W4 (adt l v p 0)) := by rw [adt_none]; exact Upd.self qs5
  obtain ⟨gs, hgs⟩ : ∃ g, g = w1.heap.size := ⟨_, rfl⟩
  rw [← hgs] at hgsB hgs7 hgsb hgsl HQB5 hup0
  rw [← hgs]
  have HKO : Hid ((some gs : Option Nat) = none ∨ ∃ k, (some gs : Option Nat) = some k ∧ w.heap.size ≤ k) := .inr ⟨gs, rfl, hgsl⟩
  have HOWN : Hid ((Value.slice (some ⟨gs, 0, none⟩) N N).ownBlock = (Value.slice none 0 0).ownBlock ∨ ∃ k, (Value.slice (some ⟨gs, 0, none⟩) N N).ownBlock = some k ∧ w.heap.size ≤ k) := .inr ⟨gs, rfl, hgsl⟩
  clear h5 qs4 qs5 b4 CSo HC7 HCP k5 qB1 hgs
  have HUP := Lib.hid hup0
  have HK5 := Lib.hid (HQB5.out.cell 5)
  clear hup0
  go_wp2
  go_loopw [46] (fun x wr => ∃ t : Nat, t ≤ T ∧ x = .int .i64 t ∧ Upd w5 wr gs 3 (W4 (adt l v p t))) (fun x _ => T - (intOf x).toNat)
  case atStart => exact ⟨0, by omega, rfl, HUP.out⟩
  case round =>
    obtain ⟨t, ht, rfl, hup⟩ := hrel
    have k5r : wr.cell? ⟨gB, 5, none⟩ = some (.slice (some ⟨gs, 0, none⟩) N N) := (cell_of_heap (hup.oth gB (Ne.symm hgsB)) 5).trans (HK5.out.trans rfl)
    by_cases hlt : t < T
    · have hst := Cv.st_lt v t
      have k7 := (cell_of_heap (hup.oth g7 hgs7) t).trans (HC75.out t hlt)
      have kp := (cell_of_heap (hup.oth b hgsb) (off + t)).trans (HCP5.out t hlt)
      obtain ⟨ha1, ha2⟩ := adt_at l v p T t HLT.out hv hlt
      have hzb := HZB.out (4 * t + Cv.st v t)
      have hpl : 4 * t + Cv.st v t < N := by have := HNT.out; omega
      have q := hup.row
      have kq := (q.cell (4 * t + Cv.st v t)).trans (W4_get _ _ (by rw [adt_length, HLT.out, ← HNT.out]; exact hpl))
      rw [ha1] at kq
      have sz0 : 4 * t + Cv.st v t < (W4 (adt l v p t)).size := by rw [W4_size, adt_length, HLT.out, ← HNT.out]; exact hpl
      have HSET := Lib.hid ha2
      have COf := Lib.hid (fun W => softOf (p.getD t 0) W)
      rw [sn_val] at COf
      obtain ⟨x, hx⟩ : ∃ x, x = p.getD t 0 := ⟨_, rfl⟩
      rw [← hx] at COf kp HSET
      have hsn : Cv.sn x = 1 ∨ Cv.sn x = -1 := by unfold Cv.sn; split <;> simp
      obtain ⟨y, hy⟩ : ∃ y, y = l.getD (4 * t + Cv.st v t) 0 := ⟨_, rfl⟩
      rw [← hy] at kq hzb HSET
      have CAd := Lib.hid (fun W => softAdd y (Cv.sn x) W)
      have hcl2 : Cv.clip (Cv.clip y + Cv.clip (Cv.sn x)) = y + Cv.sn x := by
        rw [Cv.clip_in (z := y) (by omega) (by omega), Cv.clip_in (z := Cv.sn x) (by omega) (by omega), Cv.clip_in (by omega) (by omega)]
      rw [hcl2] at CAd
      obtain ⟨y2, hy2⟩ : ∃ y2, y2 = y + Cv.sn x := ⟨_, rfl⟩
      rw [← hy2] at CAd HSET
      obtain ⟨M, hM⟩ : ∃ M, M = adt l v p t := ⟨_, rfl⟩
      rw [← hM] at q sz0 HSET
      generalize hpp : 4 * t + Cv.st v t = p' at *
      have f64 : IntKind.i64.wrap (p' : Int) = (p' : Int) := IntWalk.i64_in _ (by omega)
      have f1 : (t : Int) < (T : Int) := by omega
      have f2 : (p' : Int) < (N : Int) := by omega
      have dt : decide ((t : Int) < (T : Int)) = true := by simp <;> omega
      generalize Cv.sn x = s1 at *
      clear hx hy hcl2 hy2 hM hpp ha1 ha2 hsn
      go_upto_region 15 with fail
      have hS0 : wr.drew.cell? ⟨gB, 5, none⟩ = some (.slice (some ⟨gs, 0, none⟩) N N) ∧ wr.drew.cell? ⟨b, off + t, none⟩ = some (.int .u8 (x : Int)) := ⟨k5r, kp⟩
      have HK : Hid (∀ W : World, (∀ k, k ≠ gs → W.heap[k]? = wr.drew.heap[k]?) → W.cell? ⟨gB, 5, none⟩ = some (.slice (some ⟨gs, 0, none⟩) N N) ∧ W.cell? ⟨b, off + t, none⟩ = some (.int .u8 (x : Int))) := fun W h => ⟨(cell_of_heap (h gB (Ne.symm hgsB)) 5).trans k5r, (cell_of_heap (h b hgsb) (off + t)).trans kp⟩
      have kq0 : wr.drew.cell? ⟨gs, p', none⟩ = some (.int .i64 y) := kq
      have q0 : Blk wr.drew gs 3 (W4 M) := q.drew
      have sz := sz0
      clear kq q k5r kp sz0
      refine wp_region_noPanic ?_
      refine wp_region_held_drew (S := fun W => W.cell? ⟨gB, 5, none⟩ = some (.slice (some ⟨gs, 0, none⟩) N N) ∧ W.cell? ⟨b, off + t, none⟩ = some (.int .u8 (x : Int))) (by kernel_rfl) hS0 (fun hHeld => ?_)
      refine wpAnyH_take (i := 0) (oi := ⟨some 51, _, _, _, _, _⟩) (v := ?_) rfl (by kernel_rfl) (by kernel_rfl) (by kernel_rfl) (fun _ _ _ h => h) (Or.inl ⟨by rfl, ?_⟩) hHeld ?_
      rotate_left
      · intro W hSW; obtain ⟨hSW0, hSW1⟩ := hSW; go_simp; first | done | with_reducible rfl
      (try simp only [Act.put, List.setIfInBounds_toArray, List.set_cons_zero, List.set_cons_succ])
      refine wpAnyH_take (i := 1) (oi := ⟨some 52, _, _, _, _, _⟩) (v := ?_) rfl (by kernel_rfl) (by kernel_rfl) (by kernel_rfl) (fun _ _ _ h => h) (Or.inl ⟨by rfl, ?_⟩) hHeld ?_
      rotate_left
      · intro W hSW; obtain ⟨hSW0, hSW1⟩ := hSW; go_simp; first | done | with_reducible rfl
      (try simp only [Act.put, List.setIfInBounds_toArray, List.set_cons_zero, List.set_cons_succ])
      refine wpAnyH_take (i := 2) (oi := ⟨some 53, _, _, _, _, _⟩) (v := ?_) rfl (by kernel_rfl) (by kernel_rfl) (by kernel_rfl) (fun _ _ _ h => h) (Or.inl ⟨by rfl, ?_⟩) hHeld ?_
      rotate_left
      · intro W hSW; obtain ⟨hSW0, hSW1⟩ := hSW; go_simp; first | done | with_reducible rfl
      (try simp only [Act.put, List.setIfInBounds_toArray, List.set_cons_zero, List.set_cons_succ])
      refine wpAnyH_take (i := 3) (oi := ⟨some 54, _, _, _, _, _⟩) (v := ?_) rfl (by kernel_rfl) (by kernel_rfl) (by kernel_rfl) (fun _ _ _ h => h) (Or.inl ⟨by rfl, ?_⟩) hHeld ?_
      rotate_left
      · intro W hSW; obtain ⟨hSW0, hSW1⟩ := hSW; go_simp; first | done | with_reducible rfl
      (try simp only [Act.put, List.setIfInBounds_toArray, List.set_cons_zero, List.set_cons_succ])
      refine wpAnyH_take (i := 4) (oi := ⟨some 55, _, _, _, _, _⟩) (v := ?_) rfl (by kernel_rfl) (by kernel_rfl) (by kernel_rfl) (fun _ _ _ h => h) (Or.inl ⟨by rfl, ?_⟩) hHeld ?_
      rotate_left
      · intro W hSW; obtain ⟨hSW0, hSW1⟩ := hSW; go_simp; first | done | with_reducible rfl
      (try simp only [Act.put, List.setIfInBounds_toArray, List.set_cons_zero, List.set_cons_succ])
      refine wpAnyH_take (i := 5) (oi := ⟨some 56, _, _, _, _, _⟩) (v := ?_) rfl (by kernel_rfl) (by kernel_rfl) (by kernel_rfl) (fun _ _ _ h => h) (Or.inl ⟨by rfl, ?_⟩) hHeld ?_
      rotate_left
      · intro W hSW; obtain ⟨hSW0, hSW1⟩ := hSW; go_simp; first | done | with_reducible rfl
      (try simp only [Act.put, List.setIfInBounds_toArray, List.set_cons_zero, List.set_cons_succ])
      refine wpAnyH_take (i := 6) (oi := ⟨some 57, _, _, _, _, _⟩) (v := ?_) rfl (by kernel_rfl) (by kernel_rfl) (by kernel_rfl) (fun _ _ _ h => h) (Or.inl ⟨by rfl, ?_⟩) hHeld ?_
      rotate_left
      · intro W hSW; obtain ⟨hSW0, hSW1⟩ := hSW; go_simp; first | done | with_reducible rfl
      (try simp only [Act.put, List.setIfInBounds_toArray, List.set_cons_zero, List.set_cons_succ])
      refine wpAnyH_take (i := 7) (oi := ⟨some 58, _, _, _, _, _⟩) (v := ?_) rfl (by kernel_rfl) (by kernel_rfl) (by kernel_rfl) (fun _ _ _ h => h) (Or.inl ⟨by rfl, ?_⟩) hHeld ?_
      rotate_left
      · intro W hSW; obtain ⟨hSW0, hSW1⟩ := hSW; go_simp; first | done | with_reducible rfl
      (try simp only [Act.put, List.setIfInBounds_toArray, List.set_cons_zero, List.set_cons_succ])
      refine wpAnyH_take (i := 8) (oi := ⟨some 59, _, _, _, _, _⟩) (v := ?_) rfl (by kernel_rfl) (by kernel_rfl) (by kernel_rfl) (fun _ _ _ h => h) (Or.inl ⟨by rfl, ?_⟩) hHeld ?_
      rotate_left
      · intro W hSW; obtain ⟨hSW0, hSW1⟩ := hSW; go_simp; first | done | with_reducible rfl
      (try simp only [Act.put, List.setIfInBounds_toArray, List.set_cons_zero, List.set_cons_succ])
      refine wpAnyH_take (i := 9) (oi := ⟨some 60, _, _, _, _, _⟩) (v := ?_) rfl (by kernel_rfl) (by kernel_rfl) (by kernel_rfl) (fun _ _ _ h => h) (Or.inl ⟨by rfl, ?_⟩) hHeld ?_
      rotate_left
      · intro W hSW; obtain ⟨hSW0, hSW1⟩ := hSW; go_simp; first | done | with_reducible rfl
      (try simp only [Act.put, List.setIfInBounds_toArray, List.set_cons_zero, List.set_cons_succ])
      refine wpAnyH_take (i := 10) (oi := ⟨some 61, _, _, _, _, _⟩) (v := ?_) rfl (by kernel_rfl) (by kernel_rfl) (by kernel_rfl) (fun _ _ _ h => h) (Or.inl ⟨by rfl, ?_⟩) hHeld ?_
      rotate_left
      · intro W hSW; obtain ⟨hSW0, hSW1⟩ := hSW; go_simp; first | done | with_reducible rfl
      (try simp only [Act.put, List.setIfInBounds_toArray, List.set_cons_zero, List.set_cons_succ])
      refine wpAnyH_take (i := 12) (oi := ⟨some 63, _, _, _, _, _⟩) (v := ?_) rfl (by kernel_rfl) (by kernel_rfl) (by kernel_rfl) (fun _ _ _ h => h) (Or.inl ⟨by rfl, ?_⟩) hHeld ?_
      rotate_left
      · intro W hSW; obtain ⟨hSW0, hSW1⟩ := hSW; go_simp; first | done | with_reducible rfl
      (try simp only [Act.put, List.setIfInBounds_toArray, List.set_cons_zero, List.set_cons_succ])
      refine wpAnyH_take (i := 13) (oi := ⟨some 64, _, _, _, _, _⟩) (v := ?_) rfl (by kernel_rfl) (by kernel_rfl) (by kernel_rfl) (fun _ _ _ h => h) (Or.inl ⟨by rfl, ?_⟩) hHeld ?_
      rotate_left
      · intro W hSW; obtain ⟨hSW0, hSW1⟩ := hSW; go_simp; first | done | with_reducible rfl
      (try simp only [Act.put, List.setIfInBounds_toArray, List.set_cons_zero, List.set_cons_succ])
      refine wpAnyH_take (i := 14) (oi := ⟨some 65, _, _, _, _, _⟩) (v := ?_) rfl (by kernel_rfl) (by kernel_rfl) (by kernel_rfl) (fun _ _ _ h => h) (Or.inl ⟨by rfl, ?_⟩) hHeld ?_
      rotate_left
      · intro W hSW; obtain ⟨hSW0, hSW1⟩ := hSW; go_simp; first | done | with_reducible rfl
      (try simp only [Act.put, List.setIfInBounds_toArray, List.set_cons_zero, List.set_cons_succ])
      refine wpAnyH_take (i := 15) (oi := ⟨some 66, _, _, _, _, _⟩) (v := ?_) rfl (by kernel_rfl) (by kernel_rfl) (by kernel_rfl) (fun _ _ _ h => h) (Or.inl ⟨by rfl, ?_⟩) hHeld ?_
      rotate_left
      · intro W hSW; obtain ⟨hSW0, hSW1⟩ := hSW; go_simp; first | done | with_reducible rfl
      (try simp only [Act.put, List.setIfInBounds_toArray, List.set_cons_zero, List.set_cons_succ])
      refine wpAnyH_ready (rs := [11, 16]) (by kernel_rfl) (by simp) ?_
      refine AllReadyH.cons (o := ⟨some 62, _, _, _, _, _⟩) rfl (fun K hK => ?_) (AllReadyH.cons (o := ⟨some 67, _, _, _, _, _⟩) rfl (fun K hK => ?_) (AllReadyH.nil))
      · go_simp
        clear hHeld
        refine hK.out _ _ ?_ (fun hHeld => ?_)
        · exact hS0
        clear hK K
        (try simp only [Act.put, List.setIfInBounds_toArray, List.set_cons_zero, List.set_cons_succ])
        refine wpAnyH_ready (rs := [16]) (by kernel_rfl) (by simp) ?_
        refine AllReadyH.cons (o := ⟨some 67, _, _, _, _, _⟩) rfl (fun K hK => ?_) (AllReadyH.nil)
        go_simp
        refine (COf.out _).mono ?_
        rintro e W' ⟨rfl, rfl⟩
        clear hHeld
        refine hK.out _ _ ?_ (fun hHeld => ?_)
        · exact hS0
        clear hK K
        (try simp only [Act.put, List.setIfInBounds_toArray, List.set_cons_zero, List.set_cons_succ])
        refine wpAnyH_ready (rs := [17]) (by kernel_rfl) (by simp) ?_
        refine AllReadyH.cons (o := ⟨some 68, _, _, _, _, _⟩) rfl (fun K hK => ?_) (AllReadyH.nil)
        go_simp
        refine (CAd.out _).mono ?_
        rintro e W' ⟨rfl, rfl⟩
        clear hHeld
        refine hK.out _ _ ?_ (fun hHeld => ?_)
        · exact hS0
        clear hK K
        (try simp only [Act.put, List.setIfInBounds_toArray, List.set_cons_zero, List.set_cons_succ])
        refine wpAnyH_take (i := 18) (oi := ⟨some 69, _, _, _, _, _⟩) (v := ?_) rfl (by kernel_rfl) (by kernel_rfl) (by kernel_rfl) (fun _ _ _ h => h) (Or.inl ⟨by rfl, ?_⟩) hHeld ?_
        rotate_left
        · intro W hSW; obtain ⟨hSW0, hSW1⟩ := hSW; go_simp; first | done | with_reducible rfl
        (try simp only [Act.put, List.setIfInBounds_toArray, List.set_cons_zero, List.set_cons_succ])
        refine wpAnyH_ready (rs := [19]) (by kernel_rfl) (by simp) ?_
        refine AllReadyH.cons (o := ⟨none, _, _, _, _, _⟩) rfl (fun K hK => ?_) (AllReadyH.nil)
        refine step_cell (by rfl) 3 _ _ (by rfl) gs p' (.int .i64 y2) (by rfl) (by rfl) 3 (W4 M) q0 sz info3one rfl ?_
        intro W6 h6
        clear hHeld
        refine hK.out _ _ ?_ (fun hHeld => ?_)
        · exact HK.out _ (fun k hk => h6.oth k hk)
        clear hK K
        (try simp only [Act.put, List.setIfInBounds_toArray, List.set_cons_zero, List.set_cons_succ])
        refine wpAnyH_done (by kernel_rfl) ?_ _
        refine NoPanic.normal ?_
        clear hHeld
        clear f64
        go_wp2
        go_roundw
        case rel => exact ⟨t + 1, by omega, by go_num, by rw [← HSET.out, ← W4_setI]; exact (hup.drew).upd h6⟩
        case measure => simp [intOf] <;> omega
      · go_simp
        refine (COf.out _).mono ?_
        rintro e W' ⟨rfl, rfl⟩
        clear hHeld
        refine hK.out _ _ ?_ (fun hHeld => ?_)
        · exact hS0
        clear hK K
        (try simp only [Act.put, List.setIfInBounds_toArray, List.set_cons_zero, List.set_cons_succ])
        refine wpAnyH_ready (rs := [11]) (by kernel_rfl) (by simp) ?_
        refine AllReadyH.cons (o := ⟨some 62, _, _, _, _, _⟩) rfl (fun K hK => ?_) (AllReadyH.nil)
        go_simp
        clear hHeld
        refine hK.out _ _ ?_ (fun hHeld => ?_)
        · exact hS0
        clear hK K
        (try simp only [Act.put, List.setIfInBounds_toArray, List.set_cons_zero, List.set_cons_succ])
        refine wpAnyH_ready (rs := [17]) (by kernel_rfl) (by simp) ?_
        refine AllReadyH.cons (o := ⟨some 68, _, _, _, _, _⟩) rfl (fun K hK => ?_) (AllReadyH.nil)
        go_simp
        refine (CAd.out _).mono ?_
        rintro e W' ⟨rfl, rfl⟩
        clear hHeld
        refine hK.out _ _ ?_ (fun hHeld => ?_)
        · exact hS0
        clear hK K
        (try simp only [Act.put, List.setIfInBounds_toArray, List.set_cons_zero, List.set_cons_succ])
        refine wpAnyH_take (i := 18) (oi := ⟨some 69, _, _, _, _, _⟩) (v := ?_) rfl (by kernel_rfl) (by kernel_rfl) (by kernel_rfl) (fun _ _ _ h => h) (Or.inl ⟨by rfl, ?_⟩) hHeld ?_
        rotate_left
        · intro W hSW; obtain ⟨hSW0, hSW1⟩ := hSW; go_simp; first | done | with_reducible rfl
        (try simp only [Act.put, List.setIfInBounds_toArray, List.set_cons_zero, List.set_cons_succ])
        refine wpAnyH_ready (rs := [19]) (by kernel_rfl) (by simp) ?_
        refine AllReadyH.cons (o := ⟨none, _, _, _, _, _⟩) rfl (fun K hK => ?_) (AllReadyH.nil)
        refine step_cell (by rfl) 3 _ _ (by rfl) gs p' (.int .i64 y2) (by rfl) (by rfl) 3 (W4 M) q0 sz info3one rfl ?_
        intro W6 h6
        clear hHeld
        refine hK.out _ _ ?_ (fun hHeld => ?_)
        · exact HK.out _ (fun k hk => h6.oth k hk)
        clear hK K
        (try simp only [Act.put, List.setIfInBounds_toArray, List.set_cons_zero, List.set_cons_succ])
        refine wpAnyH_done (by kernel_rfl) ?_ _
        refine NoPanic.normal ?_
        clear hHeld
        clear f64
        go_wp2
        go_roundw
        case rel => exact ⟨t + 1, by omega, by go_num, by rw [← HSET.out, ← W4_setI]; exact (hup.drew).upd h6⟩
        case measure => simp [intOf] <;> omega
    · have dt : decide ((t : Int) < (T : Int)) = false := by simp <;> omega
      have HTT : Hid (t = T) := by unfold Hid; omega
      have HKPF : Hid (Kp w wr gB (Value.slice none 0 0).ownBlock) := HKP0.out.trans ⟨hup.os, hup.tape, hup.output, by rw [hup.size]; exact Nat.le_refl _, fun k _ _ h2 => hup.oth k (fun e => h2 (by rw [e]))⟩ HKO.out
      have HLAST : Hid (Blk wr.drew gs 3 (W4 (Cv.softs (n + 6) (row ++ [(v, p)])))) := by
        unfold Hid
        rw [HSN.out, ← adt_all l v p T HLT.out, ← HTT.out]
        exact hup.row.drew
      have qBr : Blk wr gB 97 (BF n (Cv.cv row) (.slice (some ⟨gs, 0, none⟩) N N)) := (hup.oth gB (Ne.symm hgsB)).trans HQB5.out
      have kc := (qBr.cell (1 + v)).trans (BF_cell n _ _ v hv)
      have qB0 : Blk wr.drew gB 97 (BF n (Cv.cv row) (.slice (some ⟨gs, 0, none⟩) N N)) := qBr.drew
      have szB : 1 + v < (BF n (Cv.cv row) (.slice (some ⟨gs, 0, none⟩) N N)).size := by show 1 + v < 6; omega
      obtain ⟨c0, hc0⟩ : ∃ c0, c0 = Cv.cv row v := ⟨_, rfl⟩
      obtain ⟨c1, hc1⟩ : ∃ c1, c1 = Cv.cv row v + 1 := ⟨_, rfl⟩
      rw [← hc0] at kc
      rw [← hc1] at HBF
      have f1 : IntKind.i64.wrap ((c0 : Int) + 1) = (c1 : Int) := by rw [IntWalk.i64_in _ (by omega)]; omega
      have ic := fun W => run_idx (P := Tryd.prog) (sz := 1) Tryd.underlying22 (by kernel_rfl) gB 1 v hv .i64 W
      simp only [Nat.one_mul] at ic
      have kc0 : wr.drew.cell? ⟨gB, 1 + v, none⟩ = some (.int .i64 (c0 : Int)) := kc
      clear hc0 hc1 kc qBr
      go_upto_region 17 with fail
      refine wp_region_noPanic ?_
      refine wp_region_held_drew (S := fun _ => True) (by kernel_rfl) trivial (fun hHeld => ?_)
      refine wpAnyH_take (i := 0) (oi := ⟨some 71, _, _, _, _, _⟩) (v := ?_) rfl (by kernel_rfl) (by kernel_rfl) (by kernel_rfl) (fun _ _ _ h => h) (Or.inl ⟨by rfl, ?_⟩) hHeld ?_
      rotate_left
      · intro W hSW; have hSW0 := hSW; go_simp; first | done | with_reducible rfl
      (try simp only [Act.put, List.setIfInBounds_toArray, List.set_cons_zero, List.set_cons_succ])
      refine wpAnyH_take (i := 1) (oi := ⟨some 72, _, _, _, _, _⟩) (v := ?_) rfl (by kernel_rfl) (by kernel_rfl) (by kernel_rfl) (fun _ _ _ h => h) (Or.inl ⟨by rfl, ?_⟩) hHeld ?_
      rotate_left
      · intro W hSW; have hSW0 := hSW; go_simp; first | done | with_reducible rfl
      (try simp only [Act.put, List.setIfInBounds_toArray, List.set_cons_zero, List.set_cons_succ])
      refine wpAnyH_take (i := 2) (oi := ⟨some 73, _, _, _, _, _⟩) (v := ?_) rfl (by kernel_rfl) (by kernel_rfl) (by kernel_rfl) (fun _ _ _ h => h) (Or.inl ⟨by rfl, ?_⟩) hHeld ?_
      rotate_left
      · intro W hSW; have hSW0 := hSW; go_simp; first | done | with_reducible rfl
      (try simp only [Act.put, List.setIfInBounds_toArray, List.set_cons_zero, List.set_cons_succ])
      refine wpAnyH_take (i := 3) (oi := ⟨some 74, _, _, _, _, _⟩) (v := ?_) rfl (by kernel_rfl) (by kernel_rfl) (by kernel_rfl) (fun _ _ _ h => h) (Or.inl ⟨by rfl, ?_⟩) hHeld ?_
      rotate_left
      · intro W hSW; have hSW0 := hSW; go_simp; first | done | with_reducible rfl
      (try simp only [Act.put, List.setIfInBounds_toArray, List.set_cons_zero, List.set_cons_succ])
      refine wpAnyH_take (i := 4) (oi := ⟨some 75, _, _, _, _, _⟩) (v := ?_) rfl (by kernel_rfl) (by kernel_rfl) (by kernel_rfl) (fun _ _ _ h => h) (Or.inl ⟨by rfl, ?_⟩) hHeld ?_
      rotate_left
      · intro W hSW; have hSW0 := hSW; go_simp; first | done | with_reducible rfl
      (try simp only [Act.put, List.setIfInBounds_toArray, List.set_cons_zero, List.set_cons_succ])
      refine wpAnyH_take (i := 7) (oi := ⟨some 78, _, _, _, _, _⟩) (v := ?_) rfl (by kernel_rfl) (by kernel_rfl) (by kernel_rfl) (fun _ _ _ h => h) (Or.inl ⟨by rfl, ?_⟩) hHeld ?_
      rotate_left
      · intro W hSW; have hSW0 := hSW; go_simp; first | done | with_reducible rfl
      (try simp only [Act.put, List.setIfInBounds_toArray, List.set_cons_zero, List.set_cons_succ])
      refine wpAnyH_take (i := 8) (oi := ⟨some 79, _, _, _, _, _⟩) (v := ?_) rfl (by kernel_rfl) (by kernel_rfl) (by kernel_rfl) (fun _ _ _ h => h) (Or.inl ⟨by rfl, ?_⟩) hHeld ?_
      rotate_left
      · intro W hSW; have hSW0 := hSW; go_simp; first | done | with_reducible rfl
      (try simp only [Act.put, List.setIfInBounds_toArray, List.set_cons_zero, List.set_cons_succ])
      refine wpAnyH_ready (rs := [5]) (by kernel_rfl) (by simp) ?_
      refine AllReadyH.cons (o := ⟨some 76, _, _, _, _, _⟩) rfl (fun K hK => ?_) (AllReadyH.nil)
      go_simp
      clear hHeld
      refine hK.out _ _ ?_ (fun hHeld => ?_)
      · trivial
      clear hK K
      (try simp only [Act.put, List.setIfInBounds_toArray, List.set_cons_zero, List.set_cons_succ])
      refine wpAnyH_take (i := 6) (oi := ⟨some 77, _, _, _, _, _⟩) (v := ?_) rfl (by kernel_rfl) (by kernel_rfl) (by kernel_rfl) (fun _ _ _ h => h) (Or.inl ⟨by rfl, ?_⟩) hHeld ?_
      rotate_left
      · intro W hSW; have hSW0 := hSW; go_simp; first | done | with_reducible rfl
      (try simp only [Act.put, List.setIfInBounds_toArray, List.set_cons_zero, List.set_cons_succ])
      refine wpAnyH_take (i := 9) (oi := ⟨some 80, _, _, _, _, _⟩) (v := ?_) rfl (by kernel_rfl) (by kernel_rfl) (by kernel_rfl) (fun _ _ _ h => h) (Or.inl ⟨by rfl, ?_⟩) hHeld ?_
      rotate_left
      · intro W hSW; have hSW0 := hSW; go_simp; first | done | with_reducible rfl
      (try simp only [Act.put, List.setIfInBounds_toArray, List.set_cons_zero, List.set_cons_succ])
      refine wpAnyH_ready (rs := [10]) (by kernel_rfl) (by simp) ?_
      refine AllReadyH.cons (o := ⟨none, _, _, _, _, _⟩) rfl (fun K hK => ?_) (AllReadyH.nil)
      refine step_cell (by rfl) 3 _ _ (by rfl) gB (1 + v) (.int .i64 (c1 : Int)) (by rfl) (by rfl) 97 (BF n (Cv.cv row) (.slice (some ⟨gs, 0, none⟩) N N)) qB0 szB info3one rfl ?_
      intro W7 h7
      clear hHeld
      refine hK.out _ _ ?_ (fun hHeld => ?_)
      · trivial
      clear hK K
      (try simp only [Act.put, List.setIfInBounds_toArray, List.set_cons_zero, List.set_cons_succ])
      refine wpAnyH_done (by kernel_rfl) ?_ _
      refine NoPanic.normal ?_
      clear hHeld
      have hB7 := h7.row
      rw [HBF.out] at hB7
      have HL7 := Lib.hid (h7.blk HLAST.out hgsB)
      have HK7 := Lib.hid (HKPF.out.trans (Kp.drewUpd h7) (.inl rfl))
      clear h7
      go_wp2
      go_ret
      exact ⟨rfl, .slice (some ⟨gs, 0, none⟩) N N, ⟨hB7, .inr ⟨gs, by rw [HN.out], hgsB, HL7.out⟩⟩, HK7.out, HOWN.out⟩
set_option maxHeartbeats 2000000 in
set_option maxRecDepth 100000 in
/-- (*Buffer).Add, a further one. -/
theorem add1 (gB n v T c : Nat) (gs N : Nat) (hN : N = 4 * (n + 6)) (b off : Nat) (row : List (Nat × List Nat)) (p : List Nat) (w : World) (hB : BufS w gB n row (.slice (some ⟨gs, 0, none⟩) N N)) (hn : n ≤ 4096) (hrl : row.length ≤ 30) (hv : v < 4) (hT : T = n + 6) (hr : Rd w w.heap.size (some ⟨b, off, none⟩) T (U8 p)) (hp : ∀ x ∈ p, x ≤ 1) (hbB : b ≠ gB) (hbl : b < w.heap.size) (hgsb : b ≠ gs) :
    Calls Tryd.prog 18 #[.pointer (some ⟨gB, 0, none⟩), .int .i64 (v : Int), .slice (some ⟨b, off, none⟩) T c] w (AddOk w gB n row (.slice (some ⟨gs, 0, none⟩) N N) v p) := by
  have hl := Cv.softs_length (n + 6) row
  have HZB : Hid (∀ k, -30 ≤ (Cv.softs (n + 6) row).getD k 0 ∧ (Cv.softs (n + 6) row).getD k 0 ≤ 30) := fun k => by
    by_cases hk : k < (Cv.softs (n + 6) row).length
    · rw [Bm.getD_lt _ _ _ hk]
      have := Cv.softs_in (n + 6) row _ (List.getElem_mem hk)
      omega
    · rw [Bm.getD_ge _ _ _ (by omega)]; omega
  have HSN : Hid (Cv.softs (n + 6) (row ++ [(v, p)]) = Cv.addv (Cv.softs (n + 6) row) (v, p)) := Cv.softs_snoc _ _ _
  have CB := Lib.hid (fun W => vBits n W (by omega))
  rw [← hT] at CB
  have CPl := Lib.hid (fun W => patPlaces v T W hv (by omega))
  have CR := Lib.hid (fun (W : World) (hb : Below w.heap.size w W) => right (some ⟨b, off, none⟩) T c p W ((hr.below hb).up hb.size) (bit256 hp) (by omega))
  rw [Bm.isB_of hp] at CR
  have k0 : w.cell? ⟨gB, 0, none⟩ = some (.int .i64 (n : Int)) := hB.blk.cell 0
  have HBF := Lib.hid (fun S => BF_set n row S v p hv)
  have hcl := cv_le row v
  have t1 : ((T : Int) != (T : Int)) = false := by simp
  have hT2 : T ≤ 5000 := by omega
  have hT6 : 6 ≤ T := by omega
  obtain ⟨hgsB, qs⟩ : gs ≠ gB ∧ Blk w gs 3 (W4 (Cv.softs (n + 6) row)) := by
    rcases hB.sums with ⟨h, _⟩ | ⟨gs', h, h2, h3⟩
    · cases h
    · injection h with e _ _
      injection e with e
      injection e with e
      subst e
      exact ⟨h2, h3⟩
  have HN := Lib.hid hN
  have HNT : Hid (N = 4 * T) := by unfold Hid; omega
  have HLT : Hid ((Cv.softs (n + 6) row).length = 4 * T) := by unfold Hid; rw [hl, hT]
  have hN2 : N ≤ 20000 := by omega
  clear hT hN
  go_enter Tryd.func18, Tryd.ntmps18
  go_upto_region 4 with (first | (go_at_call 56; refine (CB.out _).mono ?_; rintro e w' ⟨rfl, rfl⟩) | (go_at_call 55; refine (CPl.out _).mono ?_; rintro e w1 ⟨A7, c7, rfl, own7, b1⟩))
  have qB1 := hB.blk.after b1
  have k5 : w1.cell? ⟨gB, 5, none⟩ = some (.slice (some ⟨gs, 0, none⟩) N N) := qB1.cell 5
  have lB := hB.blk.lt
  obtain ⟨g7, hA7, hg7, hg7l, h7rest⟩ := own7.slot 0 (by omega)
  clear h7rest
  subst hA7
  have HC7 : Hid (∀ t, t < T → w1.cell? ⟨g7, t, none⟩ = some (.int .i64 ((4 * t + Cv.st v t : Nat) : Int))) := fun t ht => by
    obtain ⟨bb, oo, e, _, hc⟩ := own7.rd.cell64 t ht
    injection e with e
    injection e with e1 e2
    subst e1 e2
    rw [Nat.zero_add] at hc
    rw [hc, plc_get v T t ht]
  have HCP : Hid (∀ t, t < T → w1.cell? ⟨b, off + t, none⟩ = some (.int .u8 ((p.getD t 0 : Nat) : Int))) := fun t ht => by
    obtain ⟨bb, oo, e, _, hc⟩ := (hr.below b1).cell8 t ht
    injection e with e
    injection e with e1 e2
    subst e1 e2
    exact hc
  clear own7 k0 CB CPl
  have hnil := some_nil gs N N
  clear hl
  generalize hll : Cv.softs (n + 6) row = l at *
  have HLL := Lib.hid hll.symm
  clear hll
  go_upto_region 12 with (go_at_call 57; refine (CR.out _ b1).mono ?_; rintro e w' ⟨rfl, rfl⟩)
  have qs5 := qs.after b1
  have lgs := qs.lt
  obtain ⟨w5, hw5⟩ : ∃ W, W = w1 := ⟨_, rfl⟩
  have hgs7 : g7 ≠ gs := by omega
  have HQB5 : Hid (Blk w5 gB 97 (BF n (Cv.cv row) (.slice (some ⟨gs, 0, none⟩) N N))) := by rw [hw5]; exact qB1
  have HC75 : Hid (∀ t, t < T → w5.cell? ⟨g7, t, none⟩ = some (.int .i64 ((4 * t + Cv.st v t : Nat) : Int))) := by rw [hw5]; exact HC7
  have HCP5 : Hid (∀ t, t < T → w5.cell? ⟨b, off + t, none⟩ = some (.int .u8 ((p.getD t 0 : Nat) : Int))) := by rw [hw5]; exact HCP
  have HKP0 : Hid (Kp w w5 gB (some gs)) := by rw [hw5]; exact Kp.of_below b1
  have hup0 : Upd w5 w5 gs 3 (W4 (adt l v p 0)) := by rw [adt_none, hw5]; exact Upd.self qs5
  rw [← hw5]
  have HKO : Hid ((some gs : Option Nat) = some gs ∨ ∃ k, (some gs : Option Nat) = some k ∧ w.heap.size ≤ k) := .inl rfl
  have HOWN : Hid ((Value.slice (some ⟨gs, 0, none⟩) N N).ownBlock = (Value.slice (some ⟨gs, 0, none⟩) N N).ownBlock ∨ ∃ k, (Value.slice (some ⟨gs, 0, none⟩) N N).ownBlock = some k ∧ w.heap.size ≤ k) := .inl rfl
  clear qs5 lgs hw5 HC7 HCP k5 qB1 b1
  have HUP := Lib.hid hup0
  have HK5 := Lib.hid (HQB5.out.cell 5)
  clear hup0
  go_wp2
  go_loopw [46] (fun x wr => ∃ t : Nat, t ≤ T ∧ x = .int .i64 t ∧ Upd w5 wr gs 3 (W4 (adt l v p t))) (fun x _ => T - (intOf x).toNat)
  case atStart => exact ⟨0, by omega, rfl, HUP.out⟩
  case round =>
    obtain ⟨t, ht, rfl, hup⟩ := hrel
    have k5r : wr.cell? ⟨gB, 5, none⟩ = some (.slice (some ⟨gs, 0, none⟩) N N) := (cell_of_heap (hup.oth gB (Ne.symm hgsB)) 5).trans (HK5.out.trans rfl)
    by_cases hlt : t < T
    · have hst := Cv.st_lt v t
      have k7 := (cell_of_heap (hup.oth g7 hgs7) t).trans (HC75.out t hlt)
      have kp := (cell_of_heap (hup.oth b hgsb) (off + t)).trans (HCP5.out t hlt)
      obtain ⟨ha1, ha2⟩ := adt_at l v p T t HLT.out hv hlt
      have hzb := HZB.out (4 * t + Cv.st v t)
      have hpl : 4 * t + Cv.st v t < N := by have := HNT.out; omega
      have q := hup.row
      have kq := (q.cell (4 * t + Cv.st v t)).trans (W4_get _ _ (by rw [adt_length, HLT.out, ← HNT.out]; exact hpl))
      rw [ha1] at kq
      have sz0 : 4 * t + Cv.st v t < (W4 (adt l v p t)).size := by rw [W4_size, adt_length, HLT.out, ← HNT.out]; exact hpl
      have HSET := Lib.hid ha2
      have COf := Lib.hid (fun W => softOf (p.getD t 0) W)
      rw [sn_val] at COf
      obtain ⟨x, hx⟩ : ∃ x, x = p.getD t 0 := ⟨_, rfl⟩
      rw [← hx] at COf kp HSET
      have hsn : Cv.sn x = 1 ∨ Cv.sn x = -1 := by unfold Cv.sn; split <;> simp
      obtain ⟨y, hy⟩ : ∃ y, y = l.getD (4 * t + Cv.st v t) 0 := ⟨_, rfl⟩
      rw [← hy] at kq hzb HSET
      have CAd := Lib.hid (fun W => softAdd y (Cv.sn x) W)
      have hcl2 : Cv.clip (Cv.clip y + Cv.clip (Cv.sn x)) = y + Cv.sn x := by
        rw [Cv.clip_in (z := y) (by omega) (by omega), Cv.clip_in (z := Cv.sn x) (by omega) (by omega), Cv.clip_in (by omega) (by omega)]
      rw [hcl2] at CAd
      obtain ⟨y2, hy2⟩ : ∃ y2, y2 = y + Cv.sn x := ⟨_, rfl⟩
      rw [← hy2] at CAd HSET
      obtain ⟨M, hM⟩ : ∃ M, M = adt l v p t := ⟨_, rfl⟩
      rw [← hM] at q sz0 HSET
      generalize hpp : 4 * t + Cv.st v t = p' at *
      have f64 : IntKind.i64.wrap (p' : Int) = (p' : Int) := IntWalk.i64_in _ (by omega)
      have f1 : (t : Int) < (T : Int) := by omega
      have f2 : (p' : Int) < (N : Int) := by omega
      have dt : decide ((t : Int) < (T : Int)) = true := by simp <;> omega
      generalize Cv.sn x = s1 at *
      clear hx hy hcl2 hy2 hM hpp ha1 ha2 hsn
      go_upto_region 15 with fail
      have hS0 : wr.drew.cell? ⟨gB, 5, none⟩ = some (.slice (some ⟨gs, 0, none⟩) N N) ∧ wr.drew.cell? ⟨b, off + t, none⟩ = some (.int .u8 (x : Int)) := ⟨k5r, kp⟩
      have HK : Hid (∀ W : World, (∀ k, k ≠ gs → W.heap[k]? = wr.drew.heap[k]?) → W.cell? ⟨gB, 5, none⟩ = some (.slice (some ⟨gs, 0, none⟩) N N) ∧ W.cell? ⟨b, off + t, none⟩ = some (.int .u8 (x : Int))) := fun W h => ⟨(cell_of_heap (h gB (Ne.symm hgsB)) 5).trans k5r, (cell_of_heap (h b hgsb) (off + t)).trans kp⟩
      have kq0 : wr.drew.cell? ⟨gs, p', none⟩ = some (.int .i64 y) := kq
      have q0 : Blk wr.drew gs 3 (W4 M) := q.drew
      have sz := sz0
      clear kq q k5r kp sz0
      refine wp_region_noPanic ?_
      refine wp_region_held_drew (S := fun W => W.cell? ⟨gB, 5, none⟩ = some (.slice (some ⟨gs, 0, none⟩) N N) ∧ W.cell? ⟨b, off + t, none⟩ = some (.int .u8 (x : Int))) (by kernel_rfl) hS0 (fun hHeld => ?_)
      refine wpAnyH_take (i := 0) (oi := ⟨some 51, _, _, _, _, _⟩) (v := ?_) rfl (by kernel_rfl) (by kernel_rfl) (by kernel_rfl) (fun _ _ _ h => h) (Or.inl ⟨by rfl, ?_⟩) hHeld ?_
      rotate_left
      · intro W hSW; obtain ⟨hSW0, hSW1⟩ := hSW; go_simp; first | done | with_reducible rfl
      (try simp only [Act.put, List.setIfInBounds_toArray, List.set_cons_zero, List.set_cons_succ])
      refine wpAnyH_take (i := 1) (oi := ⟨some 52, _, _, _, _, _⟩) (v := ?_) rfl (by kernel_rfl) (by kernel_rfl) (by kernel_rfl) (fun _ _ _ h => h) (Or.inl ⟨by rfl, ?_⟩) hHeld ?_
      rotate_left
      · intro W hSW; obtain ⟨hSW0, hSW1⟩ := hSW; go_simp; first | done | with_reducible rfl
      (try simp only [Act.put, List.setIfInBounds_toArray, List.set_cons_zero, List.set_cons_succ])
      refine wpAnyH_take (i := 2) (oi := ⟨some 53, _, _, _, _, _⟩) (v := ?_) rfl (by kernel_rfl) (by kernel_rfl) (by kernel_rfl) (fun _ _ _ h => h) (Or.inl ⟨by rfl, ?_⟩) hHeld ?_
      rotate_left
      · intro W hSW; obtain ⟨hSW0, hSW1⟩ := hSW; go_simp; first | done | with_reducible rfl
      (try simp only [Act.put, List.setIfInBounds_toArray, List.set_cons_zero, List.set_cons_succ])
      refine wpAnyH_take (i := 3) (oi := ⟨some 54, _, _, _, _, _⟩) (v := ?_) rfl (by kernel_rfl) (by kernel_rfl) (by kernel_rfl) (fun _ _ _ h => h) (Or.inl ⟨by rfl, ?_⟩) hHeld ?_
      rotate_left
      · intro W hSW; obtain ⟨hSW0, hSW1⟩ := hSW; go_simp; first | done | with_reducible rfl
      (try simp only [Act.put, List.setIfInBounds_toArray, List.set_cons_zero, List.set_cons_succ])
      refine wpAnyH_take (i := 4) (oi := ⟨some 55, _, _, _, _, _⟩) (v := ?_) rfl (by kernel_rfl) (by kernel_rfl) (by kernel_rfl) (fun _ _ _ h => h) (Or.inl ⟨by rfl, ?_⟩) hHeld ?_
      rotate_left
      · intro W hSW; obtain ⟨hSW0, hSW1⟩ := hSW; go_simp; first | done | with_reducible rfl
      (try simp only [Act.put, List.setIfInBounds_toArray, List.set_cons_zero, List.set_cons_succ])
      refine wpAnyH_take (i := 5) (oi := ⟨some 56, _, _, _, _, _⟩) (v := ?_) rfl (by kernel_rfl) (by kernel_rfl) (by kernel_rfl) (fun _ _ _ h => h) (Or.inl ⟨by rfl, ?_⟩) hHeld ?_
      rotate_left
      · intro W hSW; obtain ⟨hSW0, hSW1⟩ := hSW; go_simp; first | done | with_reducible rfl
      (try simp only [Act.put, List.setIfInBounds_toArray, List.set_cons_zero, List.set_cons_succ])
      refine wpAnyH_take (i := 6) (oi := ⟨some 57, _, _, _, _, _⟩) (v := ?_) rfl (by kernel_rfl) (by kernel_rfl) (by kernel_rfl) (fun _ _ _ h => h) (Or.inl ⟨by rfl, ?_⟩) hHeld ?_
      rotate_left
      · intro W hSW; obtain ⟨hSW0, hSW1⟩ := hSW; go_simp; first | done | with_reducible rfl
      (try simp only [Act.put, List.setIfInBounds_toArray, List.set_cons_zero, List.set_cons_succ])
      refine wpAnyH_take (i := 7) (oi := ⟨some 58, _, _, _, _, _⟩) (v := ?_) rfl (by kernel_rfl) (by kernel_rfl) (by kernel_rfl) (fun _ _ _ h => h) (Or.inl ⟨by rfl, ?_⟩) hHeld ?_
      rotate_left
      · intro W hSW; obtain ⟨hSW0, hSW1⟩ := hSW; go_simp; first | done | with_reducible rfl
      (try simp only [Act.put, List.setIfInBounds_toArray, List.set_cons_zero, List.set_cons_succ])
      refine wpAnyH_take (i := 8) (oi := ⟨some 59, _, _, _, _, _⟩) (v := ?_) rfl (by kernel_rfl) (by kernel_rfl) (by kernel_rfl) (fun _ _ _ h => h) (Or.inl ⟨by rfl, ?_⟩) hHeld ?_
      rotate_left
      · intro W hSW; obtain ⟨hSW0, hSW1⟩ := hSW; go_simp; first | done | with_reducible rfl
      (try simp only [Act.put, List.setIfInBounds_toArray, List.set_cons_zero, List.set_cons_succ])
      refine wpAnyH_take (i := 9) (oi := ⟨some 60, _, _, _, _, _⟩) (v := ?_) rfl (by kernel_rfl) (by kernel_rfl) (by kernel_rfl) (fun _ _ _ h => h) (Or.inl ⟨by rfl, ?_⟩) hHeld ?_
      rotate_left
      · intro W hSW; obtain ⟨hSW0, hSW1⟩ := hSW; go_simp; first | done | with_reducible rfl
      (try simp only [Act.put, List.setIfInBounds_toArray, List.set_cons_zero, List.set_cons_succ])
      refine wpAnyH_take (i := 10) (oi := ⟨some 61, _, _, _, _, _⟩) (v := ?_) rfl (by kernel_rfl) (by kernel_rfl) (by kernel_rfl) (fun _ _ _ h => h) (Or.inl ⟨by rfl, ?_⟩) hHeld ?_
      rotate_left
      · intro W hSW; obtain ⟨hSW0, hSW1⟩ := hSW; go_simp; first | done | with_reducible rfl
      (try simp only [Act.put, List.setIfInBounds_toArray, List.set_cons_zero, List.set_cons_succ])
      refine wpAnyH_take (i := 12) (oi := ⟨some 63, _, _, _, _, _⟩) (v := ?_) rfl (by kernel_rfl) (by kernel_rfl) (by kernel_rfl) (fun _ _ _ h => h) (Or.inl ⟨by rfl, ?_⟩) hHeld ?_
      rotate_left
      · intro W hSW; obtain ⟨hSW0, hSW1⟩ := hSW; go_simp; first | done | with_reducible rfl
      (try simp only [Act.put, List.setIfInBounds_toArray, List.set_cons_zero, List.set_cons_succ])
      refine wpAnyH_take (i := 13) (oi := ⟨some 64, _, _, _, _, _⟩) (v := ?_) rfl (by kernel_rfl) (by kernel_rfl) (by kernel_rfl) (fun _ _ _ h => h) (Or.inl ⟨by rfl, ?_⟩) hHeld ?_
      rotate_left
      · intro W hSW; obtain ⟨hSW0, hSW1⟩ := hSW; go_simp; first | done | with_reducible rfl
      (try simp only [Act.put, List.setIfInBounds_toArray, List.set_cons_zero, List.set_cons_succ])
      refine wpAnyH_take (i := 14) (oi := ⟨some 65, _, _, _, _, _⟩) (v := ?_) rfl (by kernel_rfl) (by kernel_rfl) (by kernel_rfl) (fun _ _ _ h => h) (Or.inl ⟨by rfl, ?_⟩) hHeld ?_
      rotate_left
      · intro W hSW; obtain ⟨hSW0, hSW1⟩ := hSW; go_simp; first | done | with_reducible rfl
      (try simp only [Act.put, List.setIfInBounds_toArray, List.set_cons_zero, List.set_cons_succ])
      refine wpAnyH_take (i := 15) (oi := ⟨some 66, _, _, _, _, _⟩) (v := ?_) rfl (by kernel_rfl) (by kernel_rfl) (by kernel_rfl) (fun _ _ _ h => h) (Or.inl ⟨by rfl, ?_⟩) hHeld ?_
      rotate_left
      · intro W hSW; obtain ⟨hSW0, hSW1⟩ := hSW; go_simp; first | done | with_reducible rfl
      (try simp only [Act.put, List.setIfInBounds_toArray, List.set_cons_zero, List.set_cons_succ])
      refine wpAnyH_ready (rs := [11, 16]) (by kernel_rfl) (by simp) ?_
      refine AllReadyH.cons (o := ⟨some 62, _, _, _, _, _⟩) rfl (fun K hK => ?_) (AllReadyH.cons (o := ⟨some 67, _, _, _, _, _⟩) rfl (fun K hK => ?_) (AllReadyH.nil))
      · go_simp
        clear hHeld
        refine hK.out _ _ ?_ (fun hHeld => ?_)
        · exact hS0
        clear hK K
        (try simp only [Act.put, List.setIfInBounds_toArray, List.set_cons_zero, List.set_cons_succ])
        refine wpAnyH_ready (rs := [16]) (by kernel_rfl) (by simp) ?_
        refine AllReadyH.cons (o := ⟨some 67, _, _, _, _, _⟩) rfl (fun K hK => ?_) (AllReadyH.nil)
        go_simp
        refine (COf.out _).mono ?_
        rintro e W' ⟨rfl, rfl⟩
        clear hHeld
        refine hK.out _ _ ?_ (fun hHeld => ?_)
        · exact hS0
        clear hK K
        (try simp only [Act.put, List.setIfInBounds_toArray, List.set_cons_zero, List.set_cons_succ])
        refine wpAnyH_ready (rs := [17]) (by kernel_rfl) (by simp) ?_
        refine AllReadyH.cons (o := ⟨some 68, _, _, _, _, _⟩) rfl (fun K hK => ?_) (AllReadyH.nil)
        go_simp
        refine (CAd.out _).mono ?_
        rintro e W' ⟨rfl, rfl⟩
        clear hHeld
        refine hK.out _ _ ?_ (fun hHeld => ?_)
        · exact hS0
        clear hK K
        (try simp only [Act.put, List.setIfInBounds_toArray, List.set_cons_zero, List.set_cons_succ])
        refine wpAnyH_take (i := 18) (oi := ⟨some 69, _, _, _, _, _⟩) (v := ?_) rfl (by kernel_rfl) (by kernel_rfl) (by kernel_rfl) (fun _ _ _ h => h) (Or.inl ⟨by rfl, ?_⟩) hHeld ?_
        rotate_left
        · intro W hSW; obtain ⟨hSW0, hSW1⟩ := hSW; go_simp; first | done | with_reducible rfl
        (try simp only [Act.put, List.setIfInBounds_toArray, List.set_cons_zero, List.set_cons_succ])
        refine wpAnyH_ready (rs := [19]) (by kernel_rfl) (by simp) ?_
        refine AllReadyH.cons (o := ⟨none, _, _, _, _, _⟩) rfl (fun K hK => ?_) (AllReadyH.nil)
        refine step_cell (by rfl) 3 _ _ (by rfl) gs p' (.int .i64 y2) (by rfl) (by rfl) 3 (W4 M) q0 sz info3one rfl ?_
        intro W6 h6
        clear hHeld
        refine hK.out _ _ ?_ (fun hHeld => ?_)
        · exact HK.out _ (fun k hk => h6.oth k hk)
        clear hK K
        (try simp only [Act.put, List.setIfInBounds_toArray, List.set_cons_zero, List.set_cons_succ])
        refine wpAnyH_done (by kernel_rfl) ?_ _
        refine NoPanic.normal ?_
        clear hHeld
        clear f64
        go_wp2
        go_roundw
        case rel => exact ⟨t + 1, by omega, by go_num, by rw [← HSET.out, ← W4_setI]; exact (hup.drew).upd h6⟩
        case measure => simp [intOf] <;> omega
      · go_simp
        refine (COf.out _).mono ?_
        rintro e W' ⟨rfl, rfl⟩
        clear hHeld
        refine hK.out _ _ ?_ (fun hHeld => ?_)
        · exact hS0
        clear hK K
        (try simp only [Act.put, List.setIfInBounds_toArray, List.set_cons_zero, List.set_cons_succ])
        refine wpAnyH_ready (rs := [11]) (by kernel_rfl) (by simp) ?_
        refine AllReadyH.cons (o := ⟨some 62, _, _, _, _, _⟩) rfl (fun K hK => ?_) (AllReadyH.nil)
        go_simp
        clear hHeld
        refine hK.out _ _ ?_ (fun hHeld => ?_)
        · exact hS0
        clear hK K
        (try simp only [Act.put, List.setIfInBounds_toArray, List.set_cons_zero, List.set_cons_succ])
        refine wpAnyH_ready (rs := [17]) (by kernel_rfl) (by simp) ?_
        refine AllReadyH.cons (o := ⟨some 68, _, _, _, _, _⟩) rfl (fun K hK => ?_) (AllReadyH.nil)
        go_simp
        refine (CAd.out _).mono ?_
        rintro e W' ⟨rfl, rfl⟩
        clear hHeld
        refine hK.out _ _ ?_ (fun hHeld => ?_)
        · exact hS0
        clear hK K
        (try simp only [Act.put, List.setIfInBounds_toArray, List.set_cons_zero, List.set_cons_succ])
        refine wpAnyH_take (i := 18) (oi := ⟨some 69, _, _, _, _, _⟩) (v := ?_) rfl (by kernel_rfl) (by kernel_rfl) (by kernel_rfl) (fun _ _ _ h => h) (Or.inl ⟨by rfl, ?_⟩) hHeld ?_
        rotate_left
        · intro W hSW; obtain ⟨hSW0, hSW1⟩ := hSW; go_simp; first | done | with_reducible rfl
        (try simp only [Act.put, List.setIfInBounds_toArray, List.set_cons_zero, List.set_cons_succ])
        refine wpAnyH_ready (rs := [19]) (by kernel_rfl) (by simp) ?_
        refine AllReadyH.cons (o := ⟨none, _, _, _, _, _⟩) rfl (fun K hK => ?_) (AllReadyH.nil)
        refine step_cell (by rfl) 3 _ _ (by rfl) gs p' (.int .i64 y2) (by rfl) (by rfl) 3 (W4 M) q0 sz info3one rfl ?_
        intro W6 h6
        clear hHeld
        refine hK.out _ _ ?_ (fun hHeld => ?_)
        · exact HK.out _ (fun k hk => h6.oth k hk)
        clear hK K
        (try simp only [Act.put, List.setIfInBounds_toArray, List.set_cons_zero, List.set_cons_succ])
        refine wpAnyH_done (by kernel_rfl) ?_ _
        refine NoPanic.normal ?_
        clear hHeld
        clear f64
        go_wp2
        go_roundw
        case rel => exact ⟨t + 1, by omega, by go_num, by rw [← HSET.out, ← W4_setI]; exact (hup.drew).upd h6⟩
        case measure => simp [intOf] <;> omega
    · have dt : decide ((t : Int) < (T : Int)) = false := by simp <;> omega
      have HTT : Hid (t = T) := by unfold Hid; omega
      have HKPF : Hid (Kp w wr gB (Value.slice (some ⟨gs, 0, none⟩) N N).ownBlock) := HKP0.out.trans ⟨hup.os, hup.tape, hup.output, by rw [hup.size]; exact Nat.le_refl _, fun k _ _ h2 => hup.oth k (fun e => h2 (by rw [e]))⟩ (.inl rfl)
      have HLAST : Hid (Blk wr.drew gs 3 (W4 (Cv.softs (n + 6) (row ++ [(v, p)])))) := by
        unfold Hid
        rw [HSN.out, ← adt_all l v p T HLT.out, ← HTT.out]
        exact hup.row.drew
      have qBr : Blk wr gB 97 (BF n (Cv.cv row) (.slice (some ⟨gs, 0, none⟩) N N)) := (hup.oth gB (Ne.symm hgsB)).trans HQB5.out
      have kc := (qBr.cell (1 + v)).trans (BF_cell n _ _ v hv)
      have qB0 : Blk wr.drew gB 97 (BF n (Cv.cv row) (.slice (some ⟨gs, 0, none⟩) N N)) := qBr.drew
      have szB : 1 + v < (BF n (Cv.cv row) (.slice (some ⟨gs, 0, none⟩) N N)).size := by show 1 + v < 6; omega
      obtain ⟨c0, hc0⟩ : ∃ c0, c0 = Cv.cv row v := ⟨_, rfl⟩
      obtain ⟨c1, hc1⟩ : ∃ c1, c1 = Cv.cv row v + 1 := ⟨_, rfl⟩
      rw [← hc0] at kc
      rw [← hc1] at HBF
      have f1 : IntKind.i64.wrap ((c0 : Int) + 1) = (c1 : Int) := by rw [IntWalk.i64_in _ (by omega)]; omega
      have ic := fun W => run_idx (P := Tryd.prog) (sz := 1) Tryd.underlying22 (by kernel_rfl) gB 1 v hv .i64 W
      simp only [Nat.one_mul] at ic
      have kc0 : wr.drew.cell? ⟨gB, 1 + v, none⟩ = some (.int .i64 (c0 : Int)) := kc
      clear hc0 hc1 kc qBr
      go_upto_region 17 with fail
      refine wp_region_noPanic ?_
      refine wp_region_held_drew (S := fun _ => True) (by kernel_rfl) trivial (fun hHeld => ?_)
      refine wpAnyH_take (i := 0) (oi := ⟨some 71, _, _, _, _, _⟩) (v := ?_) rfl (by kernel_rfl) (by kernel_rfl) (by kernel_rfl) (fun _ _ _ h => h) (Or.inl ⟨by rfl, ?_⟩) hHeld ?_
      rotate_left
      · intro W hSW; have hSW0 := hSW; go_simp; first | done | with_reducible rfl
      (try simp only [Act.put, List.setIfInBounds_toArray, List.set_cons_zero, List.set_cons_succ])
      refine wpAnyH_take (i := 1) (oi := ⟨some 72, _, _, _, _, _⟩) (v := ?_) rfl (by kernel_rfl) (by kernel_rfl) (by kernel_rfl) (fun _ _ _ h => h) (Or.inl ⟨by rfl, ?_⟩) hHeld ?_
      rotate_left
      · intro W hSW; have hSW0 := hSW; go_simp; first | done | with_reducible rfl
      (try simp only [Act.put, List.setIfInBounds_toArray, List.set_cons_zero, List.set_cons_succ])
      refine wpAnyH_take (i := 2) (oi := ⟨some 73, _, _, _, _, _⟩) (v := ?_) rfl (by kernel_rfl) (by kernel_rfl) (by kernel_rfl) (fun _ _ _ h => h) (Or.inl ⟨by rfl, ?_⟩) hHeld ?_
      rotate_left
      · intro W hSW; have hSW0 := hSW; go_simp; first | done | with_reducible rfl
      (try simp only [Act.put, List.setIfInBounds_toArray, List.set_cons_zero, List.set_cons_succ])
      refine wpAnyH_take (i := 3) (oi := ⟨some 74, _, _, _, _, _⟩) (v := ?_) rfl (by kernel_rfl) (by kernel_rfl) (by kernel_rfl) (fun _ _ _ h => h) (Or.inl ⟨by rfl, ?_⟩) hHeld ?_
      rotate_left
      · intro W hSW; have hSW0 := hSW; go_simp; first | done | with_reducible rfl
      (try simp only [Act.put, List.setIfInBounds_toArray, List.set_cons_zero, List.set_cons_succ])
      refine wpAnyH_take (i := 4) (oi := ⟨some 75, _, _, _, _, _⟩) (v := ?_) rfl (by kernel_rfl) (by kernel_rfl) (by kernel_rfl) (fun _ _ _ h => h) (Or.inl ⟨by rfl, ?_⟩) hHeld ?_
      rotate_left
      · intro W hSW; have hSW0 := hSW; go_simp; first | done | with_reducible rfl
      (try simp only [Act.put, List.setIfInBounds_toArray, List.set_cons_zero, List.set_cons_succ])
      refine wpAnyH_take (i := 7) (oi := ⟨some 78, _, _, _, _, _⟩) (v := ?_) rfl (by kernel_rfl) (by kernel_rfl) (by kernel_rfl) (fun _ _ _ h => h) (Or.inl ⟨by rfl, ?_⟩) hHeld ?_
      rotate_left
      · intro W hSW; have hSW0 := hSW; go_simp; first | done | with_reducible rfl
      (try simp only [Act.put, List.setIfInBounds_toArray, List.set_cons_zero, List.set_cons_succ])
      refine wpAnyH_take (i := 8) (oi := ⟨some 79, _, _, _, _, _⟩) (v := ?_) rfl (by kernel_rfl) (by kernel_rfl) (by kernel_rfl) (fun _ _ _ h => h) (Or.inl ⟨by rfl, ?_⟩) hHeld ?_
      rotate_left
      · intro W hSW; have hSW0 := hSW; go_simp; first | done | with_reducible rfl
      (try simp only [Act.put, List.setIfInBounds_toArray, List.set_cons_zero, List.set_cons_succ])
      refine wpAnyH_ready (rs := [5]) (by kernel_rfl) (by simp) ?_
      refine AllReadyH.cons (o := ⟨some 76, _, _, _, _, _⟩) rfl (fun K hK => ?_) (AllReadyH.nil)
      go_simp
      clear hHeld
      refine hK.out _ _ ?_ (fun hHeld => ?_)
      · trivial
      clear hK K
      (try simp only [Act.put, List.setIfInBounds_toArray, List.set_cons_zero, List.set_cons_succ])
      refine wpAnyH_take (i := 6) (oi := ⟨some 77, _, _, _, _, _⟩) (v := ?_) rfl (by kernel_rfl) (by kernel_rfl) (by kernel_rfl) (fun _ _ _ h => h) (Or.inl ⟨by rfl, ?_⟩) hHeld ?_
      rotate_left
      · intro W hSW; have hSW0 := hSW; go_simp; first | done | with_reducible rfl
      (try simp only [Act.put, List.setIfInBounds_toArray, List.set_cons_zero, List.set_cons_succ])
      refine wpAnyH_take (i := 9) (oi := ⟨some 80, _, _, _, _, _⟩) (v := ?_) rfl (by kernel_rfl) (by kernel_rfl) (by kernel_rfl) (fun _ _ _ h => h) (Or.inl ⟨by rfl, ?_⟩) hHeld ?_
      rotate_left
      · intro W hSW; have hSW0 := hSW; go_simp; first | done | with_reducible rfl
      (try simp only [Act.put, List.setIfInBounds_toArray, List.set_cons_zero, List.set_cons_succ])
      refine wpAnyH_ready (rs := [10]) (by kernel_rfl) (by simp) ?_
      refine AllReadyH.cons (o := ⟨none, _, _, _, _, _⟩) rfl (fun K hK => ?_) (AllReadyH.nil)
      refine step_cell (by rfl) 3 _ _ (by rfl) gB (1 + v) (.int .i64 (c1 : Int)) (by rfl) (by rfl) 97 (BF n (Cv.cv row) (.slice (some ⟨gs, 0, none⟩) N N)) qB0 szB info3one rfl ?_
      intro W7 h7
      clear hHeld
      refine hK.out _ _ ?_ (fun hHeld => ?_)
      · trivial
      clear hK K
      (try simp only [Act.put, List.setIfInBounds_toArray, List.set_cons_zero, List.set_cons_succ])
      refine wpAnyH_done (by kernel_rfl) ?_ _
      refine NoPanic.normal ?_
      clear hHeld
      have hB7 := h7.row
      rw [HBF.out] at hB7
      have HL7 := Lib.hid (h7.blk HLAST.out hgsB)
      have HK7 := Lib.hid (HKPF.out.trans (Kp.drewUpd h7) (.inl rfl))
      clear h7
      go_wp2
      go_ret
      exact ⟨rfl, .slice (some ⟨gs, 0, none⟩) N N, ⟨hB7, .inr ⟨gs, by rw [HN.out], hgsB, HL7.out⟩⟩, HK7.out, (.inl rfl)⟩
/-- (*Buffer).Add. -/
theorem addC (gB n v T c : Nat) (b off : Nat) (row : List (Nat × List Nat)) (p : List Nat) (S : Value) (w : World) (hB : BufS w gB n row S) (hn : n ≤ 4096) (hrl : row.length ≤ 30) (hv : v < 4) (hT : T = n + 6) (hr : Rd w w.heap.size (some ⟨b, off, none⟩) T (U8 p)) (hp : ∀ x ∈ p, x ≤ 1) (hbB : b ≠ gB) (hbl : b < w.heap.size) (hbS : S.ownBlock ≠ some b) :
    Calls Tryd.prog 18 #[.pointer (some ⟨gB, 0, none⟩), .int .i64 (v : Int), .slice (some ⟨b, off, none⟩) T c] w (AddOk w gB n row S v p) := by
  rcases hB.sums with ⟨h, _⟩ | ⟨gs, h, _, _⟩
  · subst h
    exact add0 gB n v T c b off row p w hB hn hrl hv hT hr hp hbB hbl
  · subst h
    exact add1 gB n v T c gs _ rfl b off row p w hB hn hrl hv hT hr hp hbB hbl (fun e => hbS (by rw [e]; rfl))
end Go.Proofs.YtknfpdlomgllhaaDoor
