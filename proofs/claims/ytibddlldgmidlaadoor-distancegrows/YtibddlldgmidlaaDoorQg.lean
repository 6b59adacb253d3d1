/-
  Layer 12: the statements' first test; the walk of DistanceLeast.
-/
import Derived.Test.YtibddlldgmidlaaDoorQf
import Derived.Test.YtibddlldgmidlaaDoorMg
import Derived.Test.YtibddlldgmidlaaDoorPc
namespace Go.Proofs.YtibddlldgmidlaaDoor
open Go.RowKit
set_option linter.unusedVariables false
set_option linter.unusedSimpArgs false

theorem Taps.lowB {w w' : World} {B : Nat} (h : Taps w) (hb : Below B w w') (hB : 0 < B) : Taps w' :=
  ⟨(hb.cell (p := ⟨0, 0, none⟩) hB).trans h.c0, (hb.cell (p := ⟨0, 1, none⟩) hB).trans h.c1, (hb.cell (p := ⟨0, 2, none⟩) hB).trans h.c2, (hb.cell (p := ⟨0, 3, none⟩) hB).trans h.c3⟩
theorem ones_le : ∀ y ∈ [1, 1, 1, 1], y ≤ 7 := by decide
theorem zeros_le : ∀ y ∈ [0, 0, 0, 0], y ≤ 7 := by decide
theorem wof_ones (n : Nat) (h : Cv.Lst (wof [1, 1, 1, 1]) n) : 20 ≤ n := by
  refine (h.congr (u := fun _ => 1) fun v hv => ?_).ones
  have : v = 0 ∨ v = 1 ∨ v = 2 ∨ v = 3 := by omega
  rcases this with rfl | rfl | rfl | rfl <;> rfl
theorem wof_none (n : Nat) (h : Cv.Lst (wof [0, 0, 0, 0]) n) : n = 0 := by
  refine (h.congr (u := fun _ => 0) fun v hv => ?_).none
  have : v = 0 ∨ v = 1 ∨ v = 2 ∨ v = 3 := by omega
  rcases this with rfl | rfl | rfl | rfl <;> rfl
set_option maxHeartbeats 400000 in
/-- The statements' first test. -/
theorem apartC (w : World) (hT : Taps w) : Calls Tryd.prog 21 #[] w fun e w' => e = .returned (.bool true) ∧ Below w.heap.size w w' := by
  have C1 := Lib.hid (leastYes [1, 1, 1, 1] w rfl ones_le hT)
  have C2 := Lib.hid (fun W (hT : Taps W) => leastYes [0, 0, 0, 0] W rfl zeros_le hT)
  rw [show W4 (nw [1, 1, 1, 1]) = #[.int .i64 1, .int .i64 1, .int .i64 1, .int .i64 1] from rfl] at C1
  rw [show W4 (nw [0, 0, 0, 0]) = #[.int .i64 0, .int .i64 0, .int .i64 0, .int .i64 0] from rfl] at C2
  have HB := Lib.hid (fun n h => @Lst_bound7 [1, 1, 1, 1] ones_le n h)
  go_enter Tryd.func21, Tryd.ntmps21
  go_wp2_with fail
  refine C1.out.mono ?_
  rintro e w1 ⟨n, rfl, hn, hb1⟩
  have h20 := wof_ones n hn
  have hnb := HB.out n hn
  clear hn
  go_wp2_with fail
  refine (C2.out w1 (hT.after hb1)).mono ?_
  rintro e w2 ⟨m, rfl, hm, hb2⟩
  obtain rfl := wof_none m hm
  clear hm
  have d1 : decide ((12 : Int) ≤ (n : Int)) = true := by simp; omega
  have d2 : decide (12 ≤ n) = true := by simp; omega
  go_wp2
  go_ret
  exact ⟨rfl, Below.then_ hb1 hb2⟩

/-- Numbers that are weights. -/
theorem inW_nat (zs : List Int) (h : inW zs = true) : ∃ ws : List Nat, zs = nw ws ∧ ∀ y ∈ ws, y ≤ 7 := by
  refine ⟨zs.map Int.toNat, ?_, fun y hy => ?_⟩
  · unfold nw
    rw [List.map_map]
    refine (List.map_id zs).symm.trans (List.map_congr_left fun z hz => ?_)
    have := List.all_eq_true.1 h z hz
    simp at this
    show z = ((z.toNat : Nat) : Int)
    omega
  · obtain ⟨z, hz, rfl⟩ := List.mem_map.1 hy
    have := List.all_eq_true.1 h z hz
    simp at this
    omega
set_option maxHeartbeats 600000 in
/-- DistanceLeast. -/
theorem walkDistanceLeast (zs : List Int) (w : World) (hl : zs.length = 4) (hT : Taps w) : Calls Tryd.prog 6 #[.agg (W4 zs)] w fun e w' => e = .returned (.bool true) ∧ Below w.heap.size w w' := by
  have iZ : Hid ((Tryd.prog.info? 36).map (·.size) = some (W4 zs).size) := by unfold Hid; rw [W4_size, hl]; exact info4w
  have CA := Lib.hid apartC
  have CR := Lib.hid (fun W => refRight12 zs W hl)
  by_cases h : inW zs = true
  · rw [h] at CR
    obtain ⟨ws, rfl, hb⟩ := inW_nat zs h
    rw [nw_length] at hl
    have C1 := Lib.hid (fun W (hT : Taps W) => leastYes ws W hl hb hT)
    have C2 := Lib.hid (fun W (hT : Taps W) => mendsYes ws W hl hb hT)
    have C3 := Lib.hid (fun W => refLeast ws W hl hb)
    have HB := Lib.hid (fun n hn => @Lst_bound7 ws hb n hn)
    clear h hb hl
    go_enter Tryd.func6, Tryd.ntmps6
    generalize hZ : W4 (nw ws) = Z at *
    clear hZ
    go_upto_region 7 with (first | (refine at_box rfl 36 _ rfl Z rfl ?_; intro w1 h1; have q1 := h1.row) | (refine at_load rfl 36 _ rfl w.heap.size rfl 36 Z _ q1 Tryd.underlying36 rfl iZ.out ?_) | (go_at_call 19; refine (C1.out w1 (hT.after h1.bel)).mono ?_; rintro e w2 ⟨n, rfl, hn, hb2⟩; have q1 := q1.after hb2) | (go_at_call 20; refine (C2.out w2 (hT.after (Below.then_ h1.bel hb2))).mono ?_; rintro e w3 ⟨m, q, rfl, hq, hm, hb3⟩; have HQ := Lib.hid hq; clear hq; have q1 := q1.after hb3) | (go_at_call 21; refine (CA.out w3 (hT.after (Below.then_ (Below.then_ h1.bel hb2) hb3))).mono ?_; rintro e w4 ⟨rfl, hb4⟩; have q1 := q1.after hb4) | (go_at_call 22; refine (CR.out w4).mono ?_; rintro e w5 ⟨rfl, hb5⟩; have q1 := q1.after hb5))
    obtain rfl := Cv.Lst.uniq (w := wof ws) hn hm
    have hnb := HB.out n hn
    have HN := Lib.hid hn
    clear hn hm
    have hq := HQ.out
    have m1 : max (q : Int) 0 = (q : Int) := by omega
    have m2 : (if (q : Int) < 0 then (0 : Int) else (q : Int)) = (q : Int) := by split <;> omega
    have tq : ((q : Int) == (q : Int)) = true := by simp
    have tn : ((n : Int) == (n : Int)) = true := by simp
    have HU : Hid (∀ k, Cv.Lst (fun v => ws.getD v 0) k → n = k) := fun k hk => Cv.Lst.uniq (w := wof ws) HN.out hk
    by_cases h0 : n = 0
    · have e1 : (n : Int) - 1 = -1 := by omega
      have hq0 : q = 0 := by omega
      subst hq0
      have e2 : (-1 : Int).tdiv 2 = 0 := rfl
      have x1 : wrap64 0 = 0 := by unfold wrap64; omega
      clear h0 hq
      go_wp2_with (first | (refine at_load_g (by rfl) 36 _ rfl w.heap.size rfl 36 Z _ q1 Tryd.underlying36 rfl iZ.out ?_) | (go_at_call 23; refine (C3.out w5).mono ?_; rintro e w6 ⟨k, rfl, hk, hb6⟩; obtain rfl := HU.out k hk))
      go_ret
      exact ⟨rfl, Below.then_ (Below.then_ (Below.then_ (Below.then_ (Below.then_ h1.bel hb2) hb3) hb4) hb5) hb6⟩
    · obtain ⟨p, hp⟩ : ∃ p, n - 1 = p := ⟨_, rfl⟩
      have e1 : (n : Int) - 1 = (p : Int) := by omega
      have e2 : (p : Int) / 2 = (q : Int) := by omega
      clear h0 hq hp
      go_wp2_with (first | (refine at_load_g (by rfl) 36 _ rfl w.heap.size rfl 36 Z _ q1 Tryd.underlying36 rfl iZ.out ?_) | (go_at_call 23; refine (C3.out w5).mono ?_; rintro e w6 ⟨k, rfl, hk, hb6⟩; obtain rfl := HU.out k hk))
      go_ret
      exact ⟨rfl, Below.then_ (Below.then_ (Below.then_ (Below.then_ (Below.then_ h1.bel hb2) hb3) hb4) hb5) hb6⟩
  · have hf : inW zs = false := by simpa using h
    rw [hf] at CR
    have C1 := Lib.hid (fun W => leastNo zs W hl hf)
    have C2 := Lib.hid (fun W => mendsNo zs W hl hf)
    clear h hf hl
    go_enter Tryd.func6, Tryd.ntmps6
    generalize hZ : W4 zs = Z at *
    clear hZ
    go_wp2_with (first | (refine at_box rfl 36 _ rfl Z rfl ?_; intro w1 h1; have q1 := h1.row) | (refine at_load rfl 36 _ rfl w.heap.size rfl 36 Z _ q1 Tryd.underlying36 rfl iZ.out ?_) | (go_at_call 19; refine (C1.out w1).mono ?_; rintro e w2 ⟨rfl, hb2⟩; have q1 := q1.after hb2) | (go_at_call 20; refine (C2.out w2).mono ?_; rintro e w3 ⟨rfl, hb3⟩; have q1 := q1.after hb3) | (go_at_call 21; refine (CA.out w3 (hT.after (Below.then_ (Below.then_ h1.bel hb2) hb3))).mono ?_; rintro e w4 ⟨rfl, hb4⟩; have q1 := q1.after hb4) | (go_at_call 22; refine (CR.out w4).mono ?_; rintro e w5 ⟨rfl, hb5⟩; have q1 := q1.after hb5))
    go_ret
    exact ⟨rfl, Below.then_ (Below.then_ (Below.then_ (Below.then_ h1.bel hb2) hb3) hb4) hb5⟩
end Go.Proofs.YtibddlldgmidlaaDoor
