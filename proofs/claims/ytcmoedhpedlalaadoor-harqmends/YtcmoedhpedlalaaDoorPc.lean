/-
  Contract of layer 12's reference: Least.
-/
import Derived.Test.YtcmoedhpedlalaaDoorPb
import Derived.Test.YtcmoedhpedlalaaDoorPt
import Derived.Test.YtcmoedhpedlalaaDoorTs
import Derived.Test.YtcmoedhpedlalaaDoorMh
namespace Go.Proofs.YtcmoedhpedlalaaDoor
open Go.RowKit
set_option maxRecDepth 100000
set_option linter.unusedVariables false
set_option linter.unusedSimpArgs false

noncomputable def zcells (t : TypeId) : Array Value := ((Tryd.prog.info? t).bind (fun i => i.zero.map (fun z => z.cells))).getD #[]
theorem ZA_eq : (Tryd.prog.info? 103).bind (fun i => i.zero.map (fun z => z.cells)) = some (zcells 103) := by kernel_rfl
theorem ZA_size : (zcells 103).size = 896 := by kernel_rfl
theorem ZB_eq : (Tryd.prog.info? 105).bind (fun i => i.zero.map (fun z => z.cells)) = some (zcells 105) := by kernel_rfl
theorem ZB_size : (zcells 105).size = 512 := by kernel_rfl
theorem ZC_eq : (Tryd.prog.info? 108).bind (fun i => i.zero.map (fun z => z.cells)) = some (zcells 108) := by kernel_rfl
theorem ZC_size : (zcells 108).size = 256 := by kernel_rfl
/-- The edges of the first q. -/
def EdT (cs : Array Value) (q : Nat) : Prop := cs.size = 896 ∧ ∀ s x, s < 64 → x ≤ 1 → 2 * s + x < q → ∀ i u, (E7 s x).toList[i]? = some u → cs[14 * s + 7 * x + i]? = some u
/-- The weights of the first p. -/
def WtT (w : Nat → Nat) (ds : Array Value) (p : Nat) : Prop := ds.size = 512 ∧ ∀ s x t, s < 64 → x ≤ 1 → t < 4 → 8 * s + 4 * x + t < p → ds[8 * s + 4 * x + t]? = some (.int .i64 (Cv.ew w t s x : Nat))
theorem EdT.next {cs cs' : Array Value} {s x : Nat} (h : EdT cs (2 * s + x)) (hs : s < 64) (hx : x ≤ 1) (hz : cs'.size = cs.size) (hg : ∀ i, cs'[i]? = if 14 * s + 7 * x ≤ i ∧ i < 14 * s + 7 * x + (E7 s x).size then (E7 s x)[i - (14 * s + 7 * x)]? else cs[i]?) : EdT cs' (2 * s + x + 1) := by
  refine ⟨hz.trans h.1, fun s' x' hs' hx' hlt i u hu => ?_⟩
  have hi : i < 7 := by
    have := (List.getElem?_eq_some_iff.1 hu).1
    rw [Array.length_toList, E7_size] at this
    exact this
  rw [hg, E7_size]
  by_cases he : s' = s ∧ x' = x
  · obtain ⟨rfl, rfl⟩ := he
    rw [if_pos (by omega), show 14 * s' + 7 * x' + i - (14 * s' + 7 * x') = i by omega, ← Array.getElem?_toList]
    exact hu
  · rw [if_neg (by omega)]
    exact h.2 s' x' hs' hx' (by omega) i u hu
theorem WtT.next {w : Nat → Nat} {ds : Array Value} {s x t : Nat} (h : WtT w ds (8 * s + 4 * x + t)) (hs : s < 64) (hx : x ≤ 1) (ht : t < 4) : WtT w (ds.setIfInBounds (8 * s + 4 * x + t) (.int .i64 (Cv.ew w t s x : Nat))) (8 * s + 4 * x + t + 1) := by
  refine ⟨by rw [Array.size_setIfInBounds]; exact h.1, fun s' x' t' hs' hx' ht' hlt => ?_⟩
  by_cases he : 8 * s' + 4 * x' + t' = 8 * s + 4 * x + t
  · have e1 : s' = s := by omega
    have e2 : x' = x := by omega
    have e3 : t' = t := by omega
    subst e1 e2 e3
    rw [Array.getElem?_setIfInBounds_self_of_lt (by rw [h.1]; omega)]
  · rw [Array.getElem?_setIfInBounds_ne (by omega)]
    exact h.2 s' x' t' hs' hx' ht' (by omega)
/-- What Least gives. -/
def Leasted (u : Nat → Nat) (w : World) (e : Ending) (w' : World) : Prop := ∃ n : Nat, e = .returned (.int .i64 (n : Int)) ∧ Cv.Lst u n ∧ Below w.heap.size w w'

set_option maxHeartbeats 4000000 in
set_option maxRecDepth 100000 in
/-- The reference's Least. -/
theorem refLeast (ws : List Nat) (w : World) (hl : ws.length = 4) (hb : ∀ y ∈ ws, y ≤ 7) : Calls Tryd.prog 24 #[.agg (W4 (nw ws))] w (Leasted (fun v => ws.getD v 0) w) := by
  have HSR := Lib.hid (fun s x hs hx W => stepR s x W hs hx)
  have HWE := Lib.hid (fun s x t ht W => weighC s x t ws W hl hb ht)
  have HW7 := Lib.hid (getD_seven ws hb)
  have iZ : Hid ((Tryd.prog.info? 45).map (·.size) = some (W4 (nw ws)).size) := by unfold Hid; rw [W4_size, nw_length, hl]; exact info4w
  clear hb hl
  generalize hu : (fun v => ws.getD v 0) = u at *
  have HU : Hid (∀ v, v < 4 → u v ≤ 7) := fun v _ => by rw [← hu]; exact HW7.out v
  have HEB := Lib.hid (Cv.ew_bound HU.out)
  clear hu HW7
  go_enter Tryd.func24, Tryd.ntmps24
  generalize W4 (nw ws) = Z at *
  go_wp2_with (first | (refine at_box rfl 45 _ rfl Z rfl ?_; intro w1 h1) | (refine at_alloc rfl 103 rfl (zcells 103) ZA_eq ?_; intro w2 h2) | (refine at_alloc rfl 105 rfl (zcells 105) ZB_eq ?_; intro w3 h3))
  have q1 := (h1.row.after h2.bel).after h3.bel
  have q4 := h2.row.after h3.bel
  have q5 := h3.row
  have b3 := Below.then_ (Below.then_ h1.bel h2.bel) h3.bel
  have g14 : w.heap.size < w1.heap.size := by rw [h1.size]; omega
  have g45 : w1.heap.size < w2.heap.size := by rw [h2.size]; omega
  generalize hg1 : w.heap.size = g1 at *
  have HG := Lib.hid hg1
  generalize w1.heap.size = g4 at *
  generalize w2.heap.size = g5 at *
  clear h1 h2 h3 hg1
  go_loopw [6] (fun i wr => ∃ s : Nat, s ≤ 64 ∧ i = .int .i64 s ∧ Blk wr g1 45 Z ∧ Below g1 w wr ∧ ∃ cs ds : Array Value, Blk wr g4 103 cs ∧ Blk wr g5 105 ds ∧ Hid (EdT cs (2 * s) ∧ WtT u ds (8 * s))) (fun i _ => 64 - (intOf i).toNat)
  case atStart => exact ⟨0, by omega, rfl, q1, b3, _, _, q4, q5, ⟨ZA_size, fun s x _ _ h => by omega⟩, ⟨ZB_size, fun s x t _ _ _ h => by omega⟩⟩
  case round =>
    clear q1 q4 q5 b3
    obtain ⟨s, hs, rfl, q1, bel, cs, ds, q4, q5, HED⟩ := hrel
    by_cases hlt : s < 64
    · have dS : decide ((s : Int) < 64) = true := by simp; omega
      go_wp2
      go_loopw [7] (fun i wr => ∃ x : Nat, x ≤ 2 ∧ i = .int .i64 x ∧ Blk wr g1 45 Z ∧ Below g1 w wr ∧ ∃ cs ds : Array Value, Blk wr g4 103 cs ∧ Blk wr g5 105 ds ∧ Hid (EdT cs (2 * s + x) ∧ WtT u ds (8 * s + 4 * x))) (fun i _ => 2 - (intOf i).toNat)
      case atStart => exact ⟨0, by omega, rfl, q1, bel, cs, ds, q4, q5, HED.out⟩
      case round =>
        clear q1 q4 q5 bel HED cs ds
        obtain ⟨x, hx, rfl, q1, bel, cs, ds, q4, q5, HED⟩ := hrel
        by_cases hlt2 : x < 2
        · have dX : decide ((x : Int) < 2) = true := by simp; omega
          have hx1 : x ≤ 1 := by omega
          have CS := Lib.hid (HSR.out s x hlt hx1)
          have HNX : Hid (∀ cs' : Array Value, cs'.size = cs.size → (∀ i, cs'[i]? = if 14 * s + 7 * x ≤ i ∧ i < 14 * s + 7 * x + (E7 s x).size then (E7 s x)[i - (14 * s + 7 * x)]? else cs[i]?) → EdT cs' (2 * s + x + 1)) := fun cs' h1 h2 => HED.out.1.next hlt hx1 h1 h2
          have hfit : 14 * s + 7 * x + (E7 s x).size ≤ cs.size := by rw [E7_size, HED.out.1.1]; omega
          have iX : Hid ((Tryd.prog.info? 101).map (·.size) = some (E7 s x).size) := infoR7
          have oX := Lib.hid (E7_one s x)
          have ia := fun W => run_idx (P := Tryd.prog) (sz := 14) Tryd.underlying103 (by kernel_rfl) g4 0 s hlt .i64 W
          have ib := fun W => run_idx (P := Tryd.prog) (sz := 7) Tryd.underlying102 (by kernel_rfl) g4 (0 + 14 * s) x hlt2 .i64 W
          have ic := fun W => run_idx (P := Tryd.prog) (sz := 8) Tryd.underlying105 (by kernel_rfl) g5 0 s hlt .i64 W
          have id := fun W => run_idx (P := Tryd.prog) (sz := 4) Tryd.underlying104 (by kernel_rfl) g5 (0 + 8 * s) x hlt2 .i64 W
          simp only [Nat.zero_add] at ia ib ic id
          have f4 : IntKind.u8.wrap (x : Int) = (x : Int) := by
            have : x = 0 ∨ x = 1 := by omega
            rcases this with rfl | rfl <;> rfl
          have HWX := Lib.hid (HWE.out s x)
          have HXR : Hid (∀ cs', EdT cs' (2 * s + x + 1) → ∀ i u, (E7 s x).toList[i]? = some u → cs'[14 * s + 7 * x + i]? = some u) := fun cs' h => h.2 s x hlt hx1 (by omega)
          generalize E7 s x = EX at *
          have a_0 := q4.drew
          have q1_0 := q1.drew
          have q5_0 := q5.drew
          have bl_0 := bel.drew
          go_wp2_with fail
          refine wp_region_noPanic ?_
          refine wp_region_held_drew (S := fun W => True) (by kernel_rfl) trivial (fun hHeld => ?_)
          refine wpAnyH_take (i := 0) (oi := ⟨some 29, _, _, _, _, _⟩) (v := ?_) rfl (by kernel_rfl) (by kernel_rfl) (by kernel_rfl) (fun _ _ _ h => h) (Or.inl ⟨by rfl, ?_⟩) hHeld ?_
          rotate_left
          · intro W hSW; have hSW0 := hSW; go_simp; first | done | with_reducible rfl
          (try simp only [Act.put, List.setIfInBounds_toArray, List.set_cons_zero, List.set_cons_succ])
          refine wpAnyH_take (i := 1) (oi := ⟨some 30, _, _, _, _, _⟩) (v := ?_) rfl (by kernel_rfl) (by kernel_rfl) (by kernel_rfl) (fun _ _ _ h => h) (Or.inl ⟨by rfl, ?_⟩) hHeld ?_
          rotate_left
          · intro W hSW; have hSW0 := hSW; go_simp; first | done | with_reducible rfl
          (try simp only [Act.put, List.setIfInBounds_toArray, List.set_cons_zero, List.set_cons_succ])
          refine wpAnyH_take (i := 2) (oi := ⟨some 31, _, _, _, _, _⟩) (v := ?_) rfl (by kernel_rfl) (by kernel_rfl) (by kernel_rfl) (fun _ _ _ h => h) (Or.inl ⟨by rfl, ?_⟩) hHeld ?_
          rotate_left
          · intro W hSW; have hSW0 := hSW; go_simp; first | done | with_reducible rfl
          (try simp only [Act.put, List.setIfInBounds_toArray, List.set_cons_zero, List.set_cons_succ])
          refine wpAnyH_take (i := 3) (oi := ⟨some 32, _, _, _, _, _⟩) (v := ?_) rfl (by kernel_rfl) (by kernel_rfl) (by kernel_rfl) (fun _ _ _ h => h) (Or.inl ⟨by rfl, ?_⟩) hHeld ?_
          rotate_left
          · intro W hSW; have hSW0 := hSW; go_simp; first | done | with_reducible rfl
          (try simp only [Act.put, List.setIfInBounds_toArray, List.set_cons_zero, List.set_cons_succ])
          refine wpAnyH_take (i := 4) (oi := ⟨some 33, _, _, _, _, _⟩) (v := ?_) rfl (by kernel_rfl) (by kernel_rfl) (by kernel_rfl) (fun _ _ _ h => h) (Or.inl ⟨by rfl, ?_⟩) hHeld ?_
          rotate_left
          · intro W hSW; have hSW0 := hSW; go_simp; first | done | with_reducible rfl
          (try simp only [Act.put, List.setIfInBounds_toArray, List.set_cons_zero, List.set_cons_succ])
          refine wpAnyH_take (i := 6) (oi := ⟨some 35, _, _, _, _, _⟩) (v := ?_) rfl (by kernel_rfl) (by kernel_rfl) (by kernel_rfl) (fun _ _ _ h => h) (Or.inl ⟨by rfl, ?_⟩) hHeld ?_
          rotate_left
          · intro W hSW; have hSW0 := hSW; go_simp; first | done | with_reducible rfl
          (try simp only [Act.put, List.setIfInBounds_toArray, List.set_cons_zero, List.set_cons_succ])
          refine wpAnyH_ready (rs := [5]) (by kernel_rfl) (by simp) ?_
          refine AllReadyH.cons (o := ⟨some 34, _, _, _, _, _⟩) rfl (fun K hK => ?_) (AllReadyH.nil)
          go_simp
          refine (CS.out _).mono ?_
          rintro e W1 ⟨rfl, hb_1⟩
          have a_1 := a_0.after hb_1
          have q1_1 := q1_0.after hb_1
          have q5_1 := q5_0.after hb_1
          have bl_1 := bl_0.trans (hb_1.mono (Nat.le_of_lt q1_0.lt))
          clear hHeld
          refine hK.out _ _ ?_ (fun hHeld => ?_)
          · trivial
          clear hK K
          (try simp only [Act.put, List.setIfInBounds_toArray, List.set_cons_zero, List.set_cons_succ])
          refine wpAnyH_take (i := 7) (oi := ⟨some 36, _, _, _, _, _⟩) (v := ?_) rfl (by kernel_rfl) (by kernel_rfl) (by kernel_rfl) (fun _ _ _ h => h) (Or.inl ⟨by rfl, ?_⟩) hHeld ?_
          rotate_left
          · intro W hSW; have hSW0 := hSW; go_simp; first | done | with_reducible rfl
          (try simp only [Act.put, List.setIfInBounds_toArray, List.set_cons_zero, List.set_cons_succ])
          refine wpAnyH_ready (rs := [8]) (by kernel_rfl) (by simp) ?_
          refine AllReadyH.cons (o := ⟨none, _, _, _, _, _⟩) rfl (fun K hK => ?_) (AllReadyH.nil)
          refine step_store_mid (by rfl) 101 _ _ (by rfl) g4 (14 * s + 7 * x) EX (by rfl) (by rfl) 103 cs a_1 iX.out hfit oX.out ?_
          intro W2 cs2 h2 hz2 hg2
          clear hHeld
          refine hK.out _ _ ?_ (fun hHeld => ?_)
          · trivial
          clear hK K
          (try simp only [Act.put, List.setIfInBounds_toArray, List.set_cons_zero, List.set_cons_succ])
          refine wpAnyH_done (by kernel_rfl) ?_ _
          refine NoPanic.normal ?_
          clear hHeld
          have HE2 := Lib.hid (HNX.out cs2 hz2 hg2)
          have q1_2 := h2.blk q1_1 (by omega)
          have q5_2 := h2.blk q5_1 (by omega)
          have a_2 := h2.row
          have bl_2 := bl_1.trans (h2.below (by omega))
          have HWT : Hid (WtT u ds (8 * s + 4 * x + 0)) := HED.out.2
          clear a_0 a_1 q1_0 q1_1 q5_0 q5_1 bl_0 bl_1 h2 hz2 hg2 HNX hfit HED q1 q4 q5 bel ia ib
          go_wp2
          go_loopw [8] (fun i wr => ∃ t : Nat, t ≤ 4 ∧ i = .int .i64 t ∧ Blk wr g1 45 Z ∧ Blk wr g4 103 cs2 ∧ Below g1 w wr ∧ ∃ ds : Array Value, Blk wr g5 105 ds ∧ Hid (WtT u ds (8 * s + 4 * x + t))) (fun i _ => 4 - (intOf i).toNat)
          case atStart => exact ⟨0, by omega, rfl, q1_2, a_2, bl_2, ds, q5_2, HWT.out⟩
          case round =>
            clear q1_2 a_2 bl_2 q5_2 HWT ds
            obtain ⟨t, ht, rfl, q1, q4, bel, ds, q5, HWT⟩ := hrel
            by_cases hlt3 : t < 4
            · have CW := Lib.hid (HWX.out t (by omega))
              have HN := Lib.hid (HWT.out.next hlt hx1 hlt3)
              have hlt8 : 8 * s + 4 * x + t < ds.size := by rw [HWT.out.1]; omega
              have hV := HEB.out t s x
              have HRA := Lib.hid (HXR.out cs2 HE2.out)
              have ia := fun W => run_idx (P := Tryd.prog) (sz := 14) Tryd.underlying103 (by kernel_rfl) g4 0 s hlt .i64 W
              have ib := fun W => run_idx (P := Tryd.prog) (sz := 7) Tryd.underlying102 (by kernel_rfl) g4 (0 + 14 * s) x hlt2 .i64 W
              have ie := fun W => run_idx (P := Tryd.prog) (sz := 1) Tryd.underlying45 (by kernel_rfl) g5 (8 * s + 4 * x) t hlt3 .i64 W
              simp only [Nat.zero_add, Nat.one_mul] at ia ib ie
              generalize Cv.ew u t s x = V at *
              generalize cs2 = cs at *
              have a_0 := q4.drew
              have q1_0 := q1.drew
              have q5_0 := q5.drew
              have bl_0 := bel.drew
              go_wp2_with fail
              refine wp_region_noPanic ?_
              refine wp_region_held_drew (S := fun W => Blk W g4 103 cs ∧ Blk W g1 45 Z) (by kernel_rfl) ⟨a_0, q1_0⟩ (fun hHeld => ?_)
              refine wpAnyH_take (i := 0) (oi := ⟨some 41, _, _, _, _, _⟩) (v := ?_) rfl (by kernel_rfl) (by kernel_rfl) (by kernel_rfl) (fun _ _ _ h => h) (Or.inl ⟨by rfl, ?_⟩) hHeld ?_
              rotate_left
              · intro W hSW; obtain ⟨hSW0, hSW1⟩ := hSW; go_simp; first | done | with_reducible rfl
              (try simp only [Act.put, List.setIfInBounds_toArray, List.set_cons_zero, List.set_cons_succ])
              refine wpAnyH_take (i := 1) (oi := ⟨some 42, _, _, _, _, _⟩) (v := ?_) rfl (by kernel_rfl) (by kernel_rfl) (by kernel_rfl) (fun _ _ _ h => h) (Or.inl ⟨by rfl, ?_⟩) hHeld ?_
              rotate_left
              · intro W hSW; obtain ⟨hSW0, hSW1⟩ := hSW; go_simp; first | done | with_reducible rfl
              (try simp only [Act.put, List.setIfInBounds_toArray, List.set_cons_zero, List.set_cons_succ])
              refine wpAnyH_take (i := 2) (oi := ⟨some 43, _, _, _, _, _⟩) (v := ?_) rfl (by kernel_rfl) (by kernel_rfl) (by kernel_rfl) (fun _ _ _ h => h) (Or.inl ⟨by rfl, ?_⟩) hHeld ?_
              rotate_left
              · intro W hSW; obtain ⟨hSW0, hSW1⟩ := hSW; go_simp; first | done | with_reducible rfl
              (try simp only [Act.put, List.setIfInBounds_toArray, List.set_cons_zero, List.set_cons_succ])
              refine wpAnyH_take (i := 3) (oi := ⟨some 44, _, _, _, _, _⟩) (v := ?_) rfl (by kernel_rfl) (by kernel_rfl) (by kernel_rfl) (fun _ _ _ h => h) (Or.inl ⟨by rfl, ?_⟩) hHeld ?_
              rotate_left
              · intro W hSW; obtain ⟨hSW0, hSW1⟩ := hSW; go_simp; first | done | with_reducible rfl
              (try simp only [Act.put, List.setIfInBounds_toArray, List.set_cons_zero, List.set_cons_succ])
              refine wpAnyH_take (i := 4) (oi := ⟨some 45, _, _, _, _, _⟩) (v := ?_) rfl (by kernel_rfl) (by kernel_rfl) (by kernel_rfl) (fun _ _ _ h => h) (Or.inl ⟨by rfl, ?_⟩) hHeld ?_
              rotate_left
              · intro W hSW; obtain ⟨hSW0, hSW1⟩ := hSW; go_simp; first | done | with_reducible rfl
              (try simp only [Act.put, List.setIfInBounds_toArray, List.set_cons_zero, List.set_cons_succ])
              refine wpAnyH_take (i := 5) (oi := ⟨some 46, _, _, _, _, _⟩) (v := ?_) rfl (by kernel_rfl) (by kernel_rfl) (by kernel_rfl) (fun _ _ _ h => h) (Or.inl ⟨by rfl, ?_⟩) hHeld ?_
              rotate_left
              · intro W hSW; obtain ⟨hSW0, hSW1⟩ := hSW; go_simp; first | done | with_reducible rfl
              (try simp only [Act.put, List.setIfInBounds_toArray, List.set_cons_zero, List.set_cons_succ])
              refine wpAnyH_take (i := 6) (oi := ⟨some 47, _, _, _, _, _⟩) (v := ?_) rfl (by kernel_rfl) (by kernel_rfl) (by kernel_rfl) (fun _ _ _ h => h) (Or.inl ⟨by rfl, ?_⟩) hHeld ?_
              rotate_left
              · intro W hSW; obtain ⟨hSW0, hSW1⟩ := hSW; go_simp; first | done | with_reducible rfl
              (try simp only [Act.put, List.setIfInBounds_toArray, List.set_cons_zero, List.set_cons_succ])
              refine wpAnyH_take (i := 7) (oi := ⟨some 48, _, _, _, _, _⟩) (v := _) rfl (by kernel_rfl) (by kernel_rfl) (by kernel_rfl) (fun _ _ _ h => h) (yields_mid (by rfl) 101 _ (by rfl) g4 (14 * s + 7 * x) (by rfl) EX _ (fun W h => h.1.range _ _ HRA.out) Tryd.underlying101 rfl iX.out) hHeld ?_
              (try simp only [Act.put, List.setIfInBounds_toArray, List.set_cons_zero, List.set_cons_succ])
              refine wpAnyH_take (i := 8) (oi := ⟨some 49, _, _, _, _, _⟩) (v := ?_) rfl (by kernel_rfl) (by kernel_rfl) (by kernel_rfl) (fun _ _ _ h => h) (Or.inl ⟨by rfl, ?_⟩) hHeld ?_
              rotate_left
              · intro W hSW; obtain ⟨hSW0, hSW1⟩ := hSW; go_simp; first | done | with_reducible rfl
              (try simp only [Act.put, List.setIfInBounds_toArray, List.set_cons_zero, List.set_cons_succ])
              refine wpAnyH_take (i := 9) (oi := ⟨some 50, _, _, _, _, _⟩) (v := _) rfl (by kernel_rfl) (by kernel_rfl) (by kernel_rfl) (fun _ _ _ h => h) (yields_row (by rfl) 45 _ (by rfl) g1 (by rfl) 45 Z _ (fun W h => h.2) Tryd.underlying45 rfl iZ.out) hHeld ?_
              (try simp only [Act.put, List.setIfInBounds_toArray, List.set_cons_zero, List.set_cons_succ])
              refine wpAnyH_take (i := 11) (oi := ⟨some 52, _, _, _, _, _⟩) (v := ?_) rfl (by kernel_rfl) (by kernel_rfl) (by kernel_rfl) (fun _ _ _ h => h) (Or.inl ⟨by rfl, ?_⟩) hHeld ?_
              rotate_left
              · intro W hSW; obtain ⟨hSW0, hSW1⟩ := hSW; go_simp; first | done | with_reducible rfl
              (try simp only [Act.put, List.setIfInBounds_toArray, List.set_cons_zero, List.set_cons_succ])
              refine wpAnyH_take (i := 12) (oi := ⟨some 53, _, _, _, _, _⟩) (v := ?_) rfl (by kernel_rfl) (by kernel_rfl) (by kernel_rfl) (fun _ _ _ h => h) (Or.inl ⟨by rfl, ?_⟩) hHeld ?_
              rotate_left
              · intro W hSW; obtain ⟨hSW0, hSW1⟩ := hSW; go_simp; first | done | with_reducible rfl
              (try simp only [Act.put, List.setIfInBounds_toArray, List.set_cons_zero, List.set_cons_succ])
              refine wpAnyH_ready (rs := [10]) (by kernel_rfl) (by simp) ?_
              refine AllReadyH.cons (o := ⟨some 51, _, _, _, _, _⟩) rfl (fun K hK => ?_) (AllReadyH.nil)
              go_simp
              refine (CW.out _).mono ?_
              rintro e W1 ⟨rfl, hb_1⟩
              have a_1 := a_0.after hb_1
              have q1_1 := q1_0.after hb_1
              have q5_1 := q5_0.after hb_1
              have bl_1 := bl_0.trans (hb_1.mono (Nat.le_of_lt q1_0.lt))
              clear hHeld
              refine hK.out _ _ ?_ (fun hHeld => ?_)
              · exact ⟨a_1, q1_1⟩
              clear hK K
              (try simp only [Act.put, List.setIfInBounds_toArray, List.set_cons_zero, List.set_cons_succ])
              refine wpAnyH_take (i := 13) (oi := ⟨some 54, _, _, _, _, _⟩) (v := ?_) rfl (by kernel_rfl) (by kernel_rfl) (by kernel_rfl) (fun _ _ _ h => h) (Or.inl ⟨by rfl, ?_⟩) hHeld ?_
              rotate_left
              · intro W hSW; obtain ⟨hSW0, hSW1⟩ := hSW; go_simp; first | done | with_reducible rfl
              (try simp only [Act.put, List.setIfInBounds_toArray, List.set_cons_zero, List.set_cons_succ])
              refine wpAnyH_ready (rs := [14]) (by kernel_rfl) (by simp) ?_
              refine AllReadyH.cons (o := ⟨none, _, _, _, _, _⟩) rfl (fun K hK => ?_) (AllReadyH.nil)
              refine step_cell (by rfl) 3 _ _ (by rfl) g5 (8 * s + 4 * x + t) (.int .i64 (V : Int)) (by rfl) (by rfl) 105 ds q5_1 hlt8 info3one rfl ?_
              intro W2 h2
              clear hHeld
              refine hK.out _ _ ?_ (fun hHeld => ?_)
              · exact ⟨h2.blk a_1 (by omega), h2.blk q1_1 (by omega)⟩
              clear hK K
              (try simp only [Act.put, List.setIfInBounds_toArray, List.set_cons_zero, List.set_cons_succ])
              refine wpAnyH_done (by kernel_rfl) ?_ _
              refine NoPanic.normal ?_
              clear hHeld
              go_wp2
              go_roundw
              case rel => exact ⟨t + 1, by omega, by go_num, h2.blk q1_1 (by omega), h2.blk a_1 (by omega), bl_1.trans (h2.below (by omega)), _, h2.row, HN.out⟩
              case measure => simp [intOf] <;> omega
            · obtain rfl : t = 4 := by omega
              go_wp2
              go_roundw
              case rel => first | exact ⟨x + 1, by omega, by go_num, q1, bel, cs2, ds, q4, q5, HE2.out, HWT.out⟩ | ((repeat apply Exists.intro); exact ⟨⟨x + 1, by omega, by go_num, q1, bel, cs2, ds, q4, q5, HE2.out, HWT.out⟩, rfl⟩)
              case measure => simp [intOf] <;> omega
        · have HX2 : Hid (x = 2) := by unfold Hid; omega
          go_wp2
          go_roundw
          case rel => first | exact ⟨s + 1, by omega, by go_num, q1, bel, cs, ds, q4, q5, by have h := HED.out; rw [HX2.out] at h; exact h⟩ | ((repeat apply Exists.intro); exact ⟨⟨s + 1, by omega, by go_num, q1, bel, cs, ds, q4, q5, by have h := HED.out; rw [HX2.out] at h; exact h⟩, rfl⟩)
          case measure => simp [intOf] <;> omega
    · obtain rfl : s = 64 := by omega
      have HEP : Hid (∀ s x, s < 64 → x ≤ 1 → ∀ i u, (E7 s x).toList[i]? = some u → cs[14 * s + 7 * x + i]? = some u) := fun s x hs hx => HED.out.1.2 s x hs hx (by omega)
      have HWP : Hid (∀ s x t, s < 64 → x ≤ 1 → t < 4 → ds[8 * s + 4 * x + t]? = some (.int .i64 (Cv.ew u t s x : Nat))) := fun s x t hs hx ht => HED.out.2.2 s x t hs hx ht (by omega)
      clear HED HSR HWE iZ hs hlt
      go_wp2_with (refine at_alloc rfl 108 rfl (zcells 108) ZC_eq ?_; intro w5 h5)
      have h4r := q4.lt
      have h5r := q5.lt
      have h1r := q1.lt
      have p4 := q4.after h5.bel
      have p5 := q5.after h5.bel
      have p9 := h5.row
      have b5 : Below g1 w w5 := bel.trans (h5.bel.mono (Nat.le_of_lt h1r))
      generalize wr.heap.size = g9 at *
      clear q1 q4 q5 h5 bel
      go_loopw [10] (fun i wr => ∃ s : Nat, s ≤ 64 ∧ i = .int .i64 s ∧ Blk wr g4 103 cs ∧ Blk wr g5 105 ds ∧ Below g1 w wr ∧ ∃ bs : Array Value, Blk wr g9 108 bs ∧ Hid (bs.size = 256 ∧ ∀ j, j < 4 * s → bs[j]? = some (.int .i64 1073741824))) (fun i _ => 64 - (intOf i).toNat)
      case atStart => exact ⟨0, by omega, rfl, p4, p5, b5, _, p9, ZC_size, fun j hj => by omega⟩
      case round =>
        clear p4 p5 p9 b5
        obtain ⟨s, hs, rfl, q4, q5, bel, bs, q9, HB9⟩ := hrel
        by_cases hlt : s < 64
        · have dS : decide ((s : Int) < 64) = true := by simp; omega
          go_wp2
          go_loopw [11] (fun i wr => ∃ t : Nat, t ≤ 4 ∧ i = .int .i64 t ∧ Blk wr g4 103 cs ∧ Blk wr g5 105 ds ∧ Below g1 w wr ∧ ∃ bs : Array Value, Blk wr g9 108 bs ∧ Hid (bs.size = 256 ∧ ∀ j, j < 4 * s + t → bs[j]? = some (.int .i64 1073741824))) (fun i _ => 4 - (intOf i).toNat)
          case atStart => exact ⟨0, by omega, rfl, q4, q5, bel, bs, q9, HB9.out⟩
          case round =>
            clear q4 q5 q9 bel HB9 bs
            obtain ⟨t, ht, rfl, q4, q5, bel, bs, q9, HB9⟩ := hrel
            by_cases hlt2 : t < 4
            · have ia := fun W => run_idx (P := Tryd.prog) (sz := 4) Tryd.underlying108 (by kernel_rfl) g9 0 s hlt .i64 W
              have ib := fun W => run_idx (P := Tryd.prog) (sz := 1) Tryd.underlying45 (by kernel_rfl) g9 (0 + 4 * s) t hlt2 .i64 W
              simp only [Nat.zero_add, Nat.one_mul] at ia ib
              have hlb : 4 * s + t < bs.size := by rw [HB9.out.1]; omega
              go_wp2_with (refine at_cell rfl 3 _ _ rfl g9 (4 * s + t) (.int .i64 1073741824) rfl rfl 108 bs q9 hlb info3one rfl ?_; intro w6 h6)
              go_roundw
              case rel =>
                refine ⟨t + 1, by omega, by go_num, h6.blk q4 (by omega), h6.blk q5 (by omega), bel.trans (h6.below (by omega)), _, h6.row, ?_, ?_⟩
                · rw [Array.size_setIfInBounds]; exact HB9.out.1
                · intro j hj
                  by_cases hjk : j = 4 * s + t
                  · subst hjk
                    rw [Array.getElem?_setIfInBounds_self_of_lt hlb]
                  · rw [Array.getElem?_setIfInBounds_ne (Ne.symm hjk)]
                    exact HB9.out.2 j (by omega)
              case measure => simp [intOf] <;> omega
            · have HT4 : Hid (t = 4) := by unfold Hid; omega
              go_wp2
              go_roundw
              case rel => exact ⟨s + 1, by omega, by go_num, q4, q5, bel, bs, q9, by have h := HB9.out; rw [HT4.out] at h; exact h⟩
              case measure => simp [intOf] <;> omega
        · have hE : bs = W4 (nw (List.replicate 256 1073741824)) := by
            apply Array.ext_getElem?
            intro j
            by_cases hj : j < 256
            · rw [HB9.out.2 j (by omega), W4nw_get _ j (by rw [List.length_replicate]; exact hj), Bm.getD_lt _ _ _ (by rw [List.length_replicate]; exact hj), List.getElem_replicate]
              rfl
            · rw [Array.getElem?_eq_none (by rw [HB9.out.1]; omega), Array.getElem?_eq_none (by rw [W4nw_size, List.length_replicate]; omega)]
          subst hE
          clear HB9
          have HF0 := Lib.hid (tab_far u)
          generalize List.replicate 256 1073741824 = A00 at *
          go_wp2
          clear hs hlt
          go_loopw [12] (fun i wr => ∃ t : Nat, t ≤ 4 ∧ i = .int .i64 t ∧ Blk wr g4 103 cs ∧ Blk wr g5 105 ds ∧ Below g1 w wr ∧ ∃ A : List Nat, Blk wr g9 108 (W4 (nw A)) ∧ Hid (Tab u A ∧ Fst u A t)) (fun i _ => 4 - (intOf i).toNat)
          case atStart => exact ⟨0, by omega, rfl, q4, q5, bel, _, q9, HF0.out, fun t h => by omega⟩
          case round =>
            clear q4 q5 q9 bel HF0 A00
            obtain ⟨t, ht, rfl, q4, q5, bel, A, q9, HTB⟩ := hrel
            by_cases hlt : t < 4
            · obtain ⟨t1, ht1⟩ : ∃ t1, t1 = (t + 1) % 4 := ⟨_, rfl⟩
              have ht14 : t1 < 4 := by omega
              have f0 : (t : Int) + 1 = ((t + 1 : Nat) : Int) := by omega
              have hM := HTB.out.1.le (128 + t1)
              have hV := HEB.out t 0 1
              have hjl : 128 + t1 < (W4 (nw A)).size := by rw [W4nw_size, HTB.out.1.len]; omega
              have c9 := (q9.cell (128 + t1)).trans (W4nw_get A (128 + t1) (by rw [HTB.out.1.len]; omega))
              have c5 : wr.cell? ⟨g5, 4 + t, none⟩ = some (.int .i64 (Cv.ew u t 0 1 : Nat)) := (q5.cell (4 + t)).trans (HWP.out 0 1 t (by omega) (by omega) hlt)
              have HNX : Hid (∀ n, n = min (A.getD (128 + t1) 0) (Cv.ew u t 0 1) → Tab u (A.set (128 + t1) n) ∧ Fst u (A.set (128 + t1) n) (t + 1)) := fun n hn => by
                have hle := HTB.out.1.le (128 + t1)
                refine ⟨HTB.out.1.set 32 t1 n (by omega) ht14 (by omega) ?_, ?_⟩
                · rcases Nat.le_total (A.getD (128 + t1) 0) (Cv.ew u t 0 1) with h | h
                  · rw [hn, Nat.min_eq_left h]
                    exact HTB.out.1.cm 32 t1 (by omega) ht14
                  · rw [hn, Nat.min_eq_right h, ht1]
                    exact Cv.Cm.one u _ t
                · rw [ht1]
                  exact HTB.out.2.next hlt HTB.out.1.len (by omega)
              have HSET := Lib.hid (W4nw_set A (128 + t1))
              have hr0 : wr.rangeAt g4 7 (E7 0 1).toList := q4.range _ _ (HEP.out 0 1 (by omega) (by omega))
              have iX : Hid ((Tryd.prog.info? 101).map (·.size) = some (E7 0 1).size) := infoR7
              have oX := Lib.hid (E7_one 0 1)
              have zX := Lib.hid (show (C7 0 0 0 0 0 0 0).size = (E7 0 1).size from (show (C7 0 0 0 0 0 0 0).size = 7 from rfl).trans (E7_size 0 1).symm)
              have HCX : Hid (∀ W g, Blk W g 101 (E7 0 1) → W.cell? ⟨g, 1, none⟩ = some (.int .i64 32)) := fun W g h => h.cell 1
              have ia := fun W => run_idx (P := Tryd.prog) (sz := 14) Tryd.underlying103 (by kernel_rfl) g4 0 0 (by omega) .i64 W
              have ib := fun W => run_idx (P := Tryd.prog) (sz := 7) Tryd.underlying102 (by kernel_rfl) g4 0 1 (by omega) .i64 W
              have ic := fun W => run_idx (P := Tryd.prog) (sz := 8) Tryd.underlying105 (by kernel_rfl) g5 0 0 (by omega) .i64 W
              have id := fun W => run_idx (P := Tryd.prog) (sz := 4) Tryd.underlying104 (by kernel_rfl) g5 0 1 (by omega) .i64 W
              have ie := fun W => run_idx (P := Tryd.prog) (sz := 1) Tryd.underlying45 (by kernel_rfl) g5 4 t hlt .i64 W
              have ig := fun W => run_idx (P := Tryd.prog) (sz := 4) Tryd.underlying108 (by kernel_rfl) g9 0 32 (by omega) .i64 W
              have ih := fun W => run_idx (P := Tryd.prog) (sz := 1) Tryd.underlying45 (by kernel_rfl) g9 128 t1 ht14 .i64 W
              have e0 : ((0 : Nat) : Int) = 0 := rfl
              have e1 : ((1 : Nat) : Int) = 1 := rfl
              have e32 : ((32 : Nat) : Int) = 32 := rfl
              simp only [Nat.zero_add, Nat.one_mul, Nat.mul_zero, Nat.mul_one, Nat.add_zero, Nat.reduceMul, e0, e1, e32] at ia ib ic id ie ig ih
              clear e0 e1 e32
              obtain ⟨tp, htp⟩ : ∃ tp, tp = t + 1 := ⟨_, rfl⟩
              have f1 : (t : Int) + 1 = (tp : Int) := by omega
              have f1w : IntKind.i64.wrap ((t : Int) + 1) = (tp : Int) := by rw [f1]; exact IntWalk.i64_in _ (by omega)
              have f1x : IntKind.i64.wrap (tp : Int) = (tp : Int) := IntWalk.i64_in _ (by omega)
              have f2 : (tp : Int) % 4 = (t1 : Int) := by omega
              have f2t : (tp : Int).tmod 4 = (t1 : Int) := by rw [Int.tmod_eq_emod_of_nonneg (by omega)]; exact f2
              have f2x : IntKind.i64.wrap (t1 : Int) = (t1 : Int) := IntWalk.i64_in _ (by omega)
              generalize A.getD (128 + t1) 0 = M at *
              generalize Cv.ew u t 0 1 = V at *
              obtain ⟨N, hN⟩ : ∃ N, N = min M V := ⟨_, rfl⟩
              have HN2 := Lib.hid (HNX.out N hN)
              have m1 : (if (V : Int) < (M : Int) then (V : Int) else (M : Int)) = (N : Int) := by split <;> omega
              have m2 : min (M : Int) (V : Int) = (N : Int) := by omega
              have m3 : (if V < M then (V : Int) else (M : Int)) = (N : Int) := by split <;> omega
              clear hN htp ht1 f0 HNX
              generalize E7 0 1 = EX at *
              go_wp2_with (first | (refine at_load_mid rfl 101 _ rfl g4 7 rfl EX _ hr0 Tryd.underlying101 rfl iX.out ?_) | (refine at_alloc rfl 101 rfl (C7 0 0 0 0 0 0 0) ZR7_eq ?_; intro w5 h5) | (refine at_store rfl 101 _ _ rfl wr.heap.size EX rfl rfl 101 (C7 0 0 0 0 0 0 0) h5.row iX.out zX.out oX.out ?_; intro w6 h6))
              have b6 := h5.bel.trans (h6.below (Nat.le_refl _))
              have k1 := HCX.out w6 _ h6.row
              have h9r := q9.lt
              have h4r' := q4.lt
              have h5r' := q5.lt
              have p4 := q4.after b6
              have p5 := q5.after b6
              have p9 := q9.after b6
              have k9 : w6.cell? ⟨g9, 128 + t1, none⟩ = some (.int .i64 (M : Int)) := (b6.cell (p := ⟨g9, 128 + t1, none⟩) h9r).trans c9
              have k5 : w6.cell? ⟨g5, 4 + t, none⟩ = some (.int .i64 (V : Int)) := (b6.cell (p := ⟨g5, 4 + t, none⟩) h5r').trans c5
              have k13 := h6.row
              have bel6 : Below g1 w w6 := bel.trans (b6.mono (by omega))
              generalize wr.heap.size = g13 at *
              clear h5 h6 b6 hr0 c9 c5 q4 q5 q9 bel
              go_wp2_with fail
              refine wp_region_noPanic ?_
              refine wp_region_held_drew (S := fun W => W.cell? ⟨g13, 1, none⟩ = some (.int .i64 32) ∧ W.cell? ⟨g5, 4 + t, none⟩ = some (.int .i64 (V : Int))) (by kernel_rfl) ⟨k1, k5⟩ (fun hHeld => ?_)
              refine wpAnyH_take (i := 0) (oi := ⟨some 75, _, _, _, _, _⟩) (v := ?_) rfl (by kernel_rfl) (by kernel_rfl) (by kernel_rfl) (fun _ _ _ h => h) (Or.inl ⟨by rfl, ?_⟩) hHeld ?_
              rotate_left
              · intro W hSW; obtain ⟨hSW0, hSW1⟩ := hSW; go_simp; first | done | with_reducible rfl
              (try simp only [Act.put, List.setIfInBounds_toArray, List.set_cons_zero, List.set_cons_succ])
              refine wpAnyH_take (i := 1) (oi := ⟨some 76, _, _, _, _, _⟩) (v := ?_) rfl (by kernel_rfl) (by kernel_rfl) (by kernel_rfl) (fun _ _ _ h => h) (Or.inl ⟨by rfl, ?_⟩) hHeld ?_
              rotate_left
              · intro W hSW; obtain ⟨hSW0, hSW1⟩ := hSW; go_simp; first | done | with_reducible rfl
              (try simp only [Act.put, List.setIfInBounds_toArray, List.set_cons_zero, List.set_cons_succ])
              refine wpAnyH_take (i := 2) (oi := ⟨some 77, _, _, _, _, _⟩) (v := ?_) rfl (by kernel_rfl) (by kernel_rfl) (by kernel_rfl) (fun _ _ _ h => h) (Or.inl ⟨by rfl, ?_⟩) hHeld ?_
              rotate_left
              · intro W hSW; obtain ⟨hSW0, hSW1⟩ := hSW; go_simp; first | done | with_reducible rfl
              (try simp only [Act.put, List.setIfInBounds_toArray, List.set_cons_zero, List.set_cons_succ])
              refine wpAnyH_take (i := 3) (oi := ⟨some 78, _, _, _, _, _⟩) (v := ?_) rfl (by kernel_rfl) (by kernel_rfl) (by kernel_rfl) (fun _ _ _ h => h) (Or.inl ⟨by rfl, ?_⟩) hHeld ?_
              rotate_left
              · intro W hSW; obtain ⟨hSW0, hSW1⟩ := hSW; go_simp; first | done | with_reducible rfl
              (try simp only [Act.put, List.setIfInBounds_toArray, List.set_cons_zero, List.set_cons_succ])
              refine wpAnyH_take (i := 4) (oi := ⟨some 79, _, _, _, _, _⟩) (v := ?_) rfl (by kernel_rfl) (by kernel_rfl) (by kernel_rfl) (fun _ _ _ h => h) (Or.inl ⟨by rfl, ?_⟩) hHeld ?_
              rotate_left
              · intro W hSW; obtain ⟨hSW0, hSW1⟩ := hSW; go_simp; first | done | with_reducible rfl
              (try simp only [Act.put, List.setIfInBounds_toArray, List.set_cons_zero, List.set_cons_succ])
              refine wpAnyH_take (i := 5) (oi := ⟨some 80, _, _, _, _, _⟩) (v := ?_) rfl (by kernel_rfl) (by kernel_rfl) (by kernel_rfl) (fun _ _ _ h => h) (Or.inl ⟨by rfl, ?_⟩) hHeld ?_
              rotate_left
              · intro W hSW; obtain ⟨hSW0, hSW1⟩ := hSW; go_simp; first | done | with_reducible rfl
              (try simp only [Act.put, List.setIfInBounds_toArray, List.set_cons_zero, List.set_cons_succ])
              refine wpAnyH_take (i := 6) (oi := ⟨some 81, _, _, _, _, _⟩) (v := ?_) rfl (by kernel_rfl) (by kernel_rfl) (by kernel_rfl) (fun _ _ _ h => h) (Or.inl ⟨by rfl, ?_⟩) hHeld ?_
              rotate_left
              · intro W hSW; obtain ⟨hSW0, hSW1⟩ := hSW; go_simp; first | done | with_reducible rfl
              (try simp only [Act.put, List.setIfInBounds_toArray, List.set_cons_zero, List.set_cons_succ])
              refine wpAnyH_take (i := 7) (oi := ⟨some 82, _, _, _, _, _⟩) (v := ?_) rfl (by kernel_rfl) (by kernel_rfl) (by kernel_rfl) (fun _ _ _ h => h) (Or.inl ⟨by rfl, ?_⟩) hHeld ?_
              rotate_left
              · intro W hSW; obtain ⟨hSW0, hSW1⟩ := hSW; go_simp; first | done | with_reducible rfl
              (try simp only [Act.put, List.setIfInBounds_toArray, List.set_cons_zero, List.set_cons_succ])
              refine wpAnyH_take (i := 8) (oi := ⟨some 83, _, _, _, _, _⟩) (v := ?_) rfl (by kernel_rfl) (by kernel_rfl) (by kernel_rfl) (fun _ _ _ h => h) (Or.inl ⟨by rfl, ?_⟩) hHeld ?_
              rotate_left
              · intro W hSW; obtain ⟨hSW0, hSW1⟩ := hSW; go_simp; first | done | with_reducible rfl
              (try simp only [Act.put, List.setIfInBounds_toArray, List.set_cons_zero, List.set_cons_succ])
              refine wpAnyH_take (i := 9) (oi := ⟨some 84, _, _, _, _, _⟩) (v := ?_) rfl (by kernel_rfl) (by kernel_rfl) (by kernel_rfl) (fun _ _ _ h => h) (Or.inl ⟨by rfl, ?_⟩) hHeld ?_
              rotate_left
              · intro W hSW; obtain ⟨hSW0, hSW1⟩ := hSW; go_simp; first | done | with_reducible rfl
              (try simp only [Act.put, List.setIfInBounds_toArray, List.set_cons_zero, List.set_cons_succ])
              refine wpAnyH_take (i := 10) (oi := ⟨some 85, _, _, _, _, _⟩) (v := ?_) rfl (by kernel_rfl) (by kernel_rfl) (by kernel_rfl) (fun _ _ _ h => h) (Or.inl ⟨by rfl, ?_⟩) hHeld ?_
              rotate_left
              · intro W hSW; obtain ⟨hSW0, hSW1⟩ := hSW; go_simp; first | done | with_reducible rfl
              (try simp only [Act.put, List.setIfInBounds_toArray, List.set_cons_zero, List.set_cons_succ])
              refine wpAnyH_take (i := 11) (oi := ⟨some 86, _, _, _, _, _⟩) (v := ?_) rfl (by kernel_rfl) (by kernel_rfl) (by kernel_rfl) (fun _ _ _ h => h) (Or.inl ⟨by rfl, ?_⟩) hHeld ?_
              rotate_left
              · intro W hSW; obtain ⟨hSW0, hSW1⟩ := hSW; go_simp; first | done | with_reducible rfl
              (try simp only [Act.put, List.setIfInBounds_toArray, List.set_cons_zero, List.set_cons_succ])
              refine wpAnyH_take (i := 13) (oi := ⟨some 88, _, _, _, _, _⟩) (v := ?_) rfl (by kernel_rfl) (by kernel_rfl) (by kernel_rfl) (fun _ _ _ h => h) (Or.inl ⟨by rfl, ?_⟩) hHeld ?_
              rotate_left
              · intro W hSW; obtain ⟨hSW0, hSW1⟩ := hSW; go_simp; first | done | with_reducible rfl
              (try simp only [Act.put, List.setIfInBounds_toArray, List.set_cons_zero, List.set_cons_succ])
              refine wpAnyH_take (i := 14) (oi := ⟨some 89, _, _, _, _, _⟩) (v := ?_) rfl (by kernel_rfl) (by kernel_rfl) (by kernel_rfl) (fun _ _ _ h => h) (Or.inl ⟨by rfl, ?_⟩) hHeld ?_
              rotate_left
              · intro W hSW; obtain ⟨hSW0, hSW1⟩ := hSW; go_simp; first | done | with_reducible rfl
              (try simp only [Act.put, List.setIfInBounds_toArray, List.set_cons_zero, List.set_cons_succ])
              refine wpAnyH_take (i := 15) (oi := ⟨some 90, _, _, _, _, _⟩) (v := ?_) rfl (by kernel_rfl) (by kernel_rfl) (by kernel_rfl) (fun _ _ _ h => h) (Or.inl ⟨by rfl, ?_⟩) hHeld ?_
              rotate_left
              · intro W hSW; obtain ⟨hSW0, hSW1⟩ := hSW; go_simp; first | done | with_reducible rfl
              (try simp only [Act.put, List.setIfInBounds_toArray, List.set_cons_zero, List.set_cons_succ])
              refine wpAnyH_take (i := 16) (oi := ⟨some 91, _, _, _, _, _⟩) (v := ?_) rfl (by kernel_rfl) (by kernel_rfl) (by kernel_rfl) (fun _ _ _ h => h) (Or.inl ⟨by rfl, ?_⟩) hHeld ?_
              rotate_left
              · intro W hSW; obtain ⟨hSW0, hSW1⟩ := hSW; go_simp; first | done | with_reducible rfl
              (try simp only [Act.put, List.setIfInBounds_toArray, List.set_cons_zero, List.set_cons_succ])
              refine wpAnyH_take (i := 17) (oi := ⟨some 92, _, _, _, _, _⟩) (v := ?_) rfl (by kernel_rfl) (by kernel_rfl) (by kernel_rfl) (fun _ _ _ h => h) (Or.inl ⟨by rfl, ?_⟩) hHeld ?_
              rotate_left
              · intro W hSW; obtain ⟨hSW0, hSW1⟩ := hSW; go_simp; first | done | with_reducible rfl
              (try simp only [Act.put, List.setIfInBounds_toArray, List.set_cons_zero, List.set_cons_succ])
              refine wpAnyH_take (i := 19) (oi := ⟨some 94, _, _, _, _, _⟩) (v := ?_) rfl (by kernel_rfl) (by kernel_rfl) (by kernel_rfl) (fun _ _ _ h => h) (Or.inl ⟨by rfl, ?_⟩) hHeld ?_
              rotate_left
              · intro W hSW; obtain ⟨hSW0, hSW1⟩ := hSW; go_simp; first | done | with_reducible rfl
              (try simp only [Act.put, List.setIfInBounds_toArray, List.set_cons_zero, List.set_cons_succ])
              refine wpAnyH_ready (rs := [12]) (by kernel_rfl) (by simp) ?_
              refine AllReadyH.cons (o := ⟨some 87, _, _, _, _, _⟩) rfl (fun K hK => ?_) (AllReadyH.nil)
              have cP : w6.drew.cell? ⟨g9, 128 + t1, none⟩ = some (.int .i64 (M : Int)) := k9
              go_simp
              clear hHeld
              refine hK.out _ _ ?_ (fun hHeld => ?_)
              · exact ⟨k1, k5⟩
              clear hK K
              (try simp only [Act.put, List.setIfInBounds_toArray, List.set_cons_zero, List.set_cons_succ])
              refine wpAnyH_take (i := 18) (oi := ⟨some 93, _, _, _, _, _⟩) (v := ?_) rfl (by kernel_rfl) (by kernel_rfl) (by kernel_rfl) (fun _ _ _ h => h) (Or.inl ⟨by rfl, ?_⟩) hHeld ?_
              rotate_left
              · intro W hSW; obtain ⟨hSW0, hSW1⟩ := hSW; go_simp; first | done | with_reducible rfl
              (try simp only [Act.put, List.setIfInBounds_toArray, List.set_cons_zero, List.set_cons_succ])
              refine wpAnyH_take (i := 20) (oi := ⟨some 95, _, _, _, _, _⟩) (v := ?_) rfl (by kernel_rfl) (by kernel_rfl) (by kernel_rfl) (fun _ _ _ h => h) (Or.inl ⟨by rfl, ?_⟩) hHeld ?_
              rotate_left
              · intro W hSW; obtain ⟨hSW0, hSW1⟩ := hSW; go_simp; first | done | with_reducible rfl
              (try simp only [Act.put, List.setIfInBounds_toArray, List.set_cons_zero, List.set_cons_succ])
              refine wpAnyH_ready (rs := [21]) (by kernel_rfl) (by simp) ?_
              refine AllReadyH.cons (o := ⟨none, _, _, _, _, _⟩) rfl (fun K hK => ?_) (AllReadyH.nil)
              refine step_cell (by rfl) 3 _ _ (by rfl) g9 (128 + t1) (.int .i64 (N : Int)) (by rfl) (by rfl) 108 (W4 (nw A)) (Blk.drew p9) hjl info3one rfl ?_
              intro W2 h2
              clear hHeld
              refine hK.out _ _ ?_ (fun hHeld => ?_)
              · exact ⟨HCX.out W2 _ (h2.blk (Blk.drew k13) (by omega)), (h2.blk (Blk.drew p5) (by omega)).cell _ |>.trans ((p5.cell _).symm.trans k5)⟩
              clear hK K
              (try simp only [Act.put, List.setIfInBounds_toArray, List.set_cons_zero, List.set_cons_succ])
              refine wpAnyH_done (by kernel_rfl) ?_ _
              refine NoPanic.normal ?_
              clear hHeld
              go_wp2
              go_roundw
              case rel => exact ⟨t + 1, by omega, by go_num, h2.blk (Blk.drew p4) (by omega), h2.blk (Blk.drew p5) (by omega), (bel6.drew).trans (h2.below (by omega)), _, (by rw [← HSET.out]; exact h2.row), HN2.out⟩
              case measure => simp [intOf] <;> omega
            · have HT4 : Hid (t = 4) := by unfold Hid; omega
              have HTBF : Hid (Tab u A ∧ Fst u A 4) := by have h := HTB.out; rw [HT4.out] at h; exact h
              clear HTB HT4
              go_wp2
              clear ht hlt
              go_loopw [14, 15] (fun b c wr => ∃ (Bb : Nat) (cc : Bool) (A : List Nat), b = .int .i64 Bb ∧ c = .bool cc ∧ Blk wr g4 103 cs ∧ Blk wr g5 105 ds ∧ Below g1 w wr ∧ Blk wr g9 108 (W4 (nw A)) ∧ Hid (Tab u A ∧ Fst u A 4 ∧ Bb ≤ 1073741824 ∧ Cv.Cb u 1073741824 Bb ∧ (cc = false → Cv.Fix u (fun s t => A.getD (4 * s + t) 0) Bb))) (fun b c wr => 2 * bsum wr g9 + (match c with | .bool true => 1 | _ => 0))
              case atStart => exact ⟨1073741824, true, A, rfl, rfl, q4, q5, bel, q9, HTBF.out.1, HTBF.out.2, Nat.le_refl _, .inl rfl, fun h => by cases h⟩
              case round =>
                clear q4 q5 q9 bel HTBF A
                obtain ⟨Bb, cc, A0, rfl, rfl, q4, q5, bel, q9, HIN⟩ := hrel
                cases cc with
                | false =>
                  go_wp2
                  go_ret
                  exact ⟨Bb, rfl, (HIN.out.2.2.2.2 (by first | rfl | trivial)).lst HIN.out.2.2.2.1 HU.out (by omega), by rw [HG.out]; exact bel⟩
                | true =>
                  have HP0 : Hid (Pass u A0 A0 Bb false (8 * 1)) := ⟨HIN.out.1, HIN.out.2.1, HIN.out.2.2.1, HIN.out.2.2.2.1, Nat.le_refl _, (fun h => by cases h), fun _ s t x h1 _ _ _ h5 => by omega⟩
                  have HSUM := Lib.hid (bsum_blk q9)
                  obtain ⟨wo, rfl⟩ : ∃ wo : World, wo = wr := ⟨_, rfl⟩
                  clear HIN
                  go_wp2
                  go_loopw [14, 15, 16] (fun b c i wr => ∃ (s Bb : Nat) (cc : Bool) (A : List Nat), 0 < s ∧ s ≤ 64 ∧ i = .int .i64 s ∧ b = .int .i64 Bb ∧ c = .bool cc ∧ Blk wr g4 103 cs ∧ Blk wr g5 105 ds ∧ Below g1 w wr ∧ Blk wr g9 108 (W4 (nw A)) ∧ Hid (Pass u A0 A Bb cc (8 * s))) (fun _ _ i _ => 64 - (intOf i).toNat)
                  case atStart => exact ⟨1, Bb, false, A0, by omega, by omega, rfl, rfl, rfl, q4, q5, bel, q9, HP0.out⟩
                  case round =>
                    clear q4 q5 q9 bel HP0
                    obtain ⟨s, Bb, cc, A, hs1, hs, rfl, rfl, rfl, q4, q5, bel, q9, HP⟩ := hrel
                    by_cases hlt : s < 64
                    · have dS : decide ((s : Int) < 64) = true := by simp; omega
                      go_wp2
                      go_loopw [14, 15, 17] (fun b c i wr => ∃ (t Bb : Nat) (cc : Bool) (A : List Nat), t ≤ 4 ∧ i = .int .i64 t ∧ b = .int .i64 Bb ∧ c = .bool cc ∧ Blk wr g4 103 cs ∧ Blk wr g5 105 ds ∧ Below g1 w wr ∧ Blk wr g9 108 (W4 (nw A)) ∧ Hid (Pass u A0 A Bb cc (8 * s + 2 * t))) (fun _ _ i _ => 4 - (intOf i).toNat)
                      case atStart => exact ⟨0, Bb, cc, A, by omega, rfl, rfl, rfl, q4, q5, bel, q9, HP.out⟩
                      case round =>
                        clear q4 q5 q9 bel HP
                        obtain ⟨t, Bb, cc, A, ht, rfl, rfl, rfl, q4, q5, bel, q9, HP⟩ := hrel
                        by_cases hlt2 : t < 4
                        · have dT : decide ((t : Int) < 4) = true := by simp; omega
                          have ij := fun W => run_idx (P := Tryd.prog) (sz := 4) Tryd.underlying108 (by kernel_rfl) g9 0 s hlt .i64 W
                          have ik := fun W => run_idx (P := Tryd.prog) (sz := 1) Tryd.underlying45 (by kernel_rfl) g9 (0 + 4 * s) t hlt2 .i64 W
                          simp only [Nat.zero_add, Nat.one_mul] at ij ik
                          have ca := (q9.cell (4 * s + t)).trans (W4nw_get A (4 * s + t) (by rw [HP.out.tab.len]; omega))
                          have hal := HP.out.tab.le (4 * s + t)
                          obtain ⟨a, ha⟩ : ∃ a, A.getD (4 * s + t) 0 = a := ⟨_, rfl⟩
                          rw [ha] at ca hal
                          have HAA := Lib.hid ha
                          clear ha
                          by_cases hfar : a = 1073741824
                          · have tf : ((a : Int) == 1073741824) = true := by rw [hfar]; rfl
                            have HR := Lib.hid (HP.out.skip (HAA.out.trans hfar) hlt2)
                            clear hfar
                            go_wp2
                            go_roundw
                            case rel => exact ⟨t + 1, Bb, cc, A, by omega, by go_num, rfl, rfl, q4, q5, bel, q9, HR.out⟩
                            case measure => simp [intOf] <;> omega
                          · have tf : ((a : Int) == 1073741824) = false := by simp; omega
                            have HFAR := Lib.hid hfar
                            clear hfar
                            go_wp2
                            go_loopw [14, 15, 18] (fun b c i wr => ∃ (x Bb : Nat) (cc : Bool) (A : List Nat), x ≤ 2 ∧ i = .int .i64 x ∧ b = .int .i64 Bb ∧ c = .bool cc ∧ Blk wr g4 103 cs ∧ Blk wr g5 105 ds ∧ Below g1 w wr ∧ Blk wr g9 108 (W4 (nw A)) ∧ Hid (Pass u A0 A Bb cc (8 * s + 2 * t + x) ∧ A.getD (4 * s + t) 0 = a)) (fun _ _ i _ => 2 - (intOf i).toNat)
                            case atStart => exact ⟨0, Bb, cc, A, by omega, rfl, rfl, rfl, q4, q5, bel, q9, HP.out, HAA.out⟩
                            case round =>
                              clear q4 q5 q9 bel HP HAA ca ij ik
                              obtain ⟨x, Bb, cc, A, hx, rfl, rfl, rfl, q4, q5, bel, q9, HP⟩ := hrel
                              by_cases hlt3 : x < 2
                              · have dX : decide ((x : Int) < 2) = true := by simp; omega
                                have hx1 : x ≤ 1 := by omega
                                have HA := Lib.hid HP.out.2
                                have hV := HEB.out t s x
                                have hnx := Cv.nx_lt s x hlt hx1
                                obtain ⟨t1, ht1⟩ : ∃ t1, t1 = (t + 1) % 4 := ⟨_, rfl⟩
                                have ht14 : t1 < 4 := by omega
                                have hjn : 4 * Cv.nx s x + t1 ≠ 4 * s + t := by omega
                                have HZERO : Hid (Cv.nx s x = 0 → Pass u A0 A (min Bb (a + Cv.ew u t s x)) cc (8 * s + 2 * t + (x + 1))) := fun h0 => by
                                  have := HP.out.1.zero hs1 hlt hlt2 hx1 (by rw [HP.out.2]; exact HFAR.out) h0
                                  rw [HP.out.2] at this
                                  exact this
                                have HKEEP : Hid (Cv.nx s x ≠ 0 → A.getD (4 * Cv.nx s x + t1) 0 ≤ a + Cv.ew u t s x → Pass u A0 A Bb cc (8 * s + 2 * t + (x + 1))) := fun h0 h1 => HP.out.1.keep hlt2 hx1 h0 (by rw [HP.out.2, ← ht1]; exact h1)
                                have HLESS : Hid (a + Cv.ew u t s x < A.getD (4 * Cv.nx s x + t1) 0 → Pass u A0 (A.set (4 * Cv.nx s x + t1) (a + Cv.ew u t s x)) Bb true (8 * s + 2 * t + (x + 1)) ∧ (A.set (4 * Cv.nx s x + t1) (a + Cv.ew u t s x)).getD (4 * s + t) 0 = a) := fun h0 => by
                                  have := HP.out.1.less_ hlt hlt2 hx1 (by rw [HP.out.2]; exact HFAR.out) (by rw [HP.out.2, ← ht1]; exact h0)
                                  rw [HP.out.2, ← ht1] at this
                                  refine ⟨this, ?_⟩
                                  rw [Bm.set_getD A _ _ _ (by rw [HP.out.1.tab.len]; omega), if_neg hjn]
                                  exact HP.out.2
                                have hMl := HP.out.1.tab.le (4 * Cv.nx s x + t1)
                                have HCM := Lib.hid (W4nw_get A (4 * Cv.nx s x + t1) (by rw [HP.out.1.tab.len]; omega))
                                have hjl : 4 * Cv.nx s x + t1 < (W4 (nw A)).size := by rw [W4nw_size, HP.out.1.tab.len]; omega
                                have hBb := HP.out.1.ble
                                have c9 : wr.cell? ⟨g9, 4 * s + t, none⟩ = some (.int .i64 (a : Int)) := by
                                  have := (q9.cell (4 * s + t)).trans (W4nw_get A (4 * s + t) (by rw [HP.out.1.tab.len]; omega))
                                  rw [HP.out.2] at this
                                  exact this
                                have c5 : wr.cell? ⟨g5, 8 * s + 4 * x + t, none⟩ = some (.int .i64 (Cv.ew u t s x : Nat)) := (q5.cell _).trans (HWP.out s x t hlt hx1 hlt2)
                                have hrange : wr.rangeAt g4 (14 * s + 7 * x) (E7 s x).toList := q4.range _ _ (HEP.out s x hlt hx1)
                                have iX : Hid ((Tryd.prog.info? 101).map (·.size) = some (E7 s x).size) := infoR7
                                have oX := Lib.hid (E7_one s x)
                                have zX := Lib.hid ((show (C7 0 0 0 0 0 0 0).size = 7 from rfl).trans (E7_size s x).symm)
                                have HCX : Hid (∀ W g, Blk W g 101 (E7 s x) → W.cell? ⟨g, 1, none⟩ = some (.int .i64 (Cv.nx s x : Nat))) := fun W g h => h.cell 1
                                have ia := fun W => run_idx (P := Tryd.prog) (sz := 14) Tryd.underlying103 (by kernel_rfl) g4 0 s hlt .i64 W
                                have ib := fun W => run_idx (P := Tryd.prog) (sz := 7) Tryd.underlying102 (by kernel_rfl) g4 (0 + 14 * s) x hlt3 .i64 W
                                have ic := fun W => run_idx (P := Tryd.prog) (sz := 8) Tryd.underlying105 (by kernel_rfl) g5 0 s hlt .i64 W
                                have id := fun W => run_idx (P := Tryd.prog) (sz := 4) Tryd.underlying104 (by kernel_rfl) g5 (0 + 8 * s) x hlt3 .i64 W
                                have ie := fun W => run_idx (P := Tryd.prog) (sz := 1) Tryd.underlying45 (by kernel_rfl) g5 (0 + 8 * s + 4 * x) t hlt2 .i64 W
                                have ij := fun W => run_idx (P := Tryd.prog) (sz := 4) Tryd.underlying108 (by kernel_rfl) g9 0 s hlt .i64 W
                                have ik := fun W => run_idx (P := Tryd.prog) (sz := 1) Tryd.underlying45 (by kernel_rfl) g9 (0 + 4 * s) t hlt2 .i64 W
                                simp only [Nat.zero_add, Nat.one_mul] at ia ib ic id ie ij ik
                                obtain ⟨tp, htp⟩ : ∃ tp, tp = t + 1 := ⟨_, rfl⟩
                                have f1 : (t : Int) + 1 = (tp : Int) := by omega
                                have f2 : (tp : Int) % 4 = (t1 : Int) := by omega
                                have htp4 : tp ≤ 4 := by omega
                                have hr64 := hnx
                                generalize A.getD (4 * Cv.nx s x + t1) 0 = M at *
                                generalize Cv.ew u t s x = V at *
                                generalize Cv.nx s x = r at *
                                generalize E7 s x = EX at *
                                obtain ⟨q, hq⟩ : ∃ q, a + V = q := ⟨_, rfl⟩
                                have hql : q ≤ 1073741852 := by omega
                                have f3 : (a : Int) + (V : Int) = (q : Int) := by omega
                                have f3w : IntKind.i64.wrap ((a : Int) + (V : Int)) = (q : Int) := by rw [f3]; exact IntWalk.i64_in _ (by omega)
                                have f3x : IntKind.i64.wrap (q : Int) = (q : Int) := IntWalk.i64_in _ (by omega)
                                rw [hq] at HZERO HKEEP HLESS
                                clear hq htp ht1 hjn HP hnx
                                have h9r := q9.lt
                                have h4r' := q4.lt
                                have h5r' := q5.lt
                                go_wp2_with (first | (refine at_load_mid rfl 101 _ rfl g4 (14 * s + 7 * x) rfl EX _ hrange Tryd.underlying101 rfl iX.out ?_) | (refine at_alloc rfl 101 rfl (C7 0 0 0 0 0 0 0) ZR7_eq ?_; intro w5 h5) | (refine at_store rfl 101 _ _ rfl wr.heap.size EX rfl rfl 101 (C7 0 0 0 0 0 0 0) h5.row iX.out zX.out oX.out ?_; intro w6 h6))
                                have b6 := h5.bel.trans (h6.below (Nat.le_refl _))
                                have k1 := HCX.out w6 _ h6.row
                                have p4 := q4.after b6
                                have p5 := q5.after b6
                                have p9 := q9.after b6
                                have k9 : w6.cell? ⟨g9, 4 * s + t, none⟩ = some (.int .i64 (a : Int)) := (b6.cell (p := ⟨g9, 4 * s + t, none⟩) h9r).trans c9
                                have k5 : w6.cell? ⟨g5, 8 * s + 4 * x + t, none⟩ = some (.int .i64 (V : Int)) := (b6.cell (p := ⟨g5, 8 * s + 4 * x + t, none⟩) h5r').trans c5
                                have bel6 : Below g1 w w6 := bel.trans (b6.mono (by omega))
                                generalize wr.heap.size = g19 at *
                                clear h5 h6 b6 hrange c9 c5 q4 q5 q9 bel ia ib
                                go_wp2_with fail
                                refine wp_region_noPanic ?_
                                refine wp_region_held_drew (S := fun W => W.cell? ⟨g9, 4 * s + t, none⟩ = some (.int .i64 (a : Int)) ∧ W.cell? ⟨g5, 8 * s + 4 * x + t, none⟩ = some (.int .i64 (V : Int))) (by kernel_rfl) ⟨k9, k5⟩ (fun hHeld => ?_)
                                refine wpAnyH_take (i := 0) (oi := ⟨some 122, _, _, _, _, _⟩) (v := ?_) rfl (by kernel_rfl) (by kernel_rfl) (by kernel_rfl) (fun _ _ _ h => h) (Or.inl ⟨by rfl, ?_⟩) hHeld ?_
                                rotate_left
                                · intro W hSW; obtain ⟨hSW0, hSW1⟩ := hSW; go_simp; first | done | with_reducible rfl
                                (try simp only [Act.put, List.setIfInBounds_toArray, List.set_cons_zero, List.set_cons_succ])
                                refine wpAnyH_take (i := 1) (oi := ⟨some 123, _, _, _, _, _⟩) (v := ?_) rfl (by kernel_rfl) (by kernel_rfl) (by kernel_rfl) (fun _ _ _ h => h) (Or.inl ⟨by rfl, ?_⟩) hHeld ?_
                                rotate_left
                                · intro W hSW; obtain ⟨hSW0, hSW1⟩ := hSW; go_simp; first | done | with_reducible rfl
                                (try simp only [Act.put, List.setIfInBounds_toArray, List.set_cons_zero, List.set_cons_succ])
                                refine wpAnyH_take (i := 2) (oi := ⟨some 124, _, _, _, _, _⟩) (v := ?_) rfl (by kernel_rfl) (by kernel_rfl) (by kernel_rfl) (fun _ _ _ h => h) (Or.inl ⟨by rfl, ?_⟩) hHeld ?_
                                rotate_left
                                · intro W hSW; obtain ⟨hSW0, hSW1⟩ := hSW; go_simp; first | done | with_reducible rfl
                                (try simp only [Act.put, List.setIfInBounds_toArray, List.set_cons_zero, List.set_cons_succ])
                                refine wpAnyH_take (i := 3) (oi := ⟨some 125, _, _, _, _, _⟩) (v := ?_) rfl (by kernel_rfl) (by kernel_rfl) (by kernel_rfl) (fun _ _ _ h => h) (Or.inl ⟨by rfl, ?_⟩) hHeld ?_
                                rotate_left
                                · intro W hSW; obtain ⟨hSW0, hSW1⟩ := hSW; go_simp; first | done | with_reducible rfl
                                (try simp only [Act.put, List.setIfInBounds_toArray, List.set_cons_zero, List.set_cons_succ])
                                refine wpAnyH_take (i := 4) (oi := ⟨some 126, _, _, _, _, _⟩) (v := ?_) rfl (by kernel_rfl) (by kernel_rfl) (by kernel_rfl) (fun _ _ _ h => h) (Or.inl ⟨by rfl, ?_⟩) hHeld ?_
                                rotate_left
                                · intro W hSW; obtain ⟨hSW0, hSW1⟩ := hSW; go_simp; first | done | with_reducible rfl
                                (try simp only [Act.put, List.setIfInBounds_toArray, List.set_cons_zero, List.set_cons_succ])
                                refine wpAnyH_take (i := 5) (oi := ⟨some 127, _, _, _, _, _⟩) (v := ?_) rfl (by kernel_rfl) (by kernel_rfl) (by kernel_rfl) (fun _ _ _ h => h) (Or.inl ⟨by rfl, ?_⟩) hHeld ?_
                                rotate_left
                                · intro W hSW; obtain ⟨hSW0, hSW1⟩ := hSW; go_simp; first | done | with_reducible rfl
                                (try simp only [Act.put, List.setIfInBounds_toArray, List.set_cons_zero, List.set_cons_succ])
                                refine wpAnyH_take (i := 6) (oi := ⟨some 128, _, _, _, _, _⟩) (v := ?_) rfl (by kernel_rfl) (by kernel_rfl) (by kernel_rfl) (fun _ _ _ h => h) (Or.inl ⟨by rfl, ?_⟩) hHeld ?_
                                rotate_left
                                · intro W hSW; obtain ⟨hSW0, hSW1⟩ := hSW; go_simp; first | done | with_reducible rfl
                                (try simp only [Act.put, List.setIfInBounds_toArray, List.set_cons_zero, List.set_cons_succ])
                                refine wpAnyH_take (i := 7) (oi := ⟨some 129, _, _, _, _, _⟩) (v := ?_) rfl (by kernel_rfl) (by kernel_rfl) (by kernel_rfl) (fun _ _ _ h => h) (Or.inl ⟨by rfl, ?_⟩) hHeld ?_
                                rotate_left
                                · intro W hSW; obtain ⟨hSW0, hSW1⟩ := hSW; go_simp; first | done | with_reducible rfl
                                (try simp only [Act.put, List.setIfInBounds_toArray, List.set_cons_zero, List.set_cons_succ])
                                refine wpAnyH_take (i := 8) (oi := ⟨some 130, _, _, _, _, _⟩) (v := ?_) rfl (by kernel_rfl) (by kernel_rfl) (by kernel_rfl) (fun _ _ _ h => h) (Or.inl ⟨by rfl, ?_⟩) hHeld ?_
                                rotate_left
                                · intro W hSW; obtain ⟨hSW0, hSW1⟩ := hSW; go_simp; first | done | with_reducible rfl
                                (try simp only [Act.put, List.setIfInBounds_toArray, List.set_cons_zero, List.set_cons_succ])
                                refine wpAnyH_take (i := 9) (oi := ⟨some 131, _, _, _, _, _⟩) (v := ?_) rfl (by kernel_rfl) (by kernel_rfl) (by kernel_rfl) (fun _ _ _ h => h) (Or.inl ⟨by rfl, ?_⟩) hHeld ?_
                                rotate_left
                                · intro W hSW; obtain ⟨hSW0, hSW1⟩ := hSW; go_simp; first | done | with_reducible rfl
                                (try simp only [Act.put, List.setIfInBounds_toArray, List.set_cons_zero, List.set_cons_succ])
                                refine wpAnyH_take (i := 10) (oi := ⟨some 132, _, _, _, _, _⟩) (v := ?_) rfl (by kernel_rfl) (by kernel_rfl) (by kernel_rfl) (fun _ _ _ h => h) (Or.inl ⟨by rfl, ?_⟩) hHeld ?_
                                rotate_left
                                · intro W hSW; obtain ⟨hSW0, hSW1⟩ := hSW; go_simp; first | done | with_reducible rfl
                                (try simp only [Act.put, List.setIfInBounds_toArray, List.set_cons_zero, List.set_cons_succ])
                                refine wpAnyH_take (i := 11) (oi := ⟨some 133, _, _, _, _, _⟩) (v := ?_) rfl (by kernel_rfl) (by kernel_rfl) (by kernel_rfl) (fun _ _ _ h => h) (Or.inl ⟨by rfl, ?_⟩) hHeld ?_
                                rotate_left
                                · intro W hSW; obtain ⟨hSW0, hSW1⟩ := hSW; go_simp; first | done | with_reducible rfl
                                (try simp only [Act.put, List.setIfInBounds_toArray, List.set_cons_zero, List.set_cons_succ])
                                refine wpAnyH_take (i := 12) (oi := ⟨some 134, _, _, _, _, _⟩) (v := ?_) rfl (by kernel_rfl) (by kernel_rfl) (by kernel_rfl) (fun _ _ _ h => h) (Or.inl ⟨by rfl, ?_⟩) hHeld ?_
                                rotate_left
                                · intro W hSW; obtain ⟨hSW0, hSW1⟩ := hSW; go_simp; first | done | with_reducible rfl
                                (try simp only [Act.put, List.setIfInBounds_toArray, List.set_cons_zero, List.set_cons_succ])
                                refine wpAnyH_take (i := 13) (oi := ⟨some 20, _, _, _, _, _⟩) (v := ?_) rfl (by kernel_rfl) (by kernel_rfl) (by kernel_rfl) (fun _ _ _ h => h) (Or.inl ⟨by rfl, ?_⟩) hHeld ?_
                                rotate_left
                                · intro W hSW; obtain ⟨hSW0, hSW1⟩ := hSW; go_simp; first | done | with_reducible rfl
                                (try simp only [Act.put, List.setIfInBounds_toArray, List.set_cons_zero, List.set_cons_succ])
                                refine wpAnyH_done (by kernel_rfl) ?_ _
                                refine NoPanic.normal ?_
                                clear hHeld
                                have p9d := p9.drew
                                have k1d : w6.drew.cell? ⟨g19, 1, none⟩ = some (.int .i64 (r : Int)) := k1
                                by_cases hr0 : r = 0
                                · have tz : ((r : Int) == 0) = true := by simp; omega
                                  obtain ⟨N, hN⟩ : ∃ N, N = min Bb q := ⟨_, rfl⟩
                                  have m1 : (if (q : Int) < (Bb : Int) then (q : Int) else (Bb : Int)) = (N : Int) := by split <;> omega
                                  have m2 : min (Bb : Int) (q : Int) = (N : Int) := by omega
                                  have m3 : (if q < Bb then (q : Int) else (Bb : Int)) = (N : Int) := by split <;> omega
                                  have HR := Lib.hid (HZERO.out hr0)
                                  rw [← hN] at HR
                                  clear hN hr0
                                  go_wp2
                                  go_roundw
                                  case rel => exact ⟨x + 1, N, cc, A, by omega, by go_num, rfl, rfl, p4.drew, p5.drew, bel6.drew, p9d, HR.out, HA.out⟩
                                  case measure => simp [intOf] <;> omega
                                · have tz : ((r : Int) == 0) = false := by simp; omega
                                  have ig := fun W => run_idx (P := Tryd.prog) (sz := 4) Tryd.underlying108 (by kernel_rfl) g9 0 r hr64 .i64 W
                                  have ih := fun W => run_idx (P := Tryd.prog) (sz := 1) Tryd.underlying45 (by kernel_rfl) g9 (0 + 4 * r) t1 ht14 .i64 W
                                  simp only [Nat.zero_add, Nat.one_mul] at ig ih
                                  have kM : w6.drew.cell? ⟨g9, 4 * r + t1, none⟩ = some (.int .i64 (M : Int)) := (p9d.cell _).trans HCM.out
                                  by_cases hqm : q < M
                                  · have d1 : decide ((q : Int) < (M : Int)) = true := by simp; omega
                                    have d2 : decide (q < M) = true := by simp; omega
                                    have HR := Lib.hid (HLESS.out hqm)
                                    clear hqm hr0
                                    go_wp2_with (refine at_cell rfl 3 _ _ rfl g9 (4 * r + t1) (.int .i64 (q : Int)) rfl rfl 108 (W4 (nw A)) p9d hjl info3one rfl ?_; intro w7 h7)
                                    go_roundw
                                    case rel => exact ⟨x + 1, Bb, true, A.set (4 * r + t1) q, by omega, by go_num, rfl, rfl, h7.blk p4.drew (by omega), h7.blk p5.drew (by omega), bel6.drew.trans (h7.below (by omega)), by rw [← W4nw_set]; exact h7.row, HR.out⟩
                                    case measure => simp [intOf] <;> omega
                                  · have d1 : decide ((q : Int) < (M : Int)) = false := by simp; omega
                                    have d2 : decide (q < M) = false := by simp; omega
                                    have HR := Lib.hid (HKEEP.out hr0 (by omega))
                                    clear hqm hr0
                                    go_wp2
                                    go_roundw
                                    case rel => exact ⟨x + 1, Bb, cc, A, by omega, by go_num, rfl, rfl, p4.drew, p5.drew, bel6.drew, p9d, HR.out, HA.out⟩
                                    case measure => simp [intOf] <;> omega
                              · have HX2 : Hid (x = 2) := by unfold Hid; omega
                                go_wp2
                                go_roundw
                                case rel => exact ⟨t + 1, Bb, cc, A, by omega, by go_num, rfl, rfl, q4, q5, bel, q9, by have h := HP.out.1; rw [HX2.out] at h; exact h⟩
                                case measure => simp [intOf] <;> omega
                        · have HT4 : Hid (t = 4) := by unfold Hid; omega
                          go_wp2
                          go_roundw
                          case rel => exact ⟨s + 1, Bb, cc, A, by omega, by omega, by go_num, rfl, rfl, q4, q5, bel, q9, by have h := HP.out; rw [HT4.out] at h; exact h⟩
                          case measure => simp [intOf] <;> omega
                    · have HS64 : Hid (s = 64) := by unfold Hid; omega
                      go_wp2
                      go_roundw
                      case rel =>
                        refine ⟨Bb, cc, A, rfl, rfl, q4, q5, bel, q9, HP.out.tab, HP.out.fst, HP.out.ble, HP.out.cb, fun hc => ?_⟩
                        have h := HP.out
                        rw [HS64.out] at h
                        exact h.fix hc
                      case measure =>
                        have h1 := bsum_blk q9
                        have h2 := HSUM.out
                        have h3 := HP.out.sum
                        have h4 := HP.out.less
                        show 2 * bsum wr g9 + (match (Value.bool cc) with | .bool true => 1 | _ => 0) < 2 * bsum wo g9 + 1
                        rw [h1, h2]
                        cases cc with
                        | false => show 2 * A.sum + 0 < _; omega
                        | true => show 2 * A.sum + 1 < _; have := h4 rfl; omega
end Go.Proofs.YtcmoedhpedlalaaDoor
