/-
  Layer 12: inside.
-/
import Derived.Test.YtknfpdlomgllhaaDoorQc
import Derived.Test.YtknfpdlomgllhaaDoorMr
namespace Go.Proofs.YtknfpdlomgllhaaDoor
open Go.RowKit
set_option maxRecDepth 100000
set_option linter.unusedVariables false
set_option linter.unusedSimpArgs false

section
variable {P : Program} {ops : Array Oper} {o : Oper} {a : Act} {K : Act → World → Prop} {Q : Exit → Act → World → Prop} {E0 : Prop}
/-- '[]T{x}', x of three cells, in a region that draws. -/
theorem step_build3 {w : World} (hgd : o.guard = none) (t e : TypeId) (x : Operand) (ho : o.op = .buildSlice t 1 #[(0, x)]) (i : TypeInfo) (z : Value) (ht : P.underlying t = some (.slice e)) (hi : P.info? e = some i) (hz : i.zero = some z) (hs : i.size = 3)
    (E : Array Value) (hE : E.size = 3) (hx : a.eval x = .agg E)
    (h : K (a.put o.dst (.slice (some ⟨w.heap.size, 0, none⟩) 1 1)) (w.alloc (.cells E e))) : if Region.wanted o (yielded ops a.tmps) = true then Oper.wp P o a w K Q else E0 := by
  have hw : Region.wanted o (yielded ops a.tmps) = true := by simp [Region.wanted, hgd]
  rw [if_pos hw]
  refine wp_buildSlice t e 1 #[(0, x)] ho E i z ht hi hz (by rw [hs]; decide) (by rw [hs]; decide) ?_ h
  have key : ∀ (old : Array Value), old.size = 3 → Instr.fill (fun i => some (i * 3, 3)) old [(0, .agg E)] = some E := by
    intro old ho
    obtain ⟨l⟩ := old
    obtain ⟨m⟩ := E
    match l, ho, m, hE with
    | [_, _, _], _, [_, _, _], _ => simp [Instr.fill, Value.cells]
  rw [hs]
  simp only [List.map_toArray, List.map_cons, List.map_nil, hx]
  exact key _ (by simp)
/-- 'append(l, x)', x of sz cells, behind '[]T{x}', in a region that draws. -/
theorem step_appR {w : World} (hgd : o.guard = none) (s x : Operand) (t : TypeId) (ho : o.op = .call { callee := .builtin .append, args := #[s, x], argTypes := #[t, t] })
    (base : Nat) (e : TypeId) (i : TypeInfo) (z : Value) (sz bytes : Nat) (ht : P.underlying t = some (.slice e)) (hi : P.info? e = some i) (hz : i.zero = some z)
    (hsize : i.size = sz) (hby : i.bytes = bytes) (hzs : z.cells.size = sz) (hsz : 0 < sz)
    (A : Option Addr) (n c : Nat) (xs : List Value) (E : Array Value) (hE : E.size = sz) (hE1 : E.all (·.oneCell') = true) (hs : a.eval s = .slice A n c) (hown : OwnR w base e sz A n c xs)
    (hx : a.eval x = .slice (some ⟨w.heap.size, 0, none⟩) 1 1) (hbytes : (n + 1) * bytes ≤ 140737488355328) (h63 : n + 1 ≤ maxLen) (hbase : base ≤ w.heap.size)
    (h : ∀ A' c' w', OwnR w' base e sz A' (n + 1) c' (xs ++ E.toList) → w.grownBy w' (Value.slice A n c).ownBlock → K (a.put o.dst (.slice A' (n + 1) c')) w') :
    if Region.wanted o (yielded ops a.tmps) = true then Oper.wp P o a (w.alloc (.cells E e)) K Q else E0 := by
  have hw : Region.wanted o (yielded ops a.tmps) = true := by simp [Region.wanted, hgd]
  rw [if_pos hw]
  have own2 := hown.below (B := w.heap.size) ((Below.refl _ _).alloc (Nat.le_refl _) (.cells E e)) (Nat.le_refl _)
  have hb : Blk (w.alloc (.cells E e)) w.heap.size e E := (laid_alloc w e E).row
  obtain ⟨v', w', hrun, h2, h3, _⟩ := run_append_own (P := P) (w.alloc (.cells E e)) base t o.type e i z sz bytes ht hi hz hsize hby hzs hsz (.slice A n c) n xs own2.row ⟨w.heap.size, 0, none⟩ 1 1 E.toList (by rw [Array.length_toList, hE, Nat.one_mul])
    (fun j u hj => by rw [Addr.add_lit, Nat.zero_add, hb.cell, ← Array.getElem?_toList]; exact hj) (fun u hu => by
      rw [Array.all_eq_true_iff_forall_mem] at hE1
      exact hE1 u (Array.mem_toList_iff.1 hu)) h63 hbytes (by simp; omega)
  obtain ⟨A', c', rfl⟩ := sliceR_of_own h2
  unfold Oper.wp execOp
  simp only [ho, resolve, invoke, builtin, Sem.run_bind, Sem.run_pure, Result.andThen_ok, List.map_toArray, List.map_cons, List.map_nil, hs, hx, hrun]
  exact h A' c' w' ⟨h2⟩ ⟨h3.os, h3.tape, h3.output, Nat.le_trans (by simp) h3.size, fun k hk hne => (h3.block k (by simp; omega) hne).trans (Below.heap_alloc _ _ _ hk)⟩
end
/-- A hop as cells. -/
def H3 (u : Nat → Nat) (i : Nat) : List Value := [.int .i64 ((hpF i : Nat) : Int), .int .i64 ((hpG i : Nat) : Int), .int .i64 ((hpW u i : Nat) : Int)]
/-- The first hops as cells. -/
def hops (u : Nat → Nat) (k : Nat) : List Value := (List.range k).flatMap (H3 u)
theorem hops_succ (u : Nat → Nat) (k : Nat) : hops u (k + 1) = hops u k ++ H3 u k := by unfold hops; rw [List.range_succ, List.flatMap_append]; simp
theorem hops_get (u : Nat → Nat) : ∀ (k i j : Nat), i < k → j < 3 → (hops u k)[3 * i + j]? = (H3 u i)[j]?
  | 0, i, j, h, _ => by omega
  | k + 1, i, j, h, hj => by
    have hl : ∀ k, (hops u k).length = 3 * k := fun k => by
      induction k with
      | zero => rfl
      | succ k ih => rw [hops_succ, List.length_append, ih]; show 3 * k + 3 = _; omega
    rw [hops_succ]
    by_cases e : i = k
    · subst e
      rw [List.getElem?_append_right (by rw [hl]; omega), hl, show 3 * i + j - 3 * i = j by omega]
    · rw [List.getElem?_append_left (by rw [hl]; omega)]
      exact hops_get u k i j (by omega) hj
theorem ret_sl {A : Option Addr} {n m c : Nat} (h : n = m) : Ending.returned (.slice A n c) = .returned (.slice A m c) := by rw [h]
/-- What inside gives. -/
def InsideOk (ws : List Nat) (w : World) (e : Ending) (w' : World) : Prop := ∃ A c, e = .returned (.slice A 504 c) ∧ OwnR w' w.heap.size 144 3 A 504 c (hops (fun v => ws.getD v 0) 504) ∧ Below w.heap.size w w'
theorem infoHop : (Tryd.prog.info? 144).map (fun i => (i.zero, i.size, i.bytes)) = some (some (.agg #[.int .i64 0, .int .i64 0, .int .i64 0]), 3, 24) := by kernel_rfl
theorem E14_ext (s x : Nat) (hx : x ≤ 1) : (E14 s 0 s 1).extract (x * 7) (x * 7 + 7) = E7 s x := by
  have h : x = 0 ∨ x = 1 := by omega
  rcases h with rfl | rfl <;> rfl
set_option maxHeartbeats 2000000 in
set_option maxRecDepth 100000 in
/-- distance.inside. -/
theorem dinside (ws : List Nat) (w : World) (hl : ws.length = 4) (hb : ∀ y ∈ ws, y ≤ 7) (hT : Taps w) : Calls Tryd.prog 48 #[.agg (W4 (nw ws))] w (InsideOk ws w) := by
  obtain ⟨i0, hi0, hz0, hz1, hz2⟩ := info_parts infoHop
  have iZ : Hid ((Tryd.prog.info? 22).map (·.size) = some (W4 (nw ws)).size) := by unfold Hid; rw [W4_size, nw_length, hl]; exact info4w
  have CW := Lib.hid (fun (s x t : Nat) (ht : t < 4) (W : World) => dweight s x t ws W hl hb (by omega))
  clear hb hl
  obtain ⟨u, hu⟩ : ∃ u : Nat → Nat, u = fun v => ws.getD v 0 := ⟨_, rfl⟩
  rw [← hu] at CW
  unfold InsideOk
  rw [← hu]
  clear hu
  go_enter Tryd.func48, Tryd.ntmps48
  generalize hZ : W4 (nw ws) = Z at *
  clear hZ
  go_upto_region 2 with (refine at_box rfl 22 _ rfl Z rfl ?_; intro w1 h1)
  have q1 := h1.row
  have bel := h1.bel
  have hs1 := h1.size
  obtain ⟨g1, hg1⟩ : ∃ g, g = w.heap.size := ⟨_, rfl⟩
  obtain ⟨B0, hB⟩ : ∃ B, B = w1.heap.size := ⟨_, rfl⟩
  rw [← hg1] at q1
  have hgB : g1 < B0 := by omega
  have hwB : w.heap.size ≤ B0 := by omega
  have hBw : B0 ≤ w1.heap.size := by omega
  rw [← hg1]
  clear h1 hs1 hg1 hB
  go_wp2
  go_loopw [3, 10] (fun r i wr => ∃ t : Nat, t ≤ 4 ∧ i = .int .i64 t ∧ ∃ N, Hid (N = 126 * t) ∧ ∃ A1 c1, r = .slice A1 N c1 ∧ OwnR wr B0 144 3 A1 N c1 (hops u N) ∧ Blk wr g1 22 Z ∧ Below w.heap.size w wr ∧ B0 ≤ wr.heap.size) (fun _ i _ => 4 - (intOf i).toNat)
  case atStart => exact ⟨0, by omega, rfl, 0, rfl, none, 0, rfl, OwnR.nil _ _ _ _, q1, bel, hBw⟩
  case round =>
    clear q1 bel hBw
    obtain ⟨t, ht, rfl, N, HN, A1, c1, rfl, own, q1, bel, hBw⟩ := hrel
    by_cases hlt : t < 4
    · have dk : decide ((t : Int) < 4) = true := by simp <;> omega
      go_wp2
      obtain ⟨wo, rfl⟩ : ∃ wo : World, wo = wr := ⟨_, rfl⟩
      go_loopw [3, 5] (fun r i wr => ∃ s : Nat, 1 ≤ s ∧ s ≤ 64 ∧ i = .int .i64 s ∧ ∃ N, Hid (N = 126 * t + 2 * (s - 1)) ∧ ∃ A1 c1, r = .slice A1 N c1 ∧ OwnR wr B0 144 3 A1 N c1 (hops u N) ∧ Blk wr g1 22 Z ∧ Below w.heap.size w wr ∧ B0 ≤ wr.heap.size) (fun _ i _ => 64 - (intOf i).toNat)
      case atStart => exact ⟨1, by omega, by omega, rfl, N, HN.out, A1, c1, rfl, own, q1, bel, hBw⟩
      case round =>
        clear own q1 bel hBw HN
        obtain ⟨s, hs1, hs, rfl, N, HN, A1, c1, rfl, own, q1, bel, hBw⟩ := hrel
        by_cases hlt2 : s < 64
        · have dk2 : decide ((s : Int) < 64) = true := by simp <;> omega
          have CF := Lib.hid (fromC s wr hlt2 (hT.after bel))
          have HE1 := Lib.hid (E14_one s 0 s 1)
          have HES : Hid ((E14 s 0 s 1).size = 14) := rfl
          have i14 : Hid ((Tryd.prog.info? 139).map (·.size) = some (E14 s 0 s 1).size) := info14
          have HIX := Lib.hid (fun (x : Nat) (hx : x ≤ 1) W => by have := run_indexP (P := Tryd.prog) Tryd.underlying139 Tryd.underlying138 rfl info7 (E14 s 0 s 1) x (by omega) .i64 W; rw [E14_ext s x hx] at this; exact this)
          generalize E14 s 0 s 1 = EE at *
          go_upto_region 10 with (first | (go_at_call 86; refine CF.out.mono ?_; rintro e w4 ⟨rfl, hb4⟩) | (refine at_alloc rfl 139 rfl Z14 Z14_eq ?_; intro w5 h5) | (refine at_store rfl 139 _ _ rfl w4.heap.size EE rfl rfl 139 Z14 h5.row i14.out (by rw [HES.out]; rfl) HE1.out ?_; intro w6 h6) | (refine at_load rfl 139 _ rfl w4.heap.size rfl 139 EE _ h6.row Tryd.underlying139 rfl i14.out ?_))
          have b46 : Below wr.heap.size wr w6 := (Below.then_ hb4 h5.bel).trans (h6.below hb4.size)
          replace own := own.below b46 (Nat.le_refl _)
          replace q1 := q1.after b46
          replace bel := Below.then_ bel b46
          replace hBw : B0 ≤ w6.heap.size := Nat.le_trans hBw b46.size
          obtain ⟨g6, hg6⟩ : ∃ g, g = w4.heap.size := ⟨_, rfl⟩
          rw [← hg6]
          clear h5 h6 hb4 b46 CF hg6
          obtain ⟨wo2, rfl⟩ : ∃ wo : World, wo = w6 := ⟨_, rfl⟩
          go_loopw [3, 23] (fun r i wr => ∃ x : Nat, x ≤ 2 ∧ i = .int .i64 x ∧ ∃ N, Hid (N = 126 * t + 2 * (s - 1) + x) ∧ ∃ A1 c1, r = .slice A1 N c1 ∧ OwnR wr B0 144 3 A1 N c1 (hops u N) ∧ Blk wr g1 22 Z ∧ Below w.heap.size w wr ∧ B0 ≤ wr.heap.size) (fun _ i _ => 2 - (intOf i).toNat)
          case atStart => exact ⟨0, by omega, rfl, N, HN.out, A1, c1, rfl, own, q1, bel, hBw⟩
          case round =>
            clear own q1 bel HN hBw
            obtain ⟨x, hx, rfl, N, HN, A1, c1, rfl, own, q1, bel, hBw⟩ := hrel
            by_cases hlt3 : x < 2
            · have ixx := HIX.out x (by omega)
              have dk3 : decide ((x : Int) < 2) = true := by simp <;> omega
              have i7 : Hid ((Tryd.prog.info? 138).map (·.size) = some (E7 s x).size) := info7
              have HX1 := Lib.hid (E7_one s x)
              have HXZ : Hid ((C7 0 0 0 0 0 0 0).size = (E7 s x).size) := rfl
              have HE8 : Hid ((E7 s x)[1]? = some (.int .i64 ((Cv.nx s x : Nat) : Int))) := rfl
              have CWt := Lib.hid (CW.out s x t hlt)
              obtain ⟨h1, h2, h3, h4⟩ := hp_of t s x hlt (by omega) hlt2 (by omega)
              have hnx := Cv.nx_lt s x hlt2 (by omega)
              have HH : Hid (H3 u (126 * t + 2 * (s - 1) + x) = [.int .i64 ((64 * (t % 4) + s : Nat) : Int), .int .i64 ((64 * ((t + 1) % 4) + Cv.nx s x : Nat) : Int), .int .i64 ((Cv.ew u t s x : Nat) : Int)]) := by
                unfold Hid H3 hpF hpG hpW
                rw [h1, h2, h3, Nat.mod_eq_of_lt hlt]
              have hN504 : N ≤ 504 := by rw [HN.out]; omega
              obtain ⟨t1, ht1⟩ : ∃ t1, t1 = t + 1 := ⟨_, rfl⟩
              have CP1 := Lib.hid (fun W => dplace t s W (by omega) hlt2)
              have CP2 : Hid (∀ W, Calls Tryd.prog 50 #[.int .i64 (t1 : Int), .int .i64 ((Cv.nx s x : Nat) : Int)] W fun e w' => e = .returned (.int .i64 ((64 * ((t + 1) % 4) + Cv.nx s x : Nat) : Int)) ∧ W = w') := fun W => by rw [ht1]; exact dplace (t + 1) (Cv.nx s x) W (by omega) hnx
              have f1 : IntKind.i64.wrap ((t : Int) + 1) = (t1 : Int) := by rw [IntWalk.i64_in _ (by omega)]; omega
              have hsz := bel.size
              have hB0' : Hid (∀ k, (Value.slice A1 N c1).ownBlock = some k → B0 ≤ k ∧ k < wr.heap.size) := own.block
              generalize E7 s x = E at *
              generalize 64 * (t % 4) + s = f at *
              generalize 64 * ((t + 1) % 4) + Cv.nx s x = g at *
              generalize Cv.ew u t s x = n at *
              generalize Cv.nx s x = nn at *
              obtain ⟨xs, hxs⟩ : ∃ xs, xs = hops u N := ⟨_, rfl⟩
              have HXS := Lib.hid hxs
              rw [← hxs] at own
              clear h1 h2 h3 h4 ht1 hxs
              go_upto_region 12 with (first | (refine at_alloc rfl 138 rfl (C7 0 0 0 0 0 0 0) Z7_eq ?_; intro w7 h7) | (refine at_store rfl 138 _ _ rfl wr.heap.size E rfl rfl 138 _ h7.row i7.out HXZ.out HX1.out ?_; intro w8 h8))
              have q9 := h8.row
              have b78 : Below wr.heap.size wr w8 := h7.bel.trans (h8.below (Nat.le_refl _))
              replace own := own.below b78 (Nat.le_refl _)
              replace q1 := q1.after b78
              have bel5 := Below.then_ bel b78
              have hw05 := bel5.size
              have hB0 : B0 ≤ w8.heap.size := by
                have := b78.size
                omega
              have hr9 : (Value.slice A1 N c1).ownBlock ≠ some wr.heap.size := fun h => by have := (hB0'.out _ h).2; omega
              have hr1 : (Value.slice A1 N c1).ownBlock ≠ some g1 := fun h => by have := (hB0'.out _ h).1; omega
              obtain ⟨g9, hg9⟩ : ∃ g, g = wr.heap.size := ⟨_, rfl⟩
              rw [← hg9] at q9 hr9
              rw [← hg9]
              clear h7 h8 hg9 hB0'
              have HE1 : (#[Value.int .i64 (f : Int), .int .i64 (g : Int), .int .i64 (n : Int)]).all (·.oneCell') = true := by simp [Value.oneCell']
              have HK : Hid (∀ W, Below w8.heap.size w8 W → (Blk W g9 138 E ∧ Blk W g1 22 Z ∧ W.cell? ⟨g9, 1, none⟩ = some (.int .i64 (nn : Int)))) := fun W hB => ⟨q9.after hB, q1.after hB, ((q9.after hB).cell 1).trans HE8.out⟩
              have bel0 : Below w8.heap.size w8 w8.drew := (Below.refl _ _).drew
              refine wp_region_noPanic ?_
              refine wp_region_held_drew (S := fun W => Blk W g9 138 E ∧ Blk W g1 22 Z ∧ W.cell? ⟨g9, 1, none⟩ = some (.int .i64 (nn : Int))) (by kernel_rfl) (HK.out _ bel0) (fun hHeld => ?_)
              refine wpAnyH_take (i := 0) (oi := ⟨some 26, _, _, _, _, _⟩) (v := ?_) rfl (by kernel_rfl) (by kernel_rfl) (by kernel_rfl) (fun _ _ _ h => h) (Or.inl ⟨by rfl, ?_⟩) hHeld ?_
              rotate_left
              · intro W hSW; obtain ⟨hSW0, hSW1, hSW2⟩ := hSW; go_simp; first | done | with_reducible rfl
              (try simp only [Act.put, List.setIfInBounds_toArray, List.set_cons_zero, List.set_cons_succ])
              refine wpAnyH_take (i := 1) (oi := ⟨some 27, _, _, _, _, _⟩) (v := ?_) rfl (by kernel_rfl) (by kernel_rfl) (by kernel_rfl) (fun _ _ _ h => h) (Or.inl ⟨by rfl, ?_⟩) hHeld ?_
              rotate_left
              · intro W hSW; obtain ⟨hSW0, hSW1, hSW2⟩ := hSW; go_simp; first | done | with_reducible rfl
              (try simp only [Act.put, List.setIfInBounds_toArray, List.set_cons_zero, List.set_cons_succ])
              refine wpAnyH_take (i := 2) (oi := ⟨some 28, _, _, _, _, _⟩) (v := ?_) rfl (by kernel_rfl) (by kernel_rfl) (by kernel_rfl) (fun _ _ _ h => h) (Or.inl ⟨by rfl, ?_⟩) hHeld ?_
              rotate_left
              · intro W hSW; obtain ⟨hSW0, hSW1, hSW2⟩ := hSW; go_simp; first | done | with_reducible rfl
              (try simp only [Act.put, List.setIfInBounds_toArray, List.set_cons_zero, List.set_cons_succ])
              refine wpAnyH_take (i := 4) (oi := ⟨some 30, _, _, _, _, _⟩) (v := ?_) rfl (by kernel_rfl) (by kernel_rfl) (by kernel_rfl) (fun _ _ _ h => h) (Or.inl ⟨by rfl, ?_⟩) hHeld ?_
              rotate_left
              · intro W hSW; obtain ⟨hSW0, hSW1, hSW2⟩ := hSW; go_simp; first | done | with_reducible rfl
              (try simp only [Act.put, List.setIfInBounds_toArray, List.set_cons_zero, List.set_cons_succ])
              refine wpAnyH_take (i := 5) (oi := ⟨some 31, _, _, _, _, _⟩) (v := ?_) rfl (by kernel_rfl) (by kernel_rfl) (by kernel_rfl) (fun _ _ _ h => h) (Or.inl ⟨by rfl, ?_⟩) hHeld ?_
              rotate_left
              · intro W hSW; obtain ⟨hSW0, hSW1, hSW2⟩ := hSW; go_simp; first | done | with_reducible rfl
              (try simp only [Act.put, List.setIfInBounds_toArray, List.set_cons_zero, List.set_cons_succ])
              refine wpAnyH_take (i := 6) (oi := ⟨some 32, _, _, _, _, _⟩) (v := ?_) rfl (by kernel_rfl) (by kernel_rfl) (by kernel_rfl) (fun _ _ _ h => h) (Or.inl ⟨by rfl, ?_⟩) hHeld ?_
              rotate_left
              · intro W hSW; obtain ⟨hSW0, hSW1, hSW2⟩ := hSW; go_simp; first | done | with_reducible rfl
              (try simp only [Act.put, List.setIfInBounds_toArray, List.set_cons_zero, List.set_cons_succ])
              refine wpAnyH_take (i := 7) (oi := ⟨some 33, _, _, _, _, _⟩) (v := ?_) rfl (by kernel_rfl) (by kernel_rfl) (by kernel_rfl) (fun _ _ _ h => h) (Or.inl ⟨by rfl, ?_⟩) hHeld ?_
              rotate_left
              · intro W hSW; obtain ⟨hSW0, hSW1, hSW2⟩ := hSW; go_simp; first | done | with_reducible rfl
              (try simp only [Act.put, List.setIfInBounds_toArray, List.set_cons_zero, List.set_cons_succ])
              refine wpAnyH_take (i := 9) (oi := ⟨some 35, _, _, _, _, _⟩) (v := _) rfl (by kernel_rfl) (by kernel_rfl) (by kernel_rfl) (fun _ _ _ h => h) (yields_row (by rfl) 138 _ (by rfl) g9 (by rfl) 138 E _ (fun W h => h.1) Tryd.underlying138 rfl i7.out) hHeld ?_
              (try simp only [Act.put, List.setIfInBounds_toArray, List.set_cons_zero, List.set_cons_succ])
              refine wpAnyH_take (i := 10) (oi := ⟨some 36, _, _, _, _, _⟩) (v := ?_) rfl (by kernel_rfl) (by kernel_rfl) (by kernel_rfl) (fun _ _ _ h => h) (Or.inl ⟨by rfl, ?_⟩) hHeld ?_
              rotate_left
              · intro W hSW; obtain ⟨hSW0, hSW1, hSW2⟩ := hSW; go_simp; first | done | with_reducible rfl
              (try simp only [Act.put, List.setIfInBounds_toArray, List.set_cons_zero, List.set_cons_succ])
              refine wpAnyH_take (i := 11) (oi := ⟨some 37, _, _, _, _, _⟩) (v := _) rfl (by kernel_rfl) (by kernel_rfl) (by kernel_rfl) (fun _ _ _ h => h) (yields_row (by rfl) 22 _ (by rfl) g1 (by rfl) 22 Z _ (fun W h => h.2.1) Tryd.underlying22 rfl iZ.out) hHeld ?_
              (try simp only [Act.put, List.setIfInBounds_toArray, List.set_cons_zero, List.set_cons_succ])
              refine wpAnyH_ready (rs := [3]) (by kernel_rfl) (by simp) ?_
              refine AllReadyH.cons (o := ⟨some 29, _, _, _, _, _⟩) rfl (fun K hK => ?_) (AllReadyH.nil)
              go_simp
              refine (CP1.out _).mono ?_
              rintro e W' ⟨rfl, rfl⟩
              clear hHeld
              refine hK.out _ _ ?_ (fun hHeld => ?_)
              · exact HK.out _ bel0
              clear hK K
              (try simp only [Act.put, List.setIfInBounds_toArray, List.set_cons_zero, List.set_cons_succ])
              refine wpAnyH_ready (rs := [8]) (by kernel_rfl) (by simp) ?_
              refine AllReadyH.cons (o := ⟨some 34, _, _, _, _, _⟩) rfl (fun K hK => ?_) (AllReadyH.nil)
              go_simp
              refine (CP2.out _).mono ?_
              rintro e W' ⟨rfl, rfl⟩
              clear hHeld
              refine hK.out _ _ ?_ (fun hHeld => ?_)
              · exact HK.out _ bel0
              clear hK K
              (try simp only [Act.put, List.setIfInBounds_toArray, List.set_cons_zero, List.set_cons_succ])
              refine wpAnyH_ready (rs := [12]) (by kernel_rfl) (by simp) ?_
              refine AllReadyH.cons (o := ⟨some 38, _, _, _, _, _⟩) rfl (fun K hK => ?_) (AllReadyH.nil)
              go_simp
              refine (CWt.out _).mono ?_
              rintro e wc ⟨rfl, hb⟩
              have bc := Below.then_ bel0 hb
              clear hHeld hb
              refine hK.out _ _ ?_ (fun hHeld => ?_)
              · exact HK.out _ bc
              clear hK K
              (try simp only [Act.put, List.setIfInBounds_toArray, List.set_cons_zero, List.set_cons_succ])
              refine wpAnyH_take (i := 13) (oi := ⟨some 39, _, _, _, _, _⟩) (v := ?_) rfl (by kernel_rfl) (by kernel_rfl) (by kernel_rfl) (fun _ _ _ h => h) (Or.inl ⟨by rfl, ?_⟩) hHeld ?_
              rotate_left
              · intro W hSW; obtain ⟨hSW0, hSW1, hSW2⟩ := hSW; go_simp; first | done | with_reducible rfl
              (try simp only [Act.put, List.setIfInBounds_toArray, List.set_cons_zero, List.set_cons_succ])
              refine wpAnyH_ready (rs := [14]) (by kernel_rfl) (by simp) ?_
              refine AllReadyH.cons (o := ⟨some 40, _, _, _, _, _⟩) rfl (fun K hK => ?_) (AllReadyH.nil)
              refine step_build3 (by rfl) 90 144 _ (by rfl) i0 _ Tryd.underlying90 hi0 hz0 hz1 #[.int .i64 (f : Int), .int .i64 (g : Int), .int .i64 (n : Int)] rfl (by rfl) ?_
              clear hHeld
              refine hK.out _ _ ?_ (fun hHeld => ?_)
              · exact HK.out _ (Below.then_ bc ((Below.refl _ _).alloc (Nat.le_refl _) _))
              clear hK K
              (try simp only [Act.put, List.setIfInBounds_toArray, List.set_cons_zero, List.set_cons_succ])
              refine wpAnyH_ready (rs := [15]) (by kernel_rfl) (by simp) ?_
              refine AllReadyH.cons (o := ⟨some 41, _, _, _, _, _⟩) rfl (fun K hK => ?_) (AllReadyH.nil)
              refine step_appR (by rfl) _ _ 90 (by rfl) B0 144 i0 _ 3 24 Tryd.underlying90 hi0 hz0 hz1 hz2 rfl (by omega) A1 N c1 xs _ rfl HE1 (by rfl) (own.below bc (Nat.le_refl _)) (by rfl) (by omega) (by unfold maxLen; omega) (Nat.le_trans hB0 bc.size) ?_
              intro A3 c3 w9 own9 gr9
              have hS := HK.out _ bc
              clear hHeld
              refine hK.out _ _ ?_ (fun hHeld => ?_)
              · exact ⟨hS.1.grown gr9 hr9, hS.2.1.grown gr9 hr1, ((hS.1.grown gr9 hr9).cell 1).trans HE8.out⟩
              clear hK K
              (try simp only [Act.put, List.setIfInBounds_toArray, List.set_cons_zero, List.set_cons_succ])
              have bel9 := (bel5.trans (bc.mono hw05)).grown gr9 (Nat.le_trans bel5.size bc.size) (fun j hj => Nat.le_trans hwB (own.block j hj).1)
              have q19 := hS.2.1.grown gr9 hr1
              have hB9 : B0 ≤ w9.heap.size := Nat.le_trans (Nat.le_trans hB0 bc.size) gr9.size
              clear hS
              refine wpAnyH_take (i := 16) (oi := ⟨some 3, _, _, _, _, _⟩) (v := ?_) rfl (by kernel_rfl) (by kernel_rfl) (by kernel_rfl) (fun _ _ _ h => h) (Or.inl ⟨by rfl, ?_⟩) hHeld ?_
              rotate_left
              · intro W hSW; obtain ⟨hSW0, hSW1, hSW2⟩ := hSW; go_simp; first | done | with_reducible rfl
              (try simp only [Act.put, List.setIfInBounds_toArray, List.set_cons_zero, List.set_cons_succ])
              refine wpAnyH_done (by kernel_rfl) ?_ _
              refine NoPanic.normal ?_
              clear hHeld
              clear f1
              go_wp2
              go_roundw
              case rel => exact ⟨x + 1, by omega, by go_num, N + 1, by unfold Hid; rw [HN.out]; omega, A3, c3, rfl, own9.to rfl (by rw [HXS.out, hops_succ, HN.out, HH.out]), q19, bel9, hB9⟩
              case measure => simp [intOf] <;> omega
            · have dk3 : decide ((x : Int) < 2) = false := by simp <;> omega
              have HX2 : Hid (x = 2) := by unfold Hid; omega
              go_wp2
              go_roundw
              case rel => exact ⟨s + 1, by omega, by omega, by go_num, N, by unfold Hid; rw [HN.out, HX2.out]; omega, A1, c1, rfl, own, q1, bel, hBw⟩
              case measure => simp [intOf] <;> omega
        · have dk2 : decide ((s : Int) < 64) = false := by simp <;> omega
          have HS2 : Hid (s = 64) := by unfold Hid; omega
          go_wp2
          go_roundw
          case rel => exact ⟨t + 1, by omega, by go_num, N, by unfold Hid; rw [HN.out, HS2.out]; omega, A1, c1, rfl, own, q1, bel, hBw⟩
          case measure => simp [intOf] <;> omega
    · have dk : decide ((t : Int) < 4) = false := by simp <;> omega
      have HT4 : Hid (N = 504) := by unfold Hid; rw [HN.out, show t = 4 by omega]
      go_wp2
      go_ret
      exact ⟨A1, c1, ret_sl HT4.out, by have := own.down hwB; rw [HT4.out] at this; exact this, bel⟩
end Go.Proofs.YtknfpdlomgllhaaDoor
