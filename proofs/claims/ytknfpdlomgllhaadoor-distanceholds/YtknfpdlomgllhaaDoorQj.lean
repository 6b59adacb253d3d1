/-
  The walk of DistanceHolds.
-/
import Derived.Test.YtknfpdlomgllhaaDoorQh
import Derived.Test.YtknfpdlomgllhaaDoorPd
import Derived.Test.YtknfpdlomgllhaaDoorRc
import Derived.Test.YtknfpdlomgllhaaDoorMn
import Derived.Test.YtknfpdlomgllhaaDoorMo
import Derived.Test.YtknfpdlomgllhaaDoorKz
namespace Go.Proofs.YtknfpdlomgllhaaDoor
open Go.RowKit
set_option maxRecDepth 100000
set_option linter.unusedVariables false
set_option linter.unusedSimpArgs false

theorem grown_setCell (w : World) (g p : Nat) (u : Value) : w.grownBy (w.setCell ⟨g, p, none⟩ u) (some g) :=
  ⟨rfl, rfl, rfl, by simp, fun k hk hne => heap_setCell_other w ⟨g, p, none⟩ k u (by intro e; exact hne (by rw [e]))⟩
theorem Own.chg {w w' : World} {base : Nat} {e : TypeId} {A : Option Addr} {n c : Nat} {xs : List Value} {row : Option Nat} (h : Own w base e A n c xs) (hg : w.grownBy w' row) (hne : ∀ k, blk A = some k → row ≠ some k) : Own w' base e A n c xs :=
  ⟨h.row.kept hg (by
    rw [blk_own]
    cases hb : blk A with
    | none => exact .inl rfl
    | some k => exact .inr (by have := hne k hb; exact fun e => this e.symm))⟩
theorem zx_getD : ∀ (a b : List Nat) (j : Nat), j < a.length → j < b.length → (Crc.zx a b).getD j 0 = a.getD j 0 ^^^ b.getD j 0
  | [], _, _, h, _ => absurd h (by simp)
  | _ :: _, [], _, _, h => absurd h (by simp)
  | x :: a, y :: b, 0, _, _ => rfl
  | x :: a, y :: b, j + 1, h1, h2 => zx_getD a b j (by simpa using h1) (by simpa using h2)
theorem zx_bits {a b : List Nat} (ha : ∀ x ∈ a, x ≤ 1) (hb : ∀ x ∈ b, x ≤ 1) : ∀ x ∈ Crc.zx a b, x ≤ 1 := by
  induction a generalizing b with
  | nil => intro x hx; simp [Crc.zx] at hx
  | cons y a ih =>
    cases b with
    | nil => intro x hx; simp [Crc.zx] at hx
    | cons z b =>
      intro x hx
      rcases List.mem_cons.1 (show x ∈ (y ^^^ z) :: Crc.zx a b from hx) with rfl | h
      · have h1 := ha y List.mem_cons_self
        have h2 := hb z List.mem_cons_self
        have : y = 0 ∨ y = 1 := by omega
        have : z = 0 ∨ z = 1 := by omega
        rcases ‹y = 0 ∨ y = 1› with rfl | rfl <;> rcases ‹z = 0 ∨ z = 1› with rfl | rfl <;> decide
      · exact ih (fun u hu => ha u (List.mem_cons_of_mem _ hu)) (fun u hu => hb u (List.mem_cons_of_mem _ hu)) x h
theorem extN {l m : List Nat} (hl : l.length = m.length) (h : ∀ i, i < l.length → l.getD i 0 = m.getD i 0) : l = m := by
  refine List.ext_getElem hl fun i h1 h2 => ?_
  have := h i h1
  simpa [List.getD, h1, h2] using this
theorem bit_lt {l : List Nat} (h : ∀ x ∈ l, x ≤ 1) : ∀ x ∈ l, x < 256 := fun x hx => Nat.lt_of_le_of_lt (h x hx) (by omega)

set_option maxHeartbeats 4000000 in
set_option maxRecDepth 100000 in
/-- DistanceHolds. -/
theorem walkDistanceHolds (zs : List Int) (A A' : Option Addr) (n c n' c' : Nat) (xs ys : List Nat) (w : World) (hl : zs.length = 4) (h1 : Rd w w.heap.size A n (U8 xs)) (b1 : ∀ b ∈ xs, b < 256) (hn : n ≤ 9223372036854775807) (h2 : Rd w w.heap.size A' n' (U8 ys)) (b2 : ∀ b ∈ ys, b < 256) (hn' : n' ≤ 9223372036854775807) (hT : Taps w) :
    Calls Tryd.prog 3 #[.agg (W4 zs), .slice A n c, .slice A' n' c'] w fun e w' => e = .returned (.bool true) ∧ Below w.heap.size w w' := by
  have CF1 : Hid (∀ W, Below w.heap.size w W → Calls Tryd.prog 9 #[.slice A n c, .int .i64 80] W (Made W (Bm.few xs 80))) := fun W h => fewC A n c 80 xs W ((h1.below h).up h.size) b1 (by omega) hn
  have CF2 : Hid (∀ W, Below w.heap.size w W → Calls Tryd.prog 9 #[.slice A' n' c', .int .i64 80] W (Made W (Bm.few ys 80))) := fun W h => fewC A' n' c' 80 ys W ((h2.below h).up h.size) b2 (by omega) hn'
  have hlen1 := Bm.few_length xs 80
  have hlen2 := Bm.few_length ys 80
  have HL1 := Lib.hid (Bm.few_bit xs 80)
  have HL2 := Lib.hid (Bm.few_bit ys 80)
  have hl1 : (Bm.few xs 80).length ≤ 80 := by omega
  have hl2 : (Bm.few ys 80).length ≤ 80 := by omega
  clear hlen1 hlen2
  generalize Bm.few xs 80 = l1 at *
  generalize Bm.few ys 80 = l2 at *
  have CA := Lib.hid apartC
  have HPOS := Lib.hid hT.pos
  have HL := Lib.hid hl
  clear hl h1 h2 b1 b2
  go_enter Tryd.func3, Tryd.ntmps3
  generalize hZ : W4 zs = Z0 at *
  have HZ0 := Lib.hid hZ
  clear hZ
  go_wp2_with (refine at_box rfl 22 _ rfl Z0 rfl ?_; intro w1 h1)
  have q2 : Blk w1 w.heap.size 22 (W4 zs) := by rw [HZ0.out]; exact h1.row
  have b2 : Below w.heap.size w w1 := h1.bel
  obtain ⟨g2, hg2⟩ : ∃ g, g = w.heap.size := ⟨_, rfl⟩
  rw [← hg2] at q2 ⊢
  have HG := Lib.hid hg2
  clear h1 hg2
  go_loopw [7] (fun i wr => ∃ v : Nat, v ≤ 4 ∧ i = .int .i64 v ∧ ∃ B : List Int, Blk wr g2 22 (W4 B) ∧ Below w.heap.size w wr ∧ Hid (B.length = 4 ∧ (∀ j, j < v → B.getD j 0 = ((rd8 (zs.getD j 0) : Nat) : Int)) ∧ ∀ j, v ≤ j → B.getD j 0 = zs.getD j 0)) (fun i _ => 4 - (intOf i).toNat)
  case atStart => exact ⟨0, by omega, rfl, zs, q2, b2, HL.out, fun j hj => by omega, fun j _ => rfl⟩
  case round =>
    clear q2 b2
    obtain ⟨v, hv, rfl, B, q2, bel, HAB⟩ := hrel
    by_cases hlt : v < 4
    · obtain ⟨x, hx⟩ : ∃ x, B.getD v 0 = x := ⟨_, rfl⟩
      have hxz : x = zs.getD v 0 := by rw [← hx]; exact HAB.out.2.2 v (Nat.le_refl _)
      have kx := (q2.cell v).trans (W4_get B v (by rw [HAB.out.1]; exact hlt))
      rw [hx] at kx
      have f1 := wrap_u64_is x
      obtain ⟨r, hr⟩ : ∃ r : Nat, r = rd8 x := ⟨_, rfl⟩
      have f2 : (((x % 18446744073709551616).toNat : Nat) : Int) % 8 = (r : Int) := by rw [hr]; unfold rd8; omega
      have hr7 : r ≤ 7 := by rw [hr]; exact rd8_lt x
      have hub : (x % 18446744073709551616).toNat < 18446744073709551616 := by omega
      generalize (x % 18446744073709551616).toNat = ux at *
      have HAB2 : Hid ((B.set v (r : Int)).length = 4 ∧ (∀ j, j < v + 1 → (B.set v (r : Int)).getD j 0 = ((rd8 (zs.getD j 0) : Nat) : Int)) ∧ ∀ j, v + 1 ≤ j → (B.set v (r : Int)).getD j 0 = zs.getD j 0) := by
        obtain ⟨a1, a3, a4⟩ := HAB.out
        refine ⟨by rw [List.length_set]; exact a1, fun j hj => ?_, fun j hj => ?_⟩
        · rw [set_int B v _ j (by omega)]
          by_cases hjv : j = v
          · subst hjv
            rw [if_pos rfl, hr, hxz]
          · rw [if_neg (by omega)]
            exact a3 j (by omega)
        · rw [set_int B v _ j (by omega), if_neg (by omega)]
          exact a4 j (by omega)
      have sA : v < (W4 B).size := by rw [W4_size, HAB.out.1]; exact hlt
      have ia := fun W => run_idx (P := Tryd.prog) (sz := 1) Tryd.underlying22 (by kernel_rfl) g2 0 v hlt .i64 W
      simp only [Nat.zero_add, Nat.one_mul] at ia
      clear hx hxz hr HAB
      go_wp2_with (refine at_cell rfl 3 _ _ rfl g2 v (.int .i64 (r : Int)) rfl rfl 22 (W4 B) q2 sA info3one rfl ?_; intro w6 h6)
      go_roundw
      case rel => exact ⟨v + 1, by omega, by go_num, B.set v (r : Int), by rw [← W4_set]; exact h6.row, bel.trans (h6.below (Nat.le_of_eq HG.out.symm)), HAB2.out⟩
      case measure => simp [intOf] <;> omega
    · have HV4 : Hid (v = 4) := by unfold Hid; omega
      obtain ⟨a1, a3, _⟩ := HAB.out
      rw [HV4.out] at a3
      have hA : B = nw ((List.range 4).map fun j => rd8 (zs.getD j 0)) := nw_of B _ 4 a1 fun j hj => a3 j hj
      obtain ⟨ws, hws⟩ : ∃ ws, ws = (List.range 4).map fun j => rd8 (zs.getD j 0) := ⟨_, rfl⟩
      rw [← hws] at hA
      subst hA
      have hw4 : ws.length = 4 := by rw [hws]; simp
      have hw7 : ∀ y ∈ ws, y ≤ 7 := fun y hy => by rw [hws] at hy; obtain ⟨j, _, rfl⟩ := List.mem_map.1 hy; exact rd8_lt (zs.getD j 0)
      have iZ : Hid ((Tryd.prog.info? 22).map (·.size) = some (W4 (nw ws)).size) := by unfold Hid; rw [W4_size, nw_length, hw4]; exact info4w
      have HW4 := Lib.hid hw4
      have HW7 := Lib.hid hw7
      have CL := Lib.hid (fun W (h : Taps W) => leastYes ws W hw4 hw7 h)
      obtain ⟨Z, hZ⟩ : ∃ Z, Z = W4 (nw ws) := ⟨_, rfl⟩
      rw [← hZ] at iZ CL q2
      have HZ : Hid (W4 (nw ws) = Z) := hZ.symm
      clear hZ hws hw4 hw7 HAB HV4 a1 a3 HL HZ0
      have hTr : Taps wr := hT.lowB bel HPOS.out
      go_upto_region 5 with fail
      go_wp2_with fail
      refine (CF1.out wr bel).mono ?_
      rintro e w5 ⟨A1, k1, c1, rfl, own1, be5⟩
      have bel5 := Below.then_ bel be5
      go_wp2_with fail
      refine (CF2.out w5 bel5).mono ?_
      rintro e w6 ⟨A2, k2, c2, rfl, own2, be6⟩
      have bw6 := Below.then_ bel5 be6
      have own1' := own1.below be6 (Nat.le_refl _)
      have hTt := (hTr.after be5).after be6
      have q26 := (q2.after be5).after be6
      obtain ⟨N, hN1, hN2, hN3, hmin⟩ := minTwo k1 k2
      have hk1 := own1.rd.len8
      have hk2 := own2.rd.len8
      have hc1 := own1.bounds
      have hc2 := own2.bounds
      have HNo1 := Lib.hid own1.none_
      have HNo2 := Lib.hid own2.none_
      have rx6 := own1'.rd.cut8 N hN1
      have ry6 := own2.rd.cut8 N hN2
      have hNN : N ≤ 80 := by omega
      have HNa : Hid ((l1.take N).length = N) := by unfold Hid; rw [List.length_take]; omega
      have HNb : Hid ((l2.take N).length = N) := by unfold Hid; rw [List.length_take]; omega
      have HLa : Hid (∀ x ∈ l1.take N, x ≤ 1) := fun x hx => HL1.out x (List.mem_of_mem_take hx)
      have HLb : Hid (∀ x ∈ l2.take N, x ≤ 1) := fun x hx => HL2.out x (List.mem_of_mem_take hx)
      generalize l1.take N = la at *
      generalize l2.take N = lb at *
      unfold maxLen at hc1 hc2
      have hNc1 : N ≤ c1 := by omega
      have hNc2 : N ≤ c2 := by omega
      clear own1 own1' own2 be5 be6 bel5 hk1 hk2 hN3 q2 hTr bel HL1 HL2 hl1 hl2 CF1 CF2
      go_upto_region 7 with fail
      go_upto_region 8 with (first | (refine at_load rfl 22 _ rfl g2 rfl 22 Z _ q26 Tryd.underlying22 rfl iZ.out ?_) | (go_at_call 10; refine (CL.out _ hTt).mono ?_; rintro e w7 ⟨nl, rfl, hnl, be7⟩))
      have HLst : Hid (Cv.Lst (fun v => ws.getD v 0) nl) := hnl
      have bw7 := Below.then_ bw6 be7
      have hT7 := hTt.after be7
      have q27 := q26.after be7
      have rx := (rx6.below be7).up be7.size
      have ry := (ry6.below be7).up be7.size
      have hv1 := fun W (h : Below w7.heap.size w7 W) => rx.conv (c := c1) (fun h => by have := HNo1.out h; omega) W h
      have hv2 := fun W (h : Below w7.heap.size w7 W) => ry.conv (c := c2) (fun h => by have := HNo2.out h; omega) W h
      have HK8 : Hid (∀ W, Below w7.heap.size w7 W → (Below w7.heap.size w7 W ∧ convO A1 N c1 W = .ok (.string (str la)) W ∧ convO A2 N c2 W = .ok (.string (str lb)) W)) := fun W h => ⟨h, hv1 W h, hv2 W h⟩
      have hany := convO_eq
      clear hnl be7 hTt q26 rx6 ry6 hv1 hv2 CL bw6
      by_cases hne : la = lb
      · obtain ⟨s1, hs1⟩ : ∃ s, str la = s := ⟨_, rfl⟩
        rw [← hne, hs1] at HK8
        have ts : (s1.toList == s1.toList) = true := by simp
        clear hs1
        go_wp2_with fail
        refine wp_region_noPanic ?_
        refine wp_region_held_drew (S := fun W => Below w7.heap.size w7 W ∧ convO A1 N c1 W = .ok (.string s1) W ∧ convO A2 N c2 W = .ok (.string s1) W) (by kernel_rfl) (HK8.out _ (Below.refl _ _).drew) (fun hHeld => ?_)
        refine wpAnyH_ready (rs := [0]) (by kernel_rfl) (by simp) ?_
        refine AllReadyH.cons (o := ⟨some 40, _, _, _, _, _⟩) rfl (fun K hK => ?_) (AllReadyH.nil)
        go_simp
        refine (CA.out _ (hT7.after hHeld.1)).mono ?_
        rintro e wa ⟨rfl, bea⟩
        have ba := Below.then_ hHeld.1 bea
        clear hHeld
        refine hK.out _ _ ?_ (fun hHeld => ?_)
        · exact HK8.out _ ba
        clear hK K
        (try simp only [Act.put, List.setIfInBounds_toArray, List.set_cons_zero, List.set_cons_succ])
        refine wpAnyH_take (i := 1) (oi := ⟨some 41, _, _, _, _, _⟩) (v := ?_) rfl (by kernel_rfl) (by kernel_rfl) (by kernel_rfl) (fun _ _ _ h => h) (Or.inl ⟨by rfl, ?_⟩) hHeld ?_
        rotate_left
        · intro W hSW; obtain ⟨hSW0, hSW1, hSW2⟩ := hSW; go_simp; first | done | with_reducible rfl
        (try simp only [Act.put, List.setIfInBounds_toArray, List.set_cons_zero, List.set_cons_succ])
        refine wpAnyH_take (i := 2) (oi := ⟨some 42, _, _, _, _, _⟩) (v := ?_) rfl (by kernel_rfl) (by kernel_rfl) (by kernel_rfl) (fun _ _ _ h => h) (Or.inl ⟨by rfl, ?_⟩) hHeld ?_
        rotate_left
        · intro W hSW; obtain ⟨hSW0, hSW1, hSW2⟩ := hSW; go_simp; first | done | with_reducible rfl
        (try simp only [Act.put, List.setIfInBounds_toArray, List.set_cons_zero, List.set_cons_succ])
        refine wpAnyH_take (i := 3) (oi := ⟨some 43, _, _, _, _, _⟩) (v := ?_) rfl (by kernel_rfl) (by kernel_rfl) (by kernel_rfl) (fun _ _ _ h => h) (Or.inl ⟨by rfl, ?_⟩) hHeld ?_
        rotate_left
        · intro W hSW; obtain ⟨hSW0, hSW1, hSW2⟩ := hSW; go_simp; first | done | with_reducible rfl
        (try simp only [Act.put, List.setIfInBounds_toArray, List.set_cons_zero, List.set_cons_succ])
        refine wpAnyH_take (i := 4) (oi := ⟨some 44, _, _, _, _, _⟩) (v := ?_) rfl (by kernel_rfl) (by kernel_rfl) (by kernel_rfl) (fun _ _ _ h => h) (Or.inl ⟨by rfl, ?_⟩) hHeld ?_
        rotate_left
        · intro W hSW; obtain ⟨hSW0, hSW1, hSW2⟩ := hSW; go_simp; first | done | with_reducible rfl
        (try simp only [Act.put, List.setIfInBounds_toArray, List.set_cons_zero, List.set_cons_succ])
        refine wpAnyH_take (i := 5) (oi := ⟨some 45, _, _, _, _, _⟩) (v := ?_) rfl (by kernel_rfl) (by kernel_rfl) (by kernel_rfl) (fun _ _ _ h => h) (Or.inl ⟨by rfl, ?_⟩) hHeld ?_
        rotate_left
        · intro W hSW; obtain ⟨hSW0, hSW1, hSW2⟩ := hSW; go_simp; first | done | with_reducible rfl
        (try simp only [Act.put, List.setIfInBounds_toArray, List.set_cons_zero, List.set_cons_succ])
        refine wpAnyH_take (i := 6) (oi := ⟨some 46, _, _, _, _, _⟩) (v := ?_) rfl (by kernel_rfl) (by kernel_rfl) (by kernel_rfl) (fun _ _ _ h => h) (Or.inl ⟨by rfl, ?_⟩) hHeld ?_
        rotate_left
        · intro W hSW; obtain ⟨hSW0, hSW1, hSW2⟩ := hSW; go_simp; first | done | with_reducible rfl
        (try simp only [Act.put, List.setIfInBounds_toArray, List.set_cons_zero, List.set_cons_succ])
        refine wpAnyH_take (i := 7) (oi := ⟨some 47, _, _, _, _, _⟩) (v := ?_) rfl (by kernel_rfl) (by kernel_rfl) (by kernel_rfl) (fun _ _ _ h => h) (Or.inl ⟨by rfl, ?_⟩) hHeld ?_
        rotate_left
        · intro W hSW; obtain ⟨hSW0, hSW1, hSW2⟩ := hSW; go_simp; first | done | with_reducible rfl
        (try simp only [Act.put, List.setIfInBounds_toArray, List.set_cons_zero, List.set_cons_succ])
        refine wpAnyH_take (i := 8) (oi := ⟨some 48, _, _, _, _, _⟩) (v := ?_) rfl (by kernel_rfl) (by kernel_rfl) (by kernel_rfl) (fun _ _ _ h => h) (Or.inl ⟨by rfl, ?_⟩) hHeld ?_
        rotate_left
        · intro W hSW; obtain ⟨hSW0, hSW1, hSW2⟩ := hSW; go_simp; first | done | with_reducible rfl
        (try simp only [Act.put, List.setIfInBounds_toArray, List.set_cons_zero, List.set_cons_succ])
        refine wpAnyH_take (i := 9) (oi := ⟨some 49, _, _, _, _, _⟩) (v := ?_) rfl (by kernel_rfl) (by kernel_rfl) (by kernel_rfl) (fun _ _ _ h => h) (Or.inl ⟨by rfl, ?_⟩) hHeld ?_
        rotate_left
        · intro W hSW; obtain ⟨hSW0, hSW1, hSW2⟩ := hSW; go_simp; first | done | with_reducible rfl
        (try simp only [Act.put, List.setIfInBounds_toArray, List.set_cons_zero, List.set_cons_succ])
        refine wpAnyH_take (i := 10) (oi := ⟨some 50, _, _, _, _, _⟩) (v := ?_) rfl (by kernel_rfl) (by kernel_rfl) (by kernel_rfl) (fun _ _ _ h => h) (Or.inl ⟨by rfl, ?_⟩) hHeld ?_
        rotate_left
        · intro W hSW; obtain ⟨hSW0, hSW1, hSW2⟩ := hSW; go_simp; first | done | with_reducible rfl
        (try simp only [Act.put, List.setIfInBounds_toArray, List.set_cons_zero, List.set_cons_succ])
        refine wpAnyH_take (i := 11) (oi := ⟨some 51, _, _, _, _, _⟩) (v := ?_) rfl (by kernel_rfl) (by kernel_rfl) (by kernel_rfl) (fun _ _ _ h => h) (Or.inl ⟨by rfl, ?_⟩) hHeld ?_
        rotate_left
        · intro W hSW; obtain ⟨hSW0, hSW1, hSW2⟩ := hSW; go_simp; first | done | with_reducible rfl
        (try simp only [Act.put, List.setIfInBounds_toArray, List.set_cons_zero, List.set_cons_succ])
        refine wpAnyH_take (i := 12) (oi := ⟨some 52, _, _, _, _, _⟩) (v := ?_) rfl (by kernel_rfl) (by kernel_rfl) (by kernel_rfl) (fun _ _ _ h => h) (Or.inl ⟨by rfl, ?_⟩) hHeld ?_
        rotate_left
        · intro W hSW; obtain ⟨hSW0, hSW1, hSW2⟩ := hSW; go_simp; first | done | with_reducible rfl
        (try simp only [Act.put, List.setIfInBounds_toArray, List.set_cons_zero, List.set_cons_succ])
        refine wpAnyH_take (i := 13) (oi := ⟨some 53, _, _, _, _, _⟩) (v := ?_) rfl (by kernel_rfl) (by kernel_rfl) (by kernel_rfl) (fun _ _ _ h => h) (Or.inl ⟨by rfl, ?_⟩) hHeld ?_
        rotate_left
        · intro W hSW; obtain ⟨hSW0, hSW1, hSW2⟩ := hSW; go_simp; first | done | with_reducible rfl
        (try simp only [Act.put, List.setIfInBounds_toArray, List.set_cons_zero, List.set_cons_succ])
        refine wpAnyH_take (i := 14) (oi := ⟨some 54, _, _, _, _, _⟩) (v := ?_) rfl (by kernel_rfl) (by kernel_rfl) (by kernel_rfl) (fun _ _ _ h => h) (Or.inl ⟨by rfl, ?_⟩) hHeld ?_
        rotate_left
        · intro W hSW; obtain ⟨hSW0, hSW1, hSW2⟩ := hSW; go_simp; first | done | with_reducible rfl
        (try simp only [Act.put, List.setIfInBounds_toArray, List.set_cons_zero, List.set_cons_succ])
        refine wpAnyH_take (i := 15) (oi := ⟨some 55, _, _, _, _, _⟩) (v := ?_) rfl (by kernel_rfl) (by kernel_rfl) (by kernel_rfl) (fun _ _ _ h => h) (Or.inl ⟨by rfl, ?_⟩) hHeld ?_
        rotate_left
        · intro W hSW; obtain ⟨hSW0, hSW1, hSW2⟩ := hSW; go_simp; first | done | with_reducible rfl
        (try simp only [Act.put, List.setIfInBounds_toArray, List.set_cons_zero, List.set_cons_succ])
        refine wpAnyH_take (i := 16) (oi := ⟨some 56, _, _, _, _, _⟩) (v := ?_) rfl (by kernel_rfl) (by kernel_rfl) (by kernel_rfl) (fun _ _ _ h => h) (Or.inl ⟨by rfl, ?_⟩) hHeld ?_
        rotate_left
        · intro W hSW; obtain ⟨hSW0, hSW1, hSW2⟩ := hSW; go_simp; first | done | with_reducible rfl
        (try simp only [Act.put, List.setIfInBounds_toArray, List.set_cons_zero, List.set_cons_succ])
        refine wpAnyH_done (by kernel_rfl) ?_ _
        refine NoPanic.normal ?_
        clear hHeld
        go_wp2_with (go_at_call 11; refine (CA.out _ (hT7.after ba)).mono ?_; rintro e wb ⟨rfl, beb⟩)
        go_ret
        exact ⟨rfl, ((bw7.trans (ba.mono bw7.size)).trans (beb.mono (Nat.le_trans bw7.size ba.size)))⟩
      · have ts := str_ne (bit_lt HLa.out) (bit_lt HLb.out) hne
        generalize str la = s1 at *
        generalize str lb = s2 at *
        go_wp2_with fail
        refine wp_region_noPanic ?_
        refine wp_region_held_drew (S := fun W => Below w7.heap.size w7 W ∧ convO A1 N c1 W = .ok (.string s1) W ∧ convO A2 N c2 W = .ok (.string s2) W) (by kernel_rfl) (HK8.out _ (Below.refl _ _).drew) (fun hHeld => ?_)
        refine wpAnyH_ready (rs := [0]) (by kernel_rfl) (by simp) ?_
        refine AllReadyH.cons (o := ⟨some 40, _, _, _, _, _⟩) rfl (fun K hK => ?_) (AllReadyH.nil)
        go_simp
        refine (CA.out _ (hT7.after hHeld.1)).mono ?_
        rintro e wa ⟨rfl, bea⟩
        have ba := Below.then_ hHeld.1 bea
        clear hHeld
        refine hK.out _ _ ?_ (fun hHeld => ?_)
        · exact HK8.out _ ba
        clear hK K
        (try simp only [Act.put, List.setIfInBounds_toArray, List.set_cons_zero, List.set_cons_succ])
        refine wpAnyH_take (i := 1) (oi := ⟨some 41, _, _, _, _, _⟩) (v := ?_) rfl (by kernel_rfl) (by kernel_rfl) (by kernel_rfl) (fun _ _ _ h => h) (Or.inl ⟨by rfl, ?_⟩) hHeld ?_
        rotate_left
        · intro W hSW; obtain ⟨hSW0, hSW1, hSW2⟩ := hSW; go_simp; first | done | with_reducible rfl
        (try simp only [Act.put, List.setIfInBounds_toArray, List.set_cons_zero, List.set_cons_succ])
        refine wpAnyH_take (i := 2) (oi := ⟨some 42, _, _, _, _, _⟩) (v := ?_) rfl (by kernel_rfl) (by kernel_rfl) (by kernel_rfl) (fun _ _ _ h => h) (Or.inl ⟨by rfl, ?_⟩) hHeld ?_
        rotate_left
        · intro W hSW; obtain ⟨hSW0, hSW1, hSW2⟩ := hSW; go_simp; first | done | with_reducible rfl
        (try simp only [Act.put, List.setIfInBounds_toArray, List.set_cons_zero, List.set_cons_succ])
        refine wpAnyH_take (i := 3) (oi := ⟨some 43, _, _, _, _, _⟩) (v := ?_) rfl (by kernel_rfl) (by kernel_rfl) (by kernel_rfl) (fun _ _ _ h => h) (Or.inl ⟨by rfl, ?_⟩) hHeld ?_
        rotate_left
        · intro W hSW; obtain ⟨hSW0, hSW1, hSW2⟩ := hSW; go_simp; first | done | with_reducible rfl
        (try simp only [Act.put, List.setIfInBounds_toArray, List.set_cons_zero, List.set_cons_succ])
        refine wpAnyH_take (i := 4) (oi := ⟨some 44, _, _, _, _, _⟩) (v := ?_) rfl (by kernel_rfl) (by kernel_rfl) (by kernel_rfl) (fun _ _ _ h => h) (Or.inl ⟨by rfl, ?_⟩) hHeld ?_
        rotate_left
        · intro W hSW; obtain ⟨hSW0, hSW1, hSW2⟩ := hSW; go_simp; first | done | with_reducible rfl
        (try simp only [Act.put, List.setIfInBounds_toArray, List.set_cons_zero, List.set_cons_succ])
        refine wpAnyH_take (i := 5) (oi := ⟨some 45, _, _, _, _, _⟩) (v := ?_) rfl (by kernel_rfl) (by kernel_rfl) (by kernel_rfl) (fun _ _ _ h => h) (Or.inl ⟨by rfl, ?_⟩) hHeld ?_
        rotate_left
        · intro W hSW; obtain ⟨hSW0, hSW1, hSW2⟩ := hSW; go_simp; first | done | with_reducible rfl
        (try simp only [Act.put, List.setIfInBounds_toArray, List.set_cons_zero, List.set_cons_succ])
        refine wpAnyH_take (i := 6) (oi := ⟨some 46, _, _, _, _, _⟩) (v := ?_) rfl (by kernel_rfl) (by kernel_rfl) (by kernel_rfl) (fun _ _ _ h => h) (Or.inl ⟨by rfl, ?_⟩) hHeld ?_
        rotate_left
        · intro W hSW; obtain ⟨hSW0, hSW1, hSW2⟩ := hSW; go_simp; first | done | with_reducible rfl
        (try simp only [Act.put, List.setIfInBounds_toArray, List.set_cons_zero, List.set_cons_succ])
        refine wpAnyH_take (i := 7) (oi := ⟨some 47, _, _, _, _, _⟩) (v := ?_) rfl (by kernel_rfl) (by kernel_rfl) (by kernel_rfl) (fun _ _ _ h => h) (Or.inl ⟨by rfl, ?_⟩) hHeld ?_
        rotate_left
        · intro W hSW; obtain ⟨hSW0, hSW1, hSW2⟩ := hSW; go_simp; first | done | with_reducible rfl
        (try simp only [Act.put, List.setIfInBounds_toArray, List.set_cons_zero, List.set_cons_succ])
        refine wpAnyH_take (i := 8) (oi := ⟨some 48, _, _, _, _, _⟩) (v := ?_) rfl (by kernel_rfl) (by kernel_rfl) (by kernel_rfl) (fun _ _ _ h => h) (Or.inl ⟨by rfl, ?_⟩) hHeld ?_
        rotate_left
        · intro W hSW; obtain ⟨hSW0, hSW1, hSW2⟩ := hSW; go_simp; first | done | with_reducible rfl
        (try simp only [Act.put, List.setIfInBounds_toArray, List.set_cons_zero, List.set_cons_succ])
        refine wpAnyH_take (i := 9) (oi := ⟨some 49, _, _, _, _, _⟩) (v := ?_) rfl (by kernel_rfl) (by kernel_rfl) (by kernel_rfl) (fun _ _ _ h => h) (Or.inl ⟨by rfl, ?_⟩) hHeld ?_
        rotate_left
        · intro W hSW; obtain ⟨hSW0, hSW1, hSW2⟩ := hSW; go_simp; first | done | with_reducible rfl
        (try simp only [Act.put, List.setIfInBounds_toArray, List.set_cons_zero, List.set_cons_succ])
        refine wpAnyH_take (i := 10) (oi := ⟨some 50, _, _, _, _, _⟩) (v := ?_) rfl (by kernel_rfl) (by kernel_rfl) (by kernel_rfl) (fun _ _ _ h => h) (Or.inl ⟨by rfl, ?_⟩) hHeld ?_
        rotate_left
        · intro W hSW; obtain ⟨hSW0, hSW1, hSW2⟩ := hSW; go_simp; first | done | with_reducible rfl
        (try simp only [Act.put, List.setIfInBounds_toArray, List.set_cons_zero, List.set_cons_succ])
        refine wpAnyH_take (i := 11) (oi := ⟨some 51, _, _, _, _, _⟩) (v := ?_) rfl (by kernel_rfl) (by kernel_rfl) (by kernel_rfl) (fun _ _ _ h => h) (Or.inl ⟨by rfl, ?_⟩) hHeld ?_
        rotate_left
        · intro W hSW; obtain ⟨hSW0, hSW1, hSW2⟩ := hSW; go_simp; first | done | with_reducible rfl
        (try simp only [Act.put, List.setIfInBounds_toArray, List.set_cons_zero, List.set_cons_succ])
        refine wpAnyH_take (i := 12) (oi := ⟨some 52, _, _, _, _, _⟩) (v := ?_) rfl (by kernel_rfl) (by kernel_rfl) (by kernel_rfl) (fun _ _ _ h => h) (Or.inl ⟨by rfl, ?_⟩) hHeld ?_
        rotate_left
        · intro W hSW; obtain ⟨hSW0, hSW1, hSW2⟩ := hSW; go_simp; first | done | with_reducible rfl
        (try simp only [Act.put, List.setIfInBounds_toArray, List.set_cons_zero, List.set_cons_succ])
        refine wpAnyH_take (i := 13) (oi := ⟨some 53, _, _, _, _, _⟩) (v := ?_) rfl (by kernel_rfl) (by kernel_rfl) (by kernel_rfl) (fun _ _ _ h => h) (Or.inl ⟨by rfl, ?_⟩) hHeld ?_
        rotate_left
        · intro W hSW; obtain ⟨hSW0, hSW1, hSW2⟩ := hSW; go_simp; first | done | with_reducible rfl
        (try simp only [Act.put, List.setIfInBounds_toArray, List.set_cons_zero, List.set_cons_succ])
        refine wpAnyH_take (i := 14) (oi := ⟨some 54, _, _, _, _, _⟩) (v := ?_) rfl (by kernel_rfl) (by kernel_rfl) (by kernel_rfl) (fun _ _ _ h => h) (Or.inl ⟨by rfl, ?_⟩) hHeld ?_
        rotate_left
        · intro W hSW; obtain ⟨hSW0, hSW1, hSW2⟩ := hSW; go_simp; first | done | with_reducible rfl
        (try simp only [Act.put, List.setIfInBounds_toArray, List.set_cons_zero, List.set_cons_succ])
        refine wpAnyH_take (i := 15) (oi := ⟨some 55, _, _, _, _, _⟩) (v := ?_) rfl (by kernel_rfl) (by kernel_rfl) (by kernel_rfl) (fun _ _ _ h => h) (Or.inl ⟨by rfl, ?_⟩) hHeld ?_
        rotate_left
        · intro W hSW; obtain ⟨hSW0, hSW1, hSW2⟩ := hSW; go_simp; first | done | with_reducible rfl
        (try simp only [Act.put, List.setIfInBounds_toArray, List.set_cons_zero, List.set_cons_succ])
        refine wpAnyH_take (i := 16) (oi := ⟨some 56, _, _, _, _, _⟩) (v := ?_) rfl (by kernel_rfl) (by kernel_rfl) (by kernel_rfl) (fun _ _ _ h => h) (Or.inl ⟨by rfl, ?_⟩) hHeld ?_
        rotate_left
        · intro W hSW; obtain ⟨hSW0, hSW1, hSW2⟩ := hSW; go_simp; first | done | with_reducible rfl
        (try simp only [Act.put, List.setIfInBounds_toArray, List.set_cons_zero, List.set_cons_succ])
        refine wpAnyH_done (by kernel_rfl) ?_ _
        refine NoPanic.normal ?_
        clear hHeld
        have hT9 := hT7.after ba
        have q2a := q27.after ba
        have bwa := bw7.trans (ba.mono bw7.size)
        have hbwa := bwa.size
        have rxa := (rx.below (ba.mono (Nat.le_refl _))).up ba.size
        have rya := (ry.below (ba.mono (Nat.le_refl _))).up ba.size
        have CX : Hid (∀ W, Below wa.heap.size wa W → Calls Tryd.prog 12 #[.slice A1 N c1] W (Made W (Cv.code la))) := fun W h => refCode A1 N c1 la W ((rxa.below h).up h.size) HLa.out (by omega)
        have CY : Hid (∀ W, Below wa.heap.size wa W → Calls Tryd.prog 12 #[.slice A2 N c2] W (Made W (Cv.code lb))) := fun W h => refCode A2 N c2 lb W ((rya.below h).up h.size) HLb.out (by omega)
        obtain ⟨M, hM⟩ : ∃ M, M = 4 * (N + 6) := ⟨_, rfl⟩
        have HCX : Hid ((Cv.code la).length = M) := by unfold Hid; rw [Cv.code_length, HNa.out, hM]
        have HCY : Hid ((Cv.code lb).length = M) := by unfold Hid; rw [Cv.code_length, HNb.out, hM]
        have hM0 : 0 < M := by omega
        have hMl : M ≤ 400 := by omega
        have HLX := Lib.hid (Cv.code_bit la HLa.out)
        have HLY := Lib.hid (Cv.code_bit lb HLb.out)
        have HHold : Hid (nl ≤ Cv.wcT (fun v => ws.getD v 0) (Crc.zx (Cv.code la) (Cv.code lb)) M) := by
          unfold Hid
          rw [hM, ← HNa.out]
          exact HLst.out.holds la lb HLa.out HLb.out (by rw [HNa.out, HNb.out]) hne
        clear hM rxa rya
        have hg2w := q27.lt
        go_wp2_with fail
        refine wp_region_noPanic ?_
        refine wp_region_held_drew (S := fun W => Below wa.heap.size wa W) (by kernel_rfl) ((Below.refl _ _).drew) (fun hHeld => ?_)
        refine wpAnyH_take (i := 0) (oi := ⟨some 62, _, _, _, _, _⟩) (v := ?_) rfl (by kernel_rfl) (by kernel_rfl) (by kernel_rfl) (fun _ _ _ h => h) (Or.inl ⟨by rfl, ?_⟩) hHeld ?_
        rotate_left
        · intro W hSW; have hSW0 := hSW; go_simp; first | done | with_reducible rfl
        (try simp only [Act.put, List.setIfInBounds_toArray, List.set_cons_zero, List.set_cons_succ])
        refine wpAnyH_take (i := 1) (oi := ⟨some 63, _, _, _, _, _⟩) (v := ?_) rfl (by kernel_rfl) (by kernel_rfl) (by kernel_rfl) (fun _ _ _ h => h) (Or.inl ⟨by rfl, ?_⟩) hHeld ?_
        rotate_left
        · intro W hSW; have hSW0 := hSW; go_simp; first | done | with_reducible rfl
        (try simp only [Act.put, List.setIfInBounds_toArray, List.set_cons_zero, List.set_cons_succ])
        refine wpAnyH_take (i := 2) (oi := ⟨some 64, _, _, _, _, _⟩) (v := ?_) rfl (by kernel_rfl) (by kernel_rfl) (by kernel_rfl) (fun _ _ _ h => h) (Or.inl ⟨by rfl, ?_⟩) hHeld ?_
        rotate_left
        · intro W hSW; have hSW0 := hSW; go_simp; first | done | with_reducible rfl
        (try simp only [Act.put, List.setIfInBounds_toArray, List.set_cons_zero, List.set_cons_succ])
        refine wpAnyH_take (i := 4) (oi := ⟨some 66, _, _, _, _, _⟩) (v := ?_) rfl (by kernel_rfl) (by kernel_rfl) (by kernel_rfl) (fun _ _ _ h => h) (Or.inl ⟨by rfl, ?_⟩) hHeld ?_
        rotate_left
        · intro W hSW; have hSW0 := hSW; go_simp; first | done | with_reducible rfl
        (try simp only [Act.put, List.setIfInBounds_toArray, List.set_cons_zero, List.set_cons_succ])
        refine wpAnyH_take (i := 5) (oi := ⟨some 67, _, _, _, _, _⟩) (v := ?_) rfl (by kernel_rfl) (by kernel_rfl) (by kernel_rfl) (fun _ _ _ h => h) (Or.inl ⟨by rfl, ?_⟩) hHeld ?_
        rotate_left
        · intro W hSW; have hSW0 := hSW; go_simp; first | done | with_reducible rfl
        (try simp only [Act.put, List.setIfInBounds_toArray, List.set_cons_zero, List.set_cons_succ])
        refine wpAnyH_take (i := 6) (oi := ⟨some 68, _, _, _, _, _⟩) (v := ?_) rfl (by kernel_rfl) (by kernel_rfl) (by kernel_rfl) (fun _ _ _ h => h) (Or.inl ⟨by rfl, ?_⟩) hHeld ?_
        rotate_left
        · intro W hSW; have hSW0 := hSW; go_simp; first | done | with_reducible rfl
        (try simp only [Act.put, List.setIfInBounds_toArray, List.set_cons_zero, List.set_cons_succ])
        refine wpAnyH_ready (rs := [3]) (by kernel_rfl) (by simp) ?_
        refine AllReadyH.cons (o := ⟨some 65, _, _, _, _, _⟩) rfl (fun K hK => ?_) (AllReadyH.nil)
        go_simp
        refine (CX.out _ hHeld).mono ?_
        rintro e wx ⟨Ax, mx, cx, rfl, ownx, bex⟩
        have bx := Below.then_ hHeld bex
        clear hHeld
        refine hK.out _ _ ?_ (fun hHeld => ?_)
        · exact bx
        clear hK K
        (try simp only [Act.put, List.setIfInBounds_toArray, List.set_cons_zero, List.set_cons_succ])
        refine wpAnyH_ready (rs := [7]) (by kernel_rfl) (by simp) ?_
        refine AllReadyH.cons (o := ⟨some 69, _, _, _, _, _⟩) rfl (fun K hK => ?_) (AllReadyH.nil)
        go_simp
        refine (CY.out _ hHeld).mono ?_
        rintro e wy ⟨Ay, my, cy, rfl, owny, bey⟩
        have ownx2 := ownx.below bey (Nat.le_refl _)
        have by_ := Below.then_ hHeld bey
        clear hHeld
        refine hK.out _ _ ?_ (fun hHeld => ?_)
        · exact by_
        clear hK K
        (try simp only [Act.put, List.setIfInBounds_toArray, List.set_cons_zero, List.set_cons_succ])
        refine wpAnyH_take (i := 8) (oi := ⟨some 11, _, _, _, _, _⟩) (v := ?_) rfl (by kernel_rfl) (by kernel_rfl) (by kernel_rfl) (fun _ _ _ h => h) (Or.inl ⟨by rfl, ?_⟩) hHeld ?_
        rotate_left
        · intro W hSW; have hSW0 := hSW; go_simp; first | done | with_reducible rfl
        (try simp only [Act.put, List.setIfInBounds_toArray, List.set_cons_zero, List.set_cons_succ])
        refine wpAnyH_take (i := 9) (oi := ⟨some 12, _, _, _, _, _⟩) (v := ?_) rfl (by kernel_rfl) (by kernel_rfl) (by kernel_rfl) (fun _ _ _ h => h) (Or.inl ⟨by rfl, ?_⟩) hHeld ?_
        rotate_left
        · intro W hSW; have hSW0 := hSW; go_simp; first | done | with_reducible rfl
        (try simp only [Act.put, List.setIfInBounds_toArray, List.set_cons_zero, List.set_cons_succ])
        refine wpAnyH_done (by kernel_rfl) ?_ _
        refine NoPanic.normal ?_
        clear hHeld
        have hmx := ownx.rd.len8
        have hmy := owny.rd.len8
        have hsx := bex.size
        have hg2a := q2a.lt
        obtain ⟨gx, rfl, hgx, hgxl⟩ : ∃ g, Ax = some ⟨g, 0, none⟩ ∧ wa.heap.size ≤ g ∧ g < wx.heap.size := by
          obtain ⟨g, h1, h2, h3, _⟩ := ownx.slot 0 (by rw [hmx, HCX.out]; omega)
          exact ⟨g, h1, h2, h3⟩
        obtain ⟨gy, rfl, hgy, hgyl⟩ : ∃ g, Ay = some ⟨g, 0, none⟩ ∧ wx.heap.size ≤ g ∧ g < wy.heap.size := by
          obtain ⟨g, h1, h2, h3, _⟩ := owny.slot 0 (by rw [hmy, HCY.out]; omega)
          exact ⟨g, h1, h2, h3⟩
        obtain rfl : mx = M := by rw [hmx, HCX.out]
        obtain rfl : my = mx := by rw [hmy, HCY.out]
        have q2y := q2a.below by_ hg2a
        have bwy := bwa.trans (by_.mono hbwa)
        have hxy : gx < gy := by omega
        have hg2x : g2 < gx := by omega
        have hwgx : w.heap.size ≤ gx := by omega
        obtain ⟨Bd, hBd⟩ : ∃ B, B = wa.heap.size := ⟨_, rfl⟩
        obtain ⟨B2, hB2⟩ : ∃ B, B = wx.heap.size := ⟨_, rfl⟩
        have ownx3 : Own wy Bd 5 (some ⟨gx, 0, none⟩) my cx (U8 (Cv.code la)) := by rw [hBd]; exact ownx2
        rw [← hB2] at owny
        clear hmx hmy hsx hgxl hgyl hgx hgy bex bey ownx ownx2 by_ hB2 hBd CX CY hg2a q2a hg2w q27
        go_wp2
        obtain ⟨wo, hwo⟩ : ∃ wo : World, wo = wr := ⟨_, rfl⟩
        clear hwo
        go_loopw [13] (fun x wr => ∃ i : Nat, i ≤ my ∧ x = .int .i64 i ∧ ∃ qs : List Nat, Own wr Bd 5 (some ⟨gx, 0, none⟩) my cx (U8 qs) ∧ Hid (qs.length = my ∧ ∀ j, j < my → qs.getD j 0 = if j < i then (Cv.code la).getD j 0 ^^^ (Cv.code lb).getD j 0 else (Cv.code la).getD j 0) ∧ Own wr B2 5 (some ⟨gy, 0, none⟩) my cy (U8 (Cv.code lb)) ∧ Blk wr g2 22 Z ∧ Below w.heap.size w wr) (fun x _ => my - (intOf x).toNat)
        case atStart => exact ⟨0, by omega, rfl, Cv.code la, ownx3, ⟨HCX.out, fun j _ => by rw [if_neg (Nat.not_lt_zero j)]⟩, owny, q2y, bwy⟩
        case round =>
          clear ownx3 owny q2y bwy
          obtain ⟨i, hi, rfl, qs, ox, HQ, oy, q2, bw⟩ := hrel
          by_cases hlt : i < my
          · obtain ⟨x1, e1, _, hx1, kx, fx, hst⟩ := ox.slot i hlt
            injection e1 with e1
            injection e1 with e1
            subst e1
            obtain ⟨y1, e2, _, hy1, ky, _, _⟩ := oy.slot i hlt
            injection e2 with e2
            injection e2 with e2
            subst e2
            rw [U8_get _ _ (by rw [HQ.out.1]; exact hlt), HQ.out.2 i hlt, if_neg (Nat.lt_irrefl i)] at kx
            rw [U8_get _ _ (by rw [HCY.out]; exact hlt)] at ky
            have hp := Bm.bit_le (Cv.code la) HLX.out i
            have hr := Bm.bit_le (Cv.code lb) HLY.out i
            have HQ2 : Hid ((qs.set i ((Cv.code la).getD i 0 ^^^ (Cv.code lb).getD i 0)).length = my ∧ ∀ j, j < my → (qs.set i ((Cv.code la).getD i 0 ^^^ (Cv.code lb).getD i 0)).getD j 0 = if j < i + 1 then (Cv.code la).getD j 0 ^^^ (Cv.code lb).getD j 0 else (Cv.code la).getD j 0) := ⟨by rw [List.length_set]; exact HQ.out.1, fun j hj => by
              by_cases hji : i = j
              · subst hji
                rw [if_pos (Nat.lt_succ_self i)]
                simp [List.getD, HQ.out.1, hlt]
              · rw [show (qs.set i ((Cv.code la).getD i 0 ^^^ (Cv.code lb).getD i 0)).getD j 0 = qs.getD j 0 by simp [List.getD, hji], HQ.out.2 j hj]
                by_cases h2 : j < i
                · rw [if_pos h2, if_pos (by omega)]
                · rw [if_neg h2, if_neg (by omega)]⟩
            generalize (Cv.code la).getD i 0 = p at *
            generalize (Cv.code lb).getD i 0 = r at *
            have hX : bits BinOp.xor IntKind.u8 (p : Int) (r : Int) = ((p ^^^ r : Nat) : Int) := u8_xor_nat p r (by omega) (by omega)
            obtain ⟨s, hs⟩ : ∃ s, s = p ^^^ r := ⟨_, rfl⟩
            rw [← hs] at hX HQ2
            have HS := Lib.hid (hst (.int .u8 (s : Int)))
            have hOy := oy.chg (grown_setCell wr gx i (.int .u8 (s : Int))) (fun j hj e => by injection e with e; injection hj with hj; have e3 : gy = j := hj; omega)
            have hq := q2.grown (grown_setCell wr gx i (.int .u8 (s : Int))) (fun e => by injection e with e; omega)
            have hbw := bw.grown (grown_setCell wr gx i (.int .u8 (s : Int))) bw.size (fun j hj => by injection hj with hj; omega)
            have HO := Lib.hid hOy
            have HQB := Lib.hid hq
            have HBW := Lib.hid hbw
            clear hst hs hOy hq hbw ox oy q2 bw
            go_wp2_with fail
            go_region
            go_wp2
            go_roundw
            case rel => exact ⟨i + 1, by omega, by go_num, qs.set i s, by rw [← U8_set]; exact ⟨HS.out.row.drew⟩, HQ2.out, ⟨HO.out.row.drew⟩, HQB.out.drew, HBW.out.drew⟩
            case measure => simp [intOf] <;> omega
          · have HI : Hid (i = my) := by unfold Hid; omega
            have hzx : qs = Crc.zx (Cv.code la) (Cv.code lb) := by
              refine extN (by rw [HQ.out.1, Cv.zx_length _ _ (by rw [HCX.out, HCY.out]), HCX.out]) fun j hj => ?_
              rw [HQ.out.1] at hj
              rw [HQ.out.2 j hj, if_pos (by rw [HI.out]; exact hj)]
              exact (zx_getD _ _ j (by rw [HCX.out]; exact hj) (by rw [HCY.out]; exact hj)).symm
            have CWt := Lib.hid (refWeight (some ⟨gx, 0, none⟩) my cx qs ws wr ox.rd (by rw [hzx]; exact zx_bits HLX.out HLY.out) (by omega) HW4.out HW7.out)
            have HGE : Hid (nl ≤ Cv.wcT (fun v => ws.getD v 0) qs my) := by unfold Hid; rw [hzx]; exact HHold.out
            rw [HZ.out] at CWt
            generalize Cv.wcT (fun v => ws.getD v 0) qs my = wt at *
            have hge := HGE.out
            have dge : decide ((nl : Int) ≤ (wt : Int)) = true := by simp; omega
            have dg2 : decide (nl ≤ wt) = true := by simp; omega
            clear hzx ox oy HQ
            go_wp2_with (first | (refine at_load rfl 22 _ rfl g2 rfl 22 Z _ q2 Tryd.underlying22 rfl iZ.out ?_) | (go_at_call 13; refine CWt.out.mono ?_; rintro e wz ⟨rfl, bez⟩))
            go_ret
            exact ⟨rfl, Below.then_ bw bez⟩
end Go.Proofs.YtknfpdlomgllhaaDoor
