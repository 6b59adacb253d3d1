/-
  Layer 33: Apart, either way; the first test.
-/
import Derived.Test.YtoiibjblaafgpaaShb
namespace Go.Proofs.Ytoiibjblaafgpaa
open Go.RowKit
set_option maxRecDepth 100000
set_option linter.unusedVariables false
set_option linter.unusedSimpArgs false
set_option maxRecDepth 100000

theorem Own.whole_ {w : World} {base : Nat} {e : TypeId} {g n : Nat} {xs : List Value} (h : Own w base e (some ⟨g, 0, none⟩) n n xs) : Blk w g e xs.toArray := by
  rcases h.row.2 with ⟨hv, _⟩ | ⟨g', cap, cur, hv, hb, hg, h1, h2, h3, h4⟩
  · cases hv
  · injection hv with e1 e2 e3
    injection e1 with e1
    injection e1 with e1
    subst e1 e3
    have : cur = xs.toArray := by
      rw [← h4, List.take_of_length_le (by rw [Array.length_toList]; omega)]
    show w.heap[g]? = _
    rw [hg, this]
/-- Numbers as a block of ints. -/
def Q64 (l : List Nat) : Array Value := (I64 (In l)).toArray
theorem Q64_size (l : List Nat) : (Q64 l).size = l.length := by unfold Q64; rw [List.size_toArray, I64_length, In_length]
theorem Q64_get (l : List Nat) (i : Nat) (h : i < l.length) : (Q64 l)[i]? = some (.int .i64 ((l.getD i 0 : Nat) : Int)) := by
  unfold Q64; rw [List.getElem?_toArray, I64_get _ i (by rw [In_length]; exact h), In_get]
theorem Q64_set (l : List Nat) (i x : Nat) : (Q64 l).setIfInBounds i (.int .i64 (x : Int)) = Q64 (l.set i x) := by
  unfold Q64; rw [← In_set]; unfold I64; simp [List.map_set]
theorem mk64 (n : Nat) : (madeCells (Value.int .i64 0).cells (n * 1)).toList = I64 (In (List.replicate n 0)) := by
  show (madeCells #[Value.int .i64 0] (n * 1)).toList = _
  rw [toList_madeCells_one, Nat.mul_one]
  simp [I64, In]
theorem cell64one : (Try.prog.info? 3).map (·.size) = some 1 := by kernel_rfl
theorem Rd.cellN {w : World} {B : Nat} {A : Option Addr} {n : Nat} {l : List Nat} (h : Rd w B A n (I64 (In l))) (k : Nat) (hk : k < n) :
    ∃ b off, A = some ⟨b, off, none⟩ ∧ b < B ∧ w.cell? ⟨b, off + k, none⟩ = some (.int .i64 ((l.getD k 0 : Nat) : Int)) := by
  obtain ⟨b, off, e, hlt, hc⟩ := h.cell64 k hk
  exact ⟨b, off, e, hlt, by rw [hc, In_get]⟩
theorem tk_start (n : Nat) (O l : List Nat) : Sh.Tk n O l (List.replicate n 0) 0 := ⟨by simp, fun j hj => absurd hj (by omega)⟩
theorem range_getD (n k : Nat) (h : k < n) : (List.range n).getD k 0 = k := by rw [Bm.getD_lt _ _ _ (by simpa using h), List.getElem_range]
/-- The answer of Apart. -/
def apr33 (n rows : Nat) (A : List Nat) : Nat := if n < 2 then 0 else Sh.apm A n (n - 1)
set_option maxHeartbeats 1000000 in
/-- shuffle.Apart. -/
theorem shApart (n rows : Nat) (w : World) (hn : n ≤ 65536) (hr : 1 ≤ rows ∧ rows ≤ 64) :
    Calls Try.prog 40 #[.int .i64 (n : Int), .int .i64 (rows : Int)] w fun e w' => (∃ A, (2 ≤ n → Sh.Wh n (Sh.ordl n (wd n rows)) A) ∧ e = .returned (.tuple #[.int .i64 ((apr33 n rows A : Nat) : Int), .int .i64 0])) ∧ Below w.heap.size w w' := by
  obtain ⟨i0, hi0, hz0, hz1, hz2⟩ := info_parts info3
  have CO := Lib.hid (shOrder n rows w hn hr)
  have HO := Lib.hid (ord_all n rows hr.1)
  generalize Sh.ordl n (wd n rows) = O at *
  by_cases h2 : n < 2
  · have d1 : decide ((n : Int) < 2) = true := by simp; omega
    have HA : Hid (∀ A, apr33 n rows A = 0) := fun A => if_pos h2
    clear h2
    go_enter Try.func40, Try.ntmps40
    go_wp2_with (go_at_call 39; refine CO.out.mono ?_; rintro e w1 ⟨A6, c6, rfl, own6, b6⟩)
    go_ret2
    refine ⟨⟨[], fun h => ?_, ?_⟩, b6⟩
    · have h3 : decide ((n : Int) < 2) = false := by simp; omega
      rw [d1] at h3; cases h3
    · rw [HA.out]; rfl
  · have d1 : decide ((n : Int) < 2) = false := by simp; omega
    have h2' : 2 ≤ n := by omega
    clear h2
    go_enter Try.func40, Try.ntmps40
    go_wp2_with (first | (go_at_call 39; refine CO.out.mono ?_; rintro e w1 ⟨A6, c6, rfl, own6, b6⟩) | (at_make; refine wpList_make_full _ rfl _ _ 42 rfl w1.heap.size 3 i0 (.int .i64 0) 1 Try.underlying42 hi0 hz0 hz1 .i64 .i64 _ _ n rfl rfl (by first | rfl | omega) (by first | rfl | omega) (by rw [hz2]; omega) (by unfold maxLen; omega) (Nat.le_refl _) ?_; intro w3 hown3 hgrow3))
    have bel3 : Below w1.heap.size w1 w3 := (Below.refl _ _).grown hgrow3 (Nat.le_refl _) (fun k h => by cases h)
    have q3 : Blk w3 w1.heap.size 3 (Q64 (List.replicate n 0)) := by
      have h : Own w3 w1.heap.size 3 (some ⟨w1.heap.size, 0, none⟩) n n (I64 (In (List.replicate n 0))) := by rw [mk64] at hown3; exact ⟨hown3⟩
      exact h.whole_
    have r6 := own6.rd
    obtain ⟨g, hg⟩ : ∃ g, g = w1.heap.size := ⟨_, rfl⟩
    have HG := Lib.hid b6.size
    rw [← hg] at q3 r6 bel3 HG
    rw [← hg]
    have b63 : Below w.heap.size w w3 := b6.trans (bel3.mono HG.out)
    clear hown3 hgrow3 own6 hi0 hz0 hz1 hz2 CO hg b6
    go_loopw [30] (fun x wr => ∃ k : Nat, k ≤ n ∧ x = .int .i64 (k : Int) ∧ ∃ T : List Nat, Hid (Sh.Tk n O (List.range n) T k) ∧ Blk wr g 3 (Q64 T) ∧ Below g w1 wr ∧ Below w.heap.size w wr) (fun x _ => n - (intOf x).toNat)
    case atStart => exact ⟨0, by omega, rfl, _, tk_start _ _ _, q3, bel3, b63⟩
    case round =>
      clear q3 bel3 b63
      obtain ⟨k, hk, rfl, T, HT, q, bel, bw⟩ := hrel
      by_cases hlt : k < n
      · have d2 : decide ((k : Int) < (n : Int)) = true := by simp; omega
        obtain ⟨b, off, hA, hlb, kc⟩ := (r6.below bel).cellN k hlt
        subst hA
        obtain ⟨p, hp⟩ : ∃ p, p = O.getD k 0 := ⟨_, rfl⟩
        have hpn : p < n := by rw [hp]; exact HO.out.lt k hlt
        have HS := Lib.hid (HT.out.step HO.out hlt)
        rw [range_getD n k hlt, ← hp] at HS
        rw [← hp] at kc
        clear hp
        have sz : p < (Q64 T).size := by rw [Q64_size, HT.out.len]; exact hpn
        have f1 : (k : Int) < (n : Int) := by omega
        have f2 : (p : Int) < (n : Int) := by omega
        go_wp2_with (refine at_cell rfl 3 _ _ rfl g p (.int .i64 (k : Int)) rfl rfl 3 (Q64 T) q sz cell64one rfl ?_; intro w6 h6)
        go_roundw
        case rel => exact ⟨k + 1, by omega, by go_num, _, HS, by rw [← Q64_set]; exact h6.row, bel.trans (h6.below (Nat.le_refl _)), bw.trans (h6.below HG.out)⟩
        case measure => simp [intOf] <;> omega
      · have d2 : decide ((k : Int) < (n : Int)) = false := by simp; omega
        have HW : Hid (Sh.Wh n O T) := by
          have h1 := HT.out
          rw [show k = n by omega] at h1
          exact ⟨h1⟩
        have HTl := Lib.hid HT.out.len
        clear HT
        go_wp2
        obtain ⟨wo, rfl⟩ : ∃ wo : World, wo = wr := ⟨_, rfl⟩
        go_loopw [11, 12] (fun s x wr => ∃ j m : Nat, j + 1 ≤ n ∧ x = .int .i64 ((j + 1 : Nat) : Int) ∧ s = .int .i64 (m : Int) ∧ Hid (m = Sh.apm T n j) ∧ m ≤ n ∧ Blk wr g 3 (Q64 T) ∧ Below w.heap.size w wr) (fun _ x _ => n - (intOf x).toNat)
        case atStart => exact ⟨0, n, by omega, rfl, rfl, rfl, Nat.le_refl _, q, bw⟩
        case round =>
          clear q bel bw
          obtain ⟨j, m, hj, rfl, rfl, HM, hmn, q, bw⟩ := hrel
          obtain ⟨j1, hj1⟩ : ∃ j1, j1 = j + 1 := ⟨_, rfl⟩
          rw [← hj1]
          by_cases hlt2 : j1 < n
          · have d3 : decide ((j1 : Int) < (n : Int)) = true := by simp; omega
            have k1 : wr.cell? ⟨g, j, none⟩ = some (.int .i64 ((T.getD j 0 : Nat) : Int)) := (q.cell j).trans (Q64_get T j (by rw [HTl.out]; omega))
            have k2 : wr.cell? ⟨g, j1, none⟩ = some (.int .i64 ((T.getD j1 0 : Nat) : Int)) := (q.cell j1).trans (Q64_get T j1 (by rw [HTl.out]; omega))
            have ha := HW.out.lt HO.out j (by omega)
            have hb := HW.out.lt HO.out j1 (by omega)
            have HM2 : Hid (Sh.apm T n j1 = min m (Sh.ds (T.getD j 0) (T.getD j1 0))) := by
              unfold Hid
              rw [HM.out, hj1]; rfl
            have ej : (j1 : Int) - 1 = (j : Int) := by omega
            have wj : IntKind.i64.wrap ((j1 : Int) - 1) = (j : Int) := by rw [ej]; exact IntWalk.i64_in _ (by omega)
            have f1 : (j : Int) < (n : Int) := by omega
            have f2 : (j1 : Int) < (n : Int) := by omega
            generalize T.getD j 0 = a at *
            generalize T.getD j1 0 = b at *
            have CA := Lib.hid (fun J => Calls.quiet_of_same ((shapart a b (wr.drewN J) (by omega) (by omega)).mono fun e w' h => ⟨h.1, h.2.symm⟩))
            generalize Sh.ds a b = d at *
            have HJ := Lib.hid hj1
            clear hj1
            go_upto_region 14 with fail
            obtain ⟨x, hx⟩ : ∃ x, x = min m d := ⟨_, rfl⟩
            have mi : Hid ((if d < m then (d : Int) else (m : Int)) = (x : Int)) := by
              unfold Hid
              split <;> omega
            have hx2 : x ≤ n := by omega
            rw [← hx] at HM2
            clear hx
            go_quiet ((go_at_call 61; exact CA.out _))
            go_wp2
            go_roundw
            case rel => exact ⟨j1, x, by omega, by go_num, by rw [mi.out], HM2.out.symm, hx2, q.below (below_drawn (B := wr.heap.size) _) q.lt, bw.trans (below_drawn _)⟩
            case measure => simp [intOf] <;> omega
          · have d3 : decide ((j1 : Int) < (n : Int)) = false := by simp; omega
            have HE : Hid (m = apr33 n rows T) := by
              unfold Hid apr33
              rw [HM.out, if_neg (by omega), show n - 1 = j by omega]
            clear HM
            go_wp2
            go_ret2
            exact ⟨⟨T, fun _ => HW.out, by rw [← HE.out]; rfl⟩, bw⟩
set_option maxHeartbeats 1000000 in
/-- The reference's Apart. -/
theorem refApart33 (n rows : Nat) (w : World) (hn : n ≤ 65536) (hr : 1 ≤ rows ∧ rows ≤ 64) :
    Calls Try.prog 44 #[.int .i64 (n : Int), .int .i64 (rows : Int)] w fun e w' => (∃ A, (2 ≤ n → Sh.Wh n (Sh.ordl n (wd n rows)) A) ∧ e = .returned (.int .i64 ((apr33 n rows A : Nat) : Int))) ∧ Below w.heap.size w w' := by
  obtain ⟨i0, hi0, hz0, hz1, hz2⟩ := info_parts info3
  have CO := Lib.hid (fun W => refOrder33 n rows W hn hr)
  have HO := Lib.hid (ord_all n rows hr.1)
  generalize Sh.ordl n (wd n rows) = O at *
  go_enter Try.func44, Try.ntmps44
  go_wp2_with (first | (go_at_call 43; refine (CO.out _).mono ?_; rintro e w3 ⟨A6, c6, rfl, own6, b6⟩) | (at_make; refine wpList_make_full _ rfl _ _ 42 rfl w.heap.size 3 i0 (.int .i64 0) 1 Try.underlying42 hi0 hz0 hz1 .i64 .i64 _ _ n rfl rfl (by first | rfl | omega) (by first | rfl | omega) (by rw [hz2]; omega) (by unfold maxLen; omega) (Nat.le_refl _) ?_; intro w1 hown1 hgrow1))
  have bel1 : Below w.heap.size w w1 := (Below.refl _ _).grown hgrow1 (Nat.le_refl _) (fun k h => by cases h)
  have q1 : Blk w1 w.heap.size 3 (Q64 (List.replicate n 0)) := by
    have h : Own w1 w.heap.size 3 (some ⟨w.heap.size, 0, none⟩) n n (I64 (In (List.replicate n 0))) := by rw [mk64] at hown1; exact ⟨hown1⟩
    exact h.whole_
  have q3 : Blk w3 w.heap.size 3 (Q64 (List.replicate n 0)) := q1.after b6
  have hgl := q1.lt
  have b63 : Below w.heap.size w w3 := bel1.trans (b6.mono bel1.size)
  obtain ⟨B, hB⟩ : ∃ B, B = w1.heap.size := ⟨_, rfl⟩
  obtain ⟨g, hg⟩ : ∃ g, g = w.heap.size := ⟨_, rfl⟩
  rw [← hB] at own6 hgl
  have HG : Hid (w.heap.size ≤ g) := by rw [hg]; exact Nat.le_refl _
  rw [← hg] at q3 hgl
  rw [← hg]
  clear hown1 hgrow1 hi0 hz0 hz1 hz2 CO b6 q1 bel1 hB hg
  go_loopw [7] (fun x wr => ∃ k : Nat, k ≤ n ∧ x = .int .i64 (k : Int) ∧ ∃ T : List Nat, Hid (Sh.Tk n O (List.range n) T k) ∧ Blk wr g 3 (Q64 T) ∧ Own wr B 3 A6 n c6 (I64 (In O)) ∧ Below w.heap.size w wr) (fun x _ => n - (intOf x).toNat)
  case atStart => exact ⟨0, by omega, rfl, _, tk_start _ _ _, q3, own6, b63⟩
  case round =>
    clear q3 own6 b63
    obtain ⟨k, hk, rfl, T, HT, q, own6, bw⟩ := hrel
    by_cases hlt : k < n
    · have d2 : decide ((k : Int) < (n : Int)) = true := by simp; omega
      obtain ⟨b, off, hA, hlb, kc⟩ := own6.rd.cellN k hlt
      subst hA
      obtain ⟨p, hp⟩ : ∃ p, p = O.getD k 0 := ⟨_, rfl⟩
      have hpn : p < n := by rw [hp]; exact HO.out.lt k hlt
      have HS := Lib.hid (HT.out.step HO.out hlt)
      rw [range_getD n k hlt, ← hp] at HS
      rw [← hp] at kc
      clear hp
      have sz : p < (Q64 T).size := by rw [Q64_size, HT.out.len]; exact hpn
      have f1 : (k : Int) < (n : Int) := by omega
      have f2 : (p : Int) < (n : Int) := by omega
      go_wp2_with (refine at_cell rfl 3 _ _ rfl g p (.int .i64 (k : Int)) rfl rfl 3 (Q64 T) q sz cell64one rfl ?_; intro w6 h6)
      go_roundw
      case rel => exact ⟨k + 1, by omega, by go_num, _, HS, by rw [← Q64_set]; exact h6.row, own6.upd h6 hgl, bw.trans (h6.below HG.out)⟩
      case measure => simp [intOf] <;> omega
    · have d2 : decide ((k : Int) < (n : Int)) = false := by simp; omega
      have HW : Hid (Sh.Wh n O T) := by
        have h1 := HT.out
        rw [show k = n by omega] at h1
        exact ⟨h1⟩
      have HTl := Lib.hid HT.out.len
      clear HT own6
      go_wp2
      obtain ⟨wo, rfl⟩ : ∃ wo : World, wo = wr := ⟨_, rfl⟩
      go_loopw [8, 9] (fun s x wr => ∃ j m : Nat, (j = 0 ∨ j + 1 ≤ n) ∧ x = .int .i64 (j : Int) ∧ s = .int .i64 (m : Int) ∧ Hid (m = if j = 0 then 0 else Sh.apm T n j) ∧ m ≤ n ∧ Blk wr g 3 (Q64 T) ∧ Below w.heap.size w wr) (fun _ x _ => n - (intOf x).toNat)
      case atStart => exact ⟨0, 0, .inl rfl, rfl, rfl, rfl, Nat.zero_le _, q, bw⟩
      case round =>
        clear q bw
        obtain ⟨j, m, hj, rfl, rfl, HM, hmn, q, bw⟩ := hrel
        obtain ⟨j1, hj1⟩ : ∃ j1, j1 = j + 1 := ⟨_, rfl⟩
        have ej : (j : Int) + 1 = (j1 : Int) := by omega
        by_cases hlt2 : j1 < n
        · have d3 : decide ((j1 : Int) < (n : Int)) = true := by simp; omega
          have k1 : wr.cell? ⟨g, j, none⟩ = some (.int .i64 ((T.getD j 0 : Nat) : Int)) := (q.cell j).trans (Q64_get T j (by rw [HTl.out]; omega))
          have k2 : wr.cell? ⟨g, j1, none⟩ = some (.int .i64 ((T.getD j1 0 : Nat) : Int)) := (q.cell j1).trans (Q64_get T j1 (by rw [HTl.out]; omega))
          have ha := HW.out.lt HO.out j (by omega)
          have hb := HW.out.lt HO.out j1 (by omega)
          have hds := HW.out.ds HO.out j (by omega)
          have hap := Sh.apm_pos HW.out HO.out j (by omega)
          rw [← hj1] at hds
          have HM2 : Hid (Sh.apm T n j1 = min (Sh.apm T n j) (Sh.ds (T.getD j 0) (T.getD j1 0))) := by unfold Hid; rw [hj1]; rfl
          have HD : Hid (((Sh.ds (T.getD j 0) (T.getD j1 0) : Nat) : Int) = max (((T.getD j1 0 : Nat) : Int) - ((T.getD j 0 : Nat) : Int)) (((T.getD j 0 : Nat) : Int) - ((T.getD j1 0 : Nat) : Int))) := by unfold Hid Sh.ds; omega
          have f1 : (j : Int) < (n : Int) := by omega
          have f2 : (j1 : Int) < (n : Int) := by omega
          have H0 : Hid (j = 0 → Sh.apm T n j = n) := fun h => by rw [h]; rfl
          generalize T.getD j 0 = a at *
          generalize T.getD j1 0 = b at *
          generalize Sh.ds a b = d at *
          -- the least one behind this round
          obtain ⟨x, hx⟩ : ∃ x, x = (if m = 0 then d else min m d) := ⟨_, rfl⟩
          have HX : Hid (x = if j1 = 0 then 0 else Sh.apm T n j1) := by
            unfold Hid
            rw [if_neg (by omega), HM2.out, hx, HM.out]
            by_cases h0 : j = 0
            · rw [if_pos h0, if_pos rfl, H0.out h0]; omega
            · rw [if_neg h0, if_neg (by omega)]
          have hx2 : x ≤ n := by rw [hx]; split <;> omega
          have HXD : Hid (x = if m = 0 then d else min m d) := hx
          clear hx hap HM HM2 H0
          obtain ⟨D, hD⟩ : ∃ D : Int, D = (b : Int) - (a : Int) := ⟨_, rfl⟩
          have eD : (b : Int) - (a : Int) = D := hD.symm
          have hDb : -65536 ≤ D ∧ D ≤ 65536 := by omega
          have HDD : Hid ((d : Int) = max D (-D)) := by unfold Hid; rw [HD.out, hD]; omega
          have wD : IntKind.i64.wrap ((b : Int) - (a : Int)) = D := by rw [eD]; exact IntWalk.i64_in _ (by omega)
          have HJ := Lib.hid hj1
          have hj1n : j1 ≤ n := by omega
          have hd1 := hds.1
          clear hD HD hj1 hds
          go_upto_region 11 with fail
          go_quiet (fail)
          by_cases hneg : D < 0
          · have t1 : decide (D < 0) = true := by simp; omega
            have en : -D = (d : Int) := by have := HDD.out; omega
            have en2 : 0 - D = (d : Int) := by have := HDD.out; omega
            by_cases h0 : m = 0
            · have hxd : Hid (x = d) := by unfold Hid; rw [HXD.out, if_pos h0]
              have t2 : ((m : Int) == 0) = true := by simp; omega
              clear h0
              go_wp2
              go_roundw
              case rel => exact ⟨j1, x, .inr (by omega), by go_num, by rw [hxd.out], HX, hx2, q.below (below_drawn (B := wr.heap.size) _) q.lt, bw.trans (below_drawn _)⟩
              case measure => simp [intOf] <;> omega
            · have t2 : ((m : Int) == 0) = false := by simp; omega
              by_cases hlt3 : d < m
              · have hxd : Hid (x = d) := by unfold Hid; rw [HXD.out, if_neg h0]; omega
                have t3 : decide ((d : Int) < (m : Int)) = true := by simp; omega
                clear h0
                go_wp2
                go_roundw
                case rel => exact ⟨j1, x, .inr (by omega), by go_num, by rw [hxd.out], HX, hx2, q.below (below_drawn (B := wr.heap.size) _) q.lt, bw.trans (below_drawn _)⟩
                case measure => simp [intOf] <;> omega
              · have hxd : Hid (x = m) := by unfold Hid; rw [HXD.out, if_neg h0]; omega
                have t3 : decide ((d : Int) < (m : Int)) = false := by simp; omega
                clear h0
                go_wp2
                go_roundw
                case rel => exact ⟨j1, x, .inr (by omega), by go_num, by rw [hxd.out], HX, hx2, q.below (below_drawn (B := wr.heap.size) _) q.lt, bw.trans (below_drawn _)⟩
                case measure => simp [intOf] <;> omega
          · have t1 : decide (D < 0) = false := by simp; omega
            obtain rfl : D = (d : Int) := by have := HDD.out; omega
            by_cases h0 : m = 0
            · have hxd : Hid (x = d) := by unfold Hid; rw [HXD.out, if_pos h0]
              have t2 : ((m : Int) == 0) = true := by simp; omega
              clear h0
              go_wp2
              go_roundw
              case rel => exact ⟨j1, x, .inr (by omega), by go_num, by rw [hxd.out], HX, hx2, q.below (below_drawn (B := wr.heap.size) _) q.lt, bw.trans (below_drawn _)⟩
              case measure => simp [intOf] <;> omega
            · have t2 : ((m : Int) == 0) = false := by simp; omega
              by_cases hlt3 : d < m
              · have hxd : Hid (x = d) := by unfold Hid; rw [HXD.out, if_neg h0]; omega
                have t3 : decide ((d : Int) < (m : Int)) = true := by simp; omega
                clear h0
                go_wp2
                go_roundw
                case rel => exact ⟨j1, x, .inr (by omega), by go_num, by rw [hxd.out], HX, hx2, q.below (below_drawn (B := wr.heap.size) _) q.lt, bw.trans (below_drawn _)⟩
                case measure => simp [intOf] <;> omega
              · have hxd : Hid (x = m) := by unfold Hid; rw [HXD.out, if_neg h0]; omega
                have t3 : decide ((d : Int) < (m : Int)) = false := by simp; omega
                clear h0
                go_wp2
                go_roundw
                case rel => exact ⟨j1, x, .inr (by omega), by go_num, by rw [hxd.out], HX, hx2, q.below (below_drawn (B := wr.heap.size) _) q.lt, bw.trans (below_drawn _)⟩
                case measure => simp [intOf] <;> omega
        · have d3 : decide ((j1 : Int) < (n : Int)) = false := by simp; omega
          have HE : Hid (m = apr33 n rows T) := by
            unfold Hid apr33
            rw [HM.out]
            by_cases h2 : n < 2
            · rw [if_pos (show j = 0 by omega), if_pos h2]
            · rw [if_neg (show ¬ j = 0 by omega), if_neg h2, show n - 1 = j by omega]
          have wj : IntKind.i64.wrap ((j : Int) + 1) = (j1 : Int) := by rw [ej]; exact IntWalk.i64_in _ (by omega)
          have hj1b : j1 ≤ 65537 := by omega
          clear HM hj hj1
          go_wp2
          go_ret
          exact ⟨⟨T, fun _ => HW.out, by rw [← HE.out]; rfl⟩, bw⟩
set_option maxHeartbeats 1000000 in
theorem shuffles (w : World) : Calls Try.prog 41 #[] w fun e w' => e = .returned (.bool true) ∧ Below w.heap.size w w' := by
  have CO : Calls Try.prog 39 #[.int .i64 5, .int .i64 2] w fun e w' => ∃ A c, e = .returned (.tuple #[.slice A 5 c, .int .i64 0]) ∧ Own w' w.heap.size 3 A 5 c (I64 (In [0, 3, 1, 4, 2])) ∧ Below w.heap.size w w' := shOrder 5 2 w (by omega) (by omega)
  go_enter Try.func41, Try.ntmps41
  go_upto_region 2 with (go_at_call 39; refine CO.mono ?_; rintro e w1 ⟨A6, c6, rfl, own6, b6⟩)
  obtain ⟨b, off, hA, hlb, k0⟩ := own6.rd.cellN 0 (by omega)
  subst hA
  obtain ⟨b', off', hA, _, k1⟩ := own6.rd.cellN 1 (by omega)
  cases hA
  obtain ⟨b', off', hA, _, k2⟩ := own6.rd.cellN 2 (by omega)
  cases hA
  obtain ⟨b', off', hA, _, k3⟩ := own6.rd.cellN 3 (by omega)
  cases hA
  obtain ⟨b', off', hA, _, k4⟩ := own6.rd.cellN 4 (by omega)
  cases hA
  simp only [List.getD, List.getElem?_cons_zero, List.getElem?_cons_succ, Option.getD_some, Nat.add_zero] at k0 k1 k2 k3 k4
  clear own6
  go_wp2
  go_ret
  exact ⟨rfl, b6⟩
end Go.Proofs.Ytoiibjblaafgpaa
