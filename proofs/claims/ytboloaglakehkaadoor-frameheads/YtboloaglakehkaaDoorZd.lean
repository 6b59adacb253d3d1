/-
  Layer 15: rows of numbers; Of.
-/
import Derived.Test.YtboloaglakehkaaDoorZc
import Derived.Test.YtboloaglakehkaaDoorMh
namespace Go.Proofs.YtboloaglakehkaaDoor
open Go.RowKit
set_option maxRecDepth 100000
set_option linter.unusedVariables false
set_option linter.unusedSimpArgs false

/-- Numbers as cells. -/
def N16 (l : List Nat) : List Value := l.map fun (b : Nat) => Value.int .u16 (b : Int)
theorem N16_length (l : List Nat) : (N16 l).length = l.length := by simp [N16]
theorem N16_append (a b : List Nat) : N16 (a ++ b) = N16 a ++ N16 b := by simp [N16]
theorem N16_one (l : List Nat) : ∀ u ∈ N16 l, u.oneCell' = true := by
  intro u hu
  obtain ⟨_, _, rfl⟩ := List.mem_map.1 hu
  rfl
theorem N16_get (l : List Nat) (i : Nat) (h : i < l.length) : (N16 l)[i]? = some (.int .u16 ((l.getD i 0 : Nat) : Int)) := by
  simp [N16, h]
theorem Rd.len16 {w : World} {B : Nat} {A : Option Addr} {n : Nat} {l : List Nat} (h : Rd w B A n (N16 l)) : n = l.length := by
  have := h.len; rw [N16_length] at this; exact this.symm
theorem Rd.cell16 {w : World} {B : Nat} {A : Option Addr} {n : Nat} {l : List Nat} (h : Rd w B A n (N16 l)) (k : Nat) (hk : k < n) :
    ∃ b off, A = some ⟨b, off, none⟩ ∧ b < B ∧ w.cell? ⟨b, off + k, none⟩ = some (.int .u16 ((l.getD k 0 : Nat) : Int)) := by
  obtain ⟨b, off, e, hlt, hc⟩ := h.at_ (by omega)
  exact ⟨b, off, e, hlt, hc k _ (N16_get l k (by have := h.len16; omega))⟩
theorem infoNum : (Tryd.prog.info? 28).map (fun i => (i.zero, i.size, i.bytes)) = some (some (.int .u16 0), 1, 2) := by kernel_rfl
theorem infoU32 : (Tryd.prog.info? 23).map (·.size) = some 1 := by kernel_rfl
theorem infoMap (b : Int) (m : Nat) : (Tryd.prog.info? 30).map (·.size) = some (mv b m).size := (show (Tryd.prog.info? 30).map (·.size) = some 2 by kernel_rfl)
theorem zeroMap : (Tryd.prog.info? 30).bind (fun i => i.zero.map (fun z => z.cells)) = some (mv 0 0) := by kernel_rfl
theorem mv_all (b : Int) (m : Nat) : (mv b m).all (·.oneCell') = true := by simp [mv, Value.oneCell']
theorem mv_set (b : Int) (m m2 : Nat) : (mv b m).setIfInBounds 1 (.int .u32 (m2 : Int)) = mv b m2 := rfl
section
variable {ops : Array Oper} {rest : List Oper} {o : Oper} {a : Act} {Q : Exit → Act → World → Prop}
/-- 'l = append(l, x)', l a []Num of the call's own. -/
theorem app16 (w : World) (hgd : o.guard = none) (s x : Operand) (ho : o.op = .call { callee := .builtin .append, args := #[s, x], argTypes := #[54, 54] })
    (base : Nat) (A : Option Addr) (n c : Nat) (bs : List Nat) (b : Nat) (z : Int) (hz : z = (b : Int)) (hs : a.eval s = .slice A n c) (hown : Own w base 28 A n c (N16 bs))
    (hx : a.eval x = .slice (some ⟨w.heap.size, 0, none⟩) 1 1) (hn : n ≤ 1000000) (hbase : base ≤ w.heap.size)
    (h : ∀ A' c' w', Own w' base 28 A' (n + 1) c' (N16 (bs ++ [b])) → w.grownBy w' (Value.slice A n c).ownBlock → wpList Tryd.prog ops Q rest (a.put o.dst (.slice A' (n + 1) c')) w') :
    wpList Tryd.prog ops Q (o :: rest) a (w.alloc (.cells #[.int .u16 z] 28)) := by
  subst hz
  obtain ⟨i0, hi0, hz0, hz1, hz2⟩ := info_parts infoNum
  refine wpList_app _ hgd s x 54 ho base 28 i0 _ 2 Tryd.underlying54 hi0 hz0 hz1 hz2 rfl A n c (N16 bs) hs (hown.below (B := w.heap.size) ((Below.refl _ _).alloc (Nat.le_refl _) _) (Nat.le_refl _)) _ _ 1 1 [.int .u16 (b : Int)] hx (rd_new w 28 _) (by simp) (by simp [Value.oneCell']) (by omega) (by unfold maxLen; omega) (by simp; omega) ?_
  intro A' c' w' h1 h2
  rw [show [Value.int .u16 (b : Int)] = N16 [b] from rfl, ← N16_append] at h1
  refine h A' c' w' h1 ⟨h2.os, h2.tape, h2.output, Nat.le_trans (by simp) h2.size, fun k hk hne => (h2.block k (by simp; omega) hne).trans (Below.heap_alloc _ _ _ hk)⟩
end

/-- How far a number is ahead. -/
def dsn (base : Int) (a : Nat) : Nat := (((a : Int) - base) % 65536).toNat
theorem dsn_eq (base : Int) (a : Nat) : ((dsn base a : Nat) : Int) = ((a : Int) - base) % 65536 := by unfold dsn; omega
theorem dsn_lt (base : Int) (a : Nat) : dsn base a < 65536 := by unfold dsn; omega
def orS (base : Int) (m a : Nat) : Nat := if bf a base = true ∨ dsn base a = 0 then m else m ||| 2 ^ (dsn base a - 1)
/-- The bits of those that have come. -/
def orl (base : Int) (l : List Nat) : Nat := l.foldl (orS base) 0
def farA (base : Int) (l : List Nat) : Bool := l.any fun a => !bf a base && decide (32 < dsn base a)
def ownA (base : Int) (l : List Nat) : Bool := l.any fun a => decide (dsn base a = 0)
theorem bf_zero {base : Int} {a : Nat} (h : dsn base a = 0) (hb : 0 ≤ base ∧ base < 65536) (ha : a < 65536) : bf a base = false := by
  have := dsn_eq base a
  exact bf_false (by omega)
theorem orl_take (base : Int) (l : List Nat) (k : Nat) (h : k < l.length) : orl base (l.take (k + 1)) = orS base (orl base (l.take k)) (l.getD k 0) := by
  unfold orl
  rw [List.take_succ_eq_append_getElem h, List.foldl_append, Bm.getD_lt _ _ _ h]
  rfl
theorem any_take (f : Nat → Bool) (l : List Nat) (k : Nat) (h : k < l.length) : (l.take (k + 1)).any f = ((l.take k).any f || f (l.getD k 0)) := by
  rw [List.take_succ_eq_append_getElem h, List.any_append, Bm.getD_lt _ _ _ h]
  simp
theorem any_of_take {f : Nat → Bool} {l : List Nat} {k : Nat} (h : (l.take k).any f = true) : l.any f = true := by
  rw [List.any_eq_true] at *
  obtain ⟨x, hx, hf⟩ := h
  exact ⟨x, List.mem_of_mem_take hx, hf⟩
def ofV (base : Int) (l : List Nat) : Array Value := if farA base l = true ∨ ownA base l = true then mv 0 0 else mv base (orl base l)
def ofE (base : Int) (l : List Nat) : Int := if farA base l = true then 11 else if ownA base l = true then 13 else 0
theorem or_lt {m p : Nat} (h : m < 4294967296) (hp : p < 4294967296) : m ||| p < 4294967296 := Nat.or_lt_two_pow (n := 32) h hp
theorem orS_lt {base : Int} {m a : Nat} (h : m < 4294967296) (hd : dsn base a ≤ 32) : orS base m a < 4294967296 := by
  unfold orS
  split
  · exact h
  · exact or_lt h (Nat.lt_of_lt_of_le (Nat.pow_lt_pow_right (by omega) (show dsn base a - 1 < 32 by omega)) (by decide))

set_option maxHeartbeats 1000000 in
/-- ackmap.Of. -/
theorem ofC (A : Option Addr) (n c : Nat) (l : List Nat) (base : Int) (w : World) (hr : Rd w w.heap.size A n (N16 l)) (hl : ∀ a ∈ l, a < 65536) (hn : n ≤ 1000000) (hb : 0 ≤ base ∧ base < 65536) :
    Calls Tryd.prog 23 #[.int .u16 base, .slice A n c] w fun e w' => e = .returned (.tuple #[.agg (ofV base l), .int .i64 (ofE base l)]) ∧ Below w.heap.size w w' := by
  have HN := Lib.hid hr.len16
  go_enter Tryd.func23, Tryd.ntmps23
  go_upto_region 1 with (refine at_alloc rfl 30 rfl (mv 0 0) zeroMap ?_; intro w1 L1)
  go_upto_region 2 with (first | (refine at_alloc rfl 30 rfl (mv 0 0) zeroMap ?_; intro w2 L2) | (refine at_store rfl 30 _ _ rfl w1.heap.size (mv base 0) rfl rfl 30 _ L2.row (infoMap _ _) rfl (mv_all _ _) ?_; intro w3 L3))
  have bel3 : Below w.heap.size w w3 := (L1.bel.trans (L2.bel.mono (by rw [L1.size]; omega))).trans (L3.below (by rw [L1.size]; omega))
  have p4 : Blk w3 w.heap.size 30 (mv 0 0) := L3.blk (L1.row.after L2.bel) (by have := L1.size; omega)
  have p6 : Blk w3 w1.heap.size 30 (mv base 0) := L3.row
  have HNE0 := Lib.hid (show w.heap.size ≠ w1.heap.size by have := L1.size; omega)
  have HLE0 := Lib.hid (show w.heap.size ≤ w1.heap.size by have := L1.size; omega)
  obtain ⟨g4, hg4⟩ : ∃ g4, g4 = w.heap.size := ⟨_, rfl⟩
  obtain ⟨g6, hg6⟩ : ∃ g6, g6 = w1.heap.size := ⟨_, rfl⟩
  have HNE : Hid (g4 ≠ g6) := by rw [hg4, hg6]; exact HNE0
  have HLE : Hid (w.heap.size ≤ g6) := by rw [hg6]; exact HLE0
  have HG4 := Lib.hid hg4
  rw [← hg4] at p4 ⊢
  rw [← hg6] at p6 ⊢
  clear L1 L2 L3 HNE0 HLE0 hg4 hg6
  go_wp2_with fail
  go_loopw [7, 15] (fun s i wr => ∃ (k m : Nat) (same : Bool), k ≤ n ∧ s = .bool same ∧ i = .int .i64 (k : Int) ∧ Hid (m = orl base (l.take k)) ∧ Hid (same = ownA base (l.take k)) ∧ Hid (farA base (l.take k) = false) ∧ Blk wr g4 30 (mv 0 0) ∧ Blk wr g6 30 (mv base m) ∧ Below w.heap.size w wr ∧ m < 4294967296) (fun _ i _ => n - (intOf i).toNat)
  case atStart => exact ⟨0, 0, false, Nat.zero_le _, rfl, rfl, rfl, rfl, rfl, p4, p6, bel3, by omega⟩
  case round =>
    obtain ⟨k, m, same, hk, rfl, rfl, HM, HS, HF, q4, q6, bel, hm32⟩ := hrel
    by_cases hlt : k < n
    · have hlt' : k < l.length := by rw [← HN.out]; exact hlt
      obtain ⟨b, off, rfl, hlt2, hcell⟩ := (hr.below bel).cell16 k hlt
      obtain ⟨a, ha⟩ : ∃ a, a = l.getD k 0 := ⟨_, rfl⟩
      have ha2 : a < 65536 := by
        rw [ha, Bm.getD_lt _ _ _ hlt']; exact hl _ (List.getElem_mem hlt')
      have HT1 := Lib.hid (orl_take base l k hlt')
      have HT2 : Hid (ownA base (l.take (k + 1)) = (ownA base (l.take k) || decide (dsn base (l.getD k 0) = 0))) := any_take _ l k hlt'
      have HT3 : Hid (farA base (l.take (k + 1)) = (farA base (l.take k) || (!bf (l.getD k 0 : Nat) base && decide (32 < dsn base (l.getD k 0))))) := any_take _ l k hlt'
      rw [← ha] at HT1 HT2 HT3 hcell
      rw [HM.out.symm] at HT1
      rw [HS.out.symm] at HT2
      rw [HF.out, Bool.false_or] at HT3
      clear ha hlt'
      have C1 := Lib.hid (aheadC base a)
      have C2 := Lib.hid (beforeC a base)
      obtain ⟨D, hD⟩ : ∃ D, D = dsn base a := ⟨_, rfl⟩
      have HD := Lib.hid hD
      rw [← dsn_eq, ← hD] at C1
      rw [← hD] at HT2 HT3
      have hD2 : D < 65536 := by rw [hD]; exact dsn_lt _ _
      have HO := Lib.hid (show orS base m a = if bf a base = true ∨ D = 0 then m else m ||| 2 ^ (D - 1) by rw [hD]; rfl)
      have HZ := Lib.hid (fun h : D = 0 => bf_zero (hD.symm.trans h) hb ha2)
      clear hD
      obtain ⟨β, hβ⟩ : ∃ β, β = bf a base := ⟨_, rfl⟩
      rw [← hβ] at C2 HT3 HO HZ
      clear hβ
      cases β with
      | true =>
        have hz : D ≠ 0 := fun h => by cases HZ.out h
        rw [if_pos (.inl rfl)] at HO
        rw [decide_eq_false hz, Bool.or_false] at HT2
        have HZ2 : Hid (D ≠ 0) := hz
        clear hz
        go_wp2_with (first | (go_at_call 39; refine (C2.out _).mono ?_; rintro e w' ⟨rfl, rfl⟩) | (go_at_call 38; refine (C1.out _).mono ?_; rintro e w' ⟨rfl, rfl⟩))
        go_roundw
        case rel => exact ⟨k + 1, m, same, by omega, rfl, by go_num, (HT1.out.trans HO.out).symm, HT2.out.symm, HT3.out, q4, q6, bel, hm32⟩
        case measure => simp [intOf] <;> omega
      | false =>
        by_cases hfar : 32 < D
        · have HF2 : Hid (farA base l = true) := any_of_take (k := k + 1) (by
            have h3 := HT3.out
            rw [decide_eq_true hfar] at h3
            exact h3)
          go_wp2_with (first | (go_at_call 39; refine (C2.out _).mono ?_; rintro e w' ⟨rfl, rfl⟩) | (go_at_call 38; refine (C1.out _).mono ?_; rintro e w' ⟨rfl, rfl⟩) | (refine at_store rfl 30 _ _ rfl g4 (mv 0 0) rfl rfl 30 _ q4 (infoMap _ _) rfl (mv_all _ _) ?_; intro w5 h5))
          refine bodyPost_ret (v := .tuple #[.agg (mv 0 0), .int .i64 11]) (results_row_tmp rfl _ _ g4 30 _ _ rfl _ rfl h5.row Tryd.underlying30 rfl (infoMap _ _)) rfl ?_
          refine ⟨?_, bel.trans (h5.below (by rw [HG4.out]; exact Nat.le_refl _))⟩
          unfold ofV ofE
          rw [if_pos (.inl HF2.out), if_pos HF2.out]
        · have HF2 : Hid (farA base (l.take (k + 1)) = false) := by
            have h3 := HT3.out
            rw [decide_eq_false hfar] at h3
            exact h3
          by_cases h0 : D = 0
          · rw [if_pos (.inr h0)] at HO
            rw [decide_eq_true h0, Bool.or_true] at HT2
            have t0 : ((D : Int) == 0) = true := by rw [h0]; rfl
            subst h0
            go_wp2_with (first | (go_at_call 39; refine (C2.out _).mono ?_; rintro e w' ⟨rfl, rfl⟩) | (go_at_call 38; refine (C1.out _).mono ?_; rintro e w' ⟨rfl, rfl⟩))
            go_roundw
            case rel => exact ⟨k + 1, m, true, by omega, rfl, by go_num, (HT1.out.trans HO.out).symm, HT2.out.symm, HF2, q4, q6, bel, hm32⟩
            case measure => simp [intOf] <;> omega
          · have hD1 : 1 ≤ D := by omega
            rw [if_neg (by simp; omega)] at HO
            rw [decide_eq_false h0, Bool.or_false] at HT2
            have HS2 : Hid (same = ownA base (l.take (k + 1))) := HT2.out.symm
            have hp32 : 2 ^ (D - 1) < 4294967296 := Nat.lt_of_lt_of_le (Nat.pow_lt_pow_right (by omega) (show D - 1 < 32 by omega)) (by decide)
            have CB := Lib.hid (fun W => bitC D W ⟨hD1, by omega⟩)
            obtain ⟨m2, hm2⟩ : ∃ m2 : Nat, m2 = m ||| 2 ^ (D - 1) := ⟨_, rfl⟩
            have e1 : bits BinOp.or IntKind.u32 (m : Int) ((2 ^ (D - 1) : Nat) : Int) = (m2 : Int) := by
              rw [hm2]; exact u32_or_nat _ _ hm32 hp32
            have hm3 : m2 < 4294967296 := by rw [hm2]; exact or_lt hm32 hp32
            have HM2 : Hid (m2 = orl base (l.take (k + 1))) := by unfold Hid; rw [HT1.out, HO.out, hm2]
            have hc1 : wr.cell? ⟨g6, 1, none⟩ = some (.int .u32 (m : Int)) := by rw [q6.cell]; rfl
            have hne0 : ¬ ((D : Int) = 0) := by omega
            clear hm2 h0 HO
            generalize 2 ^ (D - 1) = p at *
            go_upto_region 7 with (first | (go_at_call 39; refine (C2.out _).mono ?_; rintro e w' ⟨rfl, rfl⟩) | (go_at_call 38; refine (C1.out _).mono ?_; rintro e w' ⟨rfl, rfl⟩))
            refine wp_region_noPanic ?_
            refine wp_region_held_drew (S := fun W => True) (by kernel_rfl) trivial (fun hHeld => ?_)
            refine wpAnyH_take (i := 0) (oi := ⟨some 22, _, _, _, _, _⟩) (v := ?_) rfl (by kernel_rfl) (by kernel_rfl) (by kernel_rfl) (fun _ _ _ h => h) (Or.inl ⟨by rfl, ?_⟩) hHeld ?_
            rotate_left
            · intro W hSW; have hSW0 := hSW; go_simp; first | done | with_reducible rfl
            (try simp only [Act.put, List.setIfInBounds_toArray, List.set_cons_zero, List.set_cons_succ])
            refine wpAnyH_take (i := 2) (oi := ⟨some 24, _, _, _, _, _⟩) (v := ?_) rfl (by kernel_rfl) (by kernel_rfl) (by kernel_rfl) (fun _ _ _ h => h) (Or.inl ⟨by rfl, ?_⟩) hHeld ?_
            rotate_left
            · intro W hSW; have hSW0 := hSW; go_simp; first | done | with_reducible rfl
            (try simp only [Act.put, List.setIfInBounds_toArray, List.set_cons_zero, List.set_cons_succ])
            refine wpAnyH_ready (rs := [1, 3]) (by kernel_rfl) (by simp) ?_
            refine AllReadyH.cons (o := ⟨some 23, _, _, _, _, _⟩) rfl (fun K hK => ?_) (AllReadyH.cons (o := ⟨some 25, _, _, _, _, _⟩) rfl (fun K hK => ?_) (AllReadyH.nil))
            · go_simp
              clear hHeld
              refine hK.out _ _ ?_ (fun hHeld => ?_)
              · trivial
              clear hK K
              (try simp only [Act.put, List.setIfInBounds_toArray, List.set_cons_zero, List.set_cons_succ])
              refine wpAnyH_ready (rs := [3]) (by kernel_rfl) (by simp) ?_
              refine AllReadyH.cons (o := ⟨some 25, _, _, _, _, _⟩) rfl (fun K hK => ?_) (AllReadyH.nil)
              go_simp
              refine (CB.out _).mono ?_
              rintro e W' ⟨rfl, rfl⟩
              clear hHeld
              refine hK.out _ _ ?_ (fun hHeld => ?_)
              · trivial
              clear hK K
              (try simp only [Act.put, List.setIfInBounds_toArray, List.set_cons_zero, List.set_cons_succ])
              refine wpAnyH_take (i := 4) (oi := ⟨some 26, _, _, _, _, _⟩) (v := ?_) rfl (by kernel_rfl) (by kernel_rfl) (by kernel_rfl) (fun _ _ _ h => h) (Or.inl ⟨by rfl, ?_⟩) hHeld ?_
              rotate_left
              · intro W hSW; have hSW0 := hSW; go_simp; first | done | with_reducible rfl
              (try simp only [Act.put, List.setIfInBounds_toArray, List.set_cons_zero, List.set_cons_succ])
              refine wpAnyH_take (i := 5) (oi := ⟨some 27, _, _, _, _, _⟩) (v := ?_) rfl (by kernel_rfl) (by kernel_rfl) (by kernel_rfl) (fun _ _ _ h => h) (Or.inl ⟨by rfl, ?_⟩) hHeld ?_
              rotate_left
              · intro W hSW; have hSW0 := hSW; go_simp; first | done | with_reducible rfl
              (try simp only [Act.put, List.setIfInBounds_toArray, List.set_cons_zero, List.set_cons_succ])
              refine wpAnyH_ready (rs := [6]) (by kernel_rfl) (by simp) ?_
              refine AllReadyH.cons (o := ⟨none, _, _, _, _, _⟩) rfl (fun K hK => ?_) (AllReadyH.nil)
              refine step_cell (by rfl) 23 _ _ (by rfl) g6 1 (.int .u32 (m2 : Int)) (by rfl) (by rfl) 30 (mv base m) q6.drew (show 1 < 2 by omega) infoU32 rfl ?_
              intro W6 h6
              clear hHeld
              refine hK.out _ _ ?_ (fun hHeld => ?_)
              · trivial
              clear hK K
              (try simp only [Act.put, List.setIfInBounds_toArray, List.set_cons_zero, List.set_cons_succ])
              refine wpAnyH_done (by kernel_rfl) ?_ _
              refine NoPanic.normal ?_
              clear hHeld
              have q6n := h6.row
              rw [mv_set] at q6n
              have q4n := h6.blk q4.drew HNE.out
              have beln := bel.drew.trans (h6.below HLE.out)
              clear h6 hc1
              go_wp2
              go_roundw
              case rel => exact ⟨k + 1, m2, same, by omega, rfl, by go_num, HM2, HS2, HF2, q4n, q6n, beln, hm3⟩
              case measure => simp [intOf] <;> omega
            · go_simp
              refine (CB.out _).mono ?_
              rintro e W' ⟨rfl, rfl⟩
              clear hHeld
              refine hK.out _ _ ?_ (fun hHeld => ?_)
              · trivial
              clear hK K
              (try simp only [Act.put, List.setIfInBounds_toArray, List.set_cons_zero, List.set_cons_succ])
              refine wpAnyH_ready (rs := [1]) (by kernel_rfl) (by simp) ?_
              refine AllReadyH.cons (o := ⟨some 23, _, _, _, _, _⟩) rfl (fun K hK => ?_) (AllReadyH.nil)
              go_simp
              clear hHeld
              refine hK.out _ _ ?_ (fun hHeld => ?_)
              · trivial
              clear hK K
              (try simp only [Act.put, List.setIfInBounds_toArray, List.set_cons_zero, List.set_cons_succ])
              refine wpAnyH_take (i := 4) (oi := ⟨some 26, _, _, _, _, _⟩) (v := ?_) rfl (by kernel_rfl) (by kernel_rfl) (by kernel_rfl) (fun _ _ _ h => h) (Or.inl ⟨by rfl, ?_⟩) hHeld ?_
              rotate_left
              · intro W hSW; have hSW0 := hSW; go_simp; first | done | with_reducible rfl
              (try simp only [Act.put, List.setIfInBounds_toArray, List.set_cons_zero, List.set_cons_succ])
              refine wpAnyH_take (i := 5) (oi := ⟨some 27, _, _, _, _, _⟩) (v := ?_) rfl (by kernel_rfl) (by kernel_rfl) (by kernel_rfl) (fun _ _ _ h => h) (Or.inl ⟨by rfl, ?_⟩) hHeld ?_
              rotate_left
              · intro W hSW; have hSW0 := hSW; go_simp; first | done | with_reducible rfl
              (try simp only [Act.put, List.setIfInBounds_toArray, List.set_cons_zero, List.set_cons_succ])
              refine wpAnyH_ready (rs := [6]) (by kernel_rfl) (by simp) ?_
              refine AllReadyH.cons (o := ⟨none, _, _, _, _, _⟩) rfl (fun K hK => ?_) (AllReadyH.nil)
              refine step_cell (by rfl) 23 _ _ (by rfl) g6 1 (.int .u32 (m2 : Int)) (by rfl) (by rfl) 30 (mv base m) q6.drew (show 1 < 2 by omega) infoU32 rfl ?_
              intro W6 h6
              clear hHeld
              refine hK.out _ _ ?_ (fun hHeld => ?_)
              · trivial
              clear hK K
              (try simp only [Act.put, List.setIfInBounds_toArray, List.set_cons_zero, List.set_cons_succ])
              refine wpAnyH_done (by kernel_rfl) ?_ _
              refine NoPanic.normal ?_
              clear hHeld
              have q6n := h6.row
              rw [mv_set] at q6n
              have q4n := h6.blk q4.drew HNE.out
              have beln := bel.drew.trans (h6.below HLE.out)
              clear h6 hc1
              go_wp2
              go_roundw
              case rel => exact ⟨k + 1, m2, same, by omega, rfl, by go_num, HM2, HS2, HF2, q4n, q6n, beln, hm3⟩
              case measure => simp [intOf] <;> omega
    · have hkn : l.take k = l := by rw [List.take_of_length_le]; have := HN.out; omega
      rw [hkn] at HM HS HF
      cases same with
      | true =>
        go_wp2_with (refine at_store rfl 30 _ _ rfl g4 (mv 0 0) rfl rfl 30 _ q4 (infoMap _ _) rfl (mv_all _ _) ?_; intro w5 h5)
        refine bodyPost_ret (v := .tuple #[.agg (mv 0 0), .int .i64 13]) (results_row_tmp rfl _ _ g4 30 _ _ rfl _ rfl h5.row Tryd.underlying30 rfl (infoMap _ _)) rfl ?_
        refine ⟨?_, bel.trans (h5.below (by rw [HG4.out]; exact Nat.le_refl _))⟩
        unfold ofV ofE
        rw [if_pos (.inr HS.out.symm), HF.out, if_neg (by simp), if_pos HS.out.symm]
      | false =>
        go_wp2_with (first | (refine at_load rfl 30 _ rfl g6 rfl 30 (mv base m) _ q6 Tryd.underlying30 rfl (infoMap _ _) ?_) | (refine at_store rfl 30 _ _ rfl g4 (mv base m) rfl rfl 30 _ q4 (infoMap _ _) rfl (mv_all _ _) ?_; intro w5 h5))
        refine bodyPost_ret (v := .tuple #[.agg (mv base m), .int .i64 0]) (results_row_tmp rfl _ _ g4 30 _ _ rfl _ rfl h5.row Tryd.underlying30 rfl (infoMap _ _)) rfl ?_
        refine ⟨?_, bel.trans (h5.below (by rw [HG4.out]; exact Nat.le_refl _))⟩
        unfold ofV ofE
        rw [if_neg (by rw [HF.out, ← HS.out]; simp), HF.out, if_neg (by simp), ← HS.out, if_neg (by simp), HM.out]
end Go.Proofs.YtboloaglakehkaaDoor
