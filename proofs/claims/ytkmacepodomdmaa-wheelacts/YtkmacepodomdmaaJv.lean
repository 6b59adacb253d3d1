/-
  Layer 19 (what is due at which tick): the reference's wheel: DocTick.
-/
import Derived.Test.YtkmacepodomdmaaJt
import Derived.Test.YtkmacepodomdmaaJu
import Derived.Test.YtkmacepodomdmaaMq
import Derived.BigCall
import Derived.BigGuard
import Derived.CellFam
import Derived.Deep.LoopGhost
import Derived.StillTailTactics
namespace Go.Proofs.Ytkmacepodomdmaa
open Go.RowKit
set_option maxRecDepth 100000
set_option linter.unusedVariables false
set_option linter.unusedSimpArgs false

section
variable {P : Program} {ops : Array Oper} {rest : List Oper} {o : Oper} {a : Act} {Q : Exit → Act → World → Prop}
/-- 'l = append(l, x)', x of sz cells, behind '[]T{x}': where it lies. -/
theorem appRAt (w : World) (hgd : o.guard = none) (s x : Operand) (t : TypeId) (ho : o.op = .call { callee := .builtin .append, args := #[s, x], argTypes := #[t, t] })
    (base : Nat) (e : TypeId) (i : TypeInfo) (z : Value) (sz bytes : Nat) (ht : P.underlying t = some (.slice e)) (hi : P.info? e = some i) (hz : i.zero = some z)
    (hsize : i.size = sz) (hby : i.bytes = bytes) (hzs : z.cells.size = sz) (hsz : 0 < sz)
    (A : Option Addr) (n c : Nat) (xs : List Value) (E : Array Value) (hE : E.size = sz) (hE1 : E.all (·.oneCell') = true) (hs : a.eval s = .slice A n c) (hown : OwnR w base e sz A n c xs)
    (hx : a.eval x = .slice (some ⟨w.heap.size, 0, none⟩) 1 1) (hbytes : (n + 1) * bytes ≤ 140737488355328) (h63 : n + 1 ≤ maxLen) (hbase : base ≤ w.heap.size)
    (h : ∀ A' c' w', OwnR w' base e sz A' (n + 1) c' (xs ++ E.toList) → w.grownBy w' (Value.slice A n c).ownBlock → (blk A' = blk A ∨ ∃ k, blk A' = some k ∧ w.heap.size ≤ k) → wpList P ops Q rest (a.put o.dst (.slice A' (n + 1) c')) w') :
    wpList P ops Q (o :: rest) a (w.alloc (.cells E e)) := by
  refine wpList_plain hgd fun K hK => ?_
  have own2 := hown.below (B := w.heap.size) ((Below.refl _ _).alloc (Nat.le_refl _) (.cells E e)) (Nat.le_refl _)
  have hb : Blk (w.alloc (.cells E e)) w.heap.size e E := (laid_alloc w e E).row
  obtain ⟨A', c', w', hrun, h2, h3, h4⟩ := run_appAtR (P := P) (w.alloc (.cells E e)) base t o.type e i z sz bytes ht hi hz hsize hby hzs hsz A n c xs own2 ⟨w.heap.size, 0, none⟩ 1 1 E.toList (by rw [Array.length_toList, hE, Nat.one_mul])
    (fun j u hj => by rw [Addr.add_lit, Nat.zero_add, hb.cell, ← Array.getElem?_toList]; exact hj) (fun u hu => by
      rw [Array.all_eq_true_iff_forall_mem] at hE1
      exact hE1 u (Array.mem_toList_iff.1 hu)) hbytes h63 (by simp; omega)
  unfold Oper.wp execOp
  simp only [ho, resolve, invoke, builtin, Sem.run_bind, Sem.run_pure, Result.andThen_ok, List.map_toArray, List.map_cons, List.map_nil, hs, hx, hrun]
  exact hK _ _ (h A' c' w' h2 ⟨h3.os, h3.tape, h3.output, Nat.le_trans (by simp) h3.size, fun k hk hne => (h3.block k (by simp; omega) hne).trans (Below.heap_alloc _ _ _ hk)⟩ (by
    rcases h4 with h4 | h4
    · exact .inl h4
    · exact .inr ⟨_, h4, by simp⟩))
end
/-- Numbers as cells of int. -/
def NI (mo : List Nat) : List Value := I64 (mo.map fun (x : Nat) => (x : Int))
theorem NI_len (mo : List Nat) : (NI mo).length = mo.length := by simp [NI, I64]
theorem NI_get {mo : List Nat} {k x : Nat} (h : mo[k]? = some x) : (NI mo)[k]? = some (.int .i64 (x : Int)) := by simp [NI, I64, h]
theorem NI_set (mo : List Nat) (k x : Nat) : (NI mo).set k (.int .i64 (x : Int)) = NI (mo.set k x) := by simp [NI, I64, List.map_set]
/-- In the midst of DocTick: what is due so far, what is left. -/
structure DT (B : World) (wr : World) (Ao : Option Addr) (co : Nat) (xs : List Nat) (Al : Option Addr) (cl : Nat) (ll : List (Nat × Nat)) : Prop where
  out : Own wr B.heap.size 3 Ao xs.length co (NI xs)
  left : OwnR wr B.heap.size 110 2 Al ll.length cl (D2 ll)
  bel : Below B.heap.size B wr
  apt : Apt Al Ao
theorem DT.drew {B wr : World} {Ao Al : Option Addr} {co cl : Nat} {xs : List Nat} {ll : List (Nat × Nat)} (h : DT B wr Ao co xs Al cl ll) : DT B wr.drew Ao co xs Al cl ll :=
  ⟨h.out.below (Below.refl wr.heap.size wr).drew (Nat.le_refl _), h.left.below (Below.refl wr.heap.size wr).drew (Nat.le_refl _), h.bel.drew, h.apt⟩
theorem DT.draw {B wr : World} {Ao Al : Option Addr} {co cl : Nat} {xs : List Nat} {ll : List (Nat × Nat)} (h : DT B wr Ao co xs Al cl ll) (q : Nat) : DT B (wr.drewN q) Ao co xs Al cl ll := by
  have hb : ∀ b, Below b wr (wr.drewN q) := fun b => ⟨rfl, rfl, rfl, Nat.le_refl _, fun _ _ => rfl⟩
  exact ⟨h.out.below (hb wr.heap.size) (Nat.le_refl _), h.left.below (hb wr.heap.size) (Nat.le_refl _), h.bel.trans (hb _), h.apt⟩
/-- One more is left. -/
theorem DT.push {B wr w1 : World} {Ao Al Al' : Option Addr} {co cl cl' : Nat} {xs : List Nat} {ll : List (Nat × Nat)} {p : Nat × Nat} (h : DT B wr Ao co xs Al cl ll)
    (h1 : OwnR w1 B.heap.size 110 2 Al' (ll.length + 1) cl' (D2 ll ++ (#[.int .i64 (p.1 : Int), .int .i64 (p.2 : Int)] : Array Value).toList)) (h2 : wr.grownBy w1 (Value.slice Al ll.length cl).ownBlock) (h3 : blk Al' = blk Al ∨ ∃ k, blk Al' = some k ∧ wr.heap.size ≤ k) : DT B w1 Ao co xs Al' cl' (ll ++ [p]) := by
  have hb := h.left.block
  refine ⟨h.out.grown h2 h.apt.symm, h1.to (by simp) (D2_snoc ll p.1 p.2), h.bel.grown h2 h.bel.size (fun j hj => (hb j hj).1), h.apt.next h3 (fun k hk => (h.out.blkLt k hk).2)⟩
/-- One more is due. -/
theorem DT.more {B wr w1 : World} {Ao Al Ao' : Option Addr} {co cl co' : Nat} {xs : List Nat} {ll : List (Nat × Nat)} {a : Nat} (h : DT B wr Ao co xs Al cl ll)
    (h1 : Own w1 B.heap.size 3 Ao' (xs.length + 1) co' (I64 (xs.map (fun (x : Nat) => (x : Int)) ++ [(a : Int)]))) (h2 : wr.grownBy w1 (Value.slice Ao xs.length co).ownBlock) (h3 : blk Ao' = blk Ao ∨ ∃ k, blk Ao' = some k ∧ wr.heap.size ≤ k) : DT B w1 Ao' co' (xs ++ [a]) Al cl ll := by
  have hb := h.out.block
  have hl := h.left.blkLt
  refine ⟨h1.to (by simp) (by simp [NI]), h.left.grown h2 (fun k hk e => ?_), h.bel.grown h2 h.bel.size (fun j hj => (hb j hj).1), (h.apt.symm.next h3 (fun k hk => (hl k hk).2)).symm⟩
  rw [blk_own] at e
  rcases h.apt with h4 | h4
  · rw [h4] at hk; cases hk
  · exact h4 (by rw [hk, e])
/-- One place is written. -/
theorem DT.set {B wr : World} {Ao Al : Option Addr} {co cl : Nat} {xs : List Nat} {ll : List (Nat × Nat)} {g k x : Nat} (h : DT B wr Ao co xs Al cl ll) (hA : Ao = some ⟨g, 0, none⟩) (hk : k < xs.length) :
    DT B (wr.setCell ⟨g, k, none⟩ (.int .i64 (x : Int))) Ao co (xs.set k x) Al cl ll := by
  obtain ⟨g', e, hg, hgl, hc, hf, hs⟩ := h.out.slot k hk
  have eg : g' = g := by rw [hA] at e; injection e with e; injection e with e; exact e.symm
  subst eg
  refine ⟨(hs (.int .i64 (x : Int))).to (by simp) (NI_set xs k x), h.left.heap (fun j hj => heap_setCell_other wr ⟨g', k, none⟩ j _ (fun e2 => ?_)), ?_, h.apt⟩
  · have e3 : j = g' := e2
    rcases h.apt with h4 | h4
    · rw [h4] at hj; cases hj
    · exact h4 (by rw [hj, e, e3]; rfl)
  · exact ⟨h.bel.os, h.bel.tape, h.bel.output, by simpa using h.bel.size, fun j hj => (heap_setCell_other wr ⟨g', k, none⟩ j _ (fun e2 => by have e3 : j = g' := e2; omega)).trans (h.bel.block j hj)⟩
/-- What a tick of the reference's wheel leaves. -/
def DTickOk (w : World) (P : Nat → Prop) (gR t : Nat) (L : List (Nat × Nat)) (e : Ending) (w' : World) : Prop :=
  ∃ A c l, e = .returned (.slice A l.length c) ∧ Due L t l ∧ Own w' w.heap.size 3 A l.length c (NI l) ∧ Kr w w' P ∧ ∃ P' : Nat → Prop, RW w' P' gR t (restL L t) ∧ (∀ k, P' k → P k ∨ w.heap.size ≤ k) ∧ ∀ k, blk A = some k → ¬ P' k

set_option maxHeartbeats 1000000 in
set_option maxRecDepth 100000 in
/-- (*Wheel).DocTick. -/
theorem docTick (w : World) (P : Nat → Prop) (gR now t : Nat) (L : List (Nat × Nat)) (h : RW w P gR now L) (hn : (L.map Prod.fst).Nodup) (hnum : ∀ p ∈ L, p.1 < 65536) (ht : t = now + 1) (hL : L.length ≤ 1000) (hnow : now ≤ 1000000) :
    Calls Try.prog 32 #[.pointer (some ⟨gR, 0, none⟩)] w (DTickOk w P gR t L) := by
  obtain ⟨A, c, q, own, hA⟩ := h.blk
  obtain ⟨i2, hi2, hz0, hz1, hz2⟩ := info_parts infoDue
  obtain ⟨n, hnL⟩ : ∃ n, n = L.length := ⟨_, rfl⟩
  have HNL := Lib.hid hnL
  have hgl := q.lt
  have HM := Lib.hid h.mine
  have HLT := Lib.hid h.lt
  have HA := Lib.hid hA
  rw [← hnL] at q own hL
  have c0 : w.cell? ⟨gR, 0, none⟩ = some (.int .i64 (now : Int)) := (q.cell 0).trans rfl
  have et : (now : Int) + 1 = (t : Int) := by omega
  have htl : t ≤ 1000001 := by omega
  have ewt : IntKind.i64.wrap (t : Int) = (t : Int) := IntWalk.i64_in _ (by omega)
  have HND := Lib.hid hn
  have HNUM := Lib.hid hnum
  clear hn hnum hA hnL ht h
  go_enter Try.func32, Try.ntmps32
  go_upto_region 2 with (refine at_cell rfl 3 _ _ rfl gR 0 (.int .i64 (t : Int)) rfl (by first | rfl | (go_simp; rfl)) 58 _ q (show 0 < 2 by omega) info3one rfl ?_; intro w1 u1)
  have q1 : Blk w1 gR 58 (rwl t A n c) := u1.row
  have own1 : OwnR w1 0 110 2 A n c (D2 L) := own.heap (fun k hk => u1.oth k (HA.out k hk).2)
  have hs1 := u1.size
  have HU := Lib.hid u1
  clear q c0 own u1
  go_wp2
  go_loopw [3, 4, 5] (fun s3 s4 s5 wr => ∃ (i : Nat) (Ao : Option Addr) (co : Nat) (mo : List Nat) (Al : Option Addr) (cl : Nat) (ll : List (Nat × Nat)), i ≤ n ∧ s3 = .slice Ao mo.length co ∧ s4 = .slice Al ll.length cl ∧ s5 = .int .i64 (i : Int) ∧ Hid (DT w1 wr Ao co mo Al cl ll) ∧ Hid (Due (L.take i) t mo) ∧ Hid (ll = restL (L.take i) t) ∧ mo.length ≤ i ∧ ll.length ≤ i) (fun _ _ s5 _ => n - (intOf s5).toNat)
  case atStart => exact ⟨0, none, 0, [], none, 0, [], Nat.zero_le _, rfl, rfl, rfl, ⟨Own.nil _ _ _, OwnR.nil _ _ _ _, Below.refl _ _, .inl rfl⟩, ⟨List.Pairwise.nil, fun a => ⟨fun h => (by cases h), fun h => (by cases h)⟩⟩, rfl, Nat.le_refl _, Nat.le_refl _⟩
  case round =>
    obtain ⟨i, Ao, co, mo, Al, cl, ll, hi, rfl, rfl, rfl, HT, HDU, HLL, hmi, hli⟩ := hrel
    have k0 : wr.cell? ⟨gR, 0, none⟩ = some (.int .i64 (t : Int)) := ((q1.below HT.out.bel (by omega)).cell 0).trans rfl
    have k1 : wr.cell? ⟨gR, 1, none⟩ = some (.slice A n c) := ((q1.below HT.out.bel (by omega)).cell 1).trans rfl
    by_cases hlt : i < n
    · have hlt' : i < L.length := by rw [← HNL.out]; exact hlt
      obtain ⟨g, rfl, _, hgw, hcell⟩ := own1.cells (by omega)
      have hget := D2_get L i hlt'
      have kc0 : wr.cell? ⟨g, 2 * i, none⟩ = some (.int .i64 ((L[i].1 : Nat) : Int)) := (HT.out.bel.cell (p := ⟨g, 2 * i, none⟩) hgw).trans (hcell _ _ hget.1)
      have kc1 : wr.cell? ⟨g, 2 * i + 1, none⟩ = some (.int .i64 ((L[i].2 : Nat) : Int)) := (HT.out.bel.cell (p := ⟨g, 2 * i + 1, none⟩) hgw).trans (hcell _ _ hget.2)
      have d1 : decide ((i : Int) < (n : Int)) = true := by simp; omega
      have ix := idxDue g n c i hlt
      have HTK : Hid (L.take (i + 1) = L.take i ++ [(L[i].1, L[i].2)]) := List.take_succ_eq_append_getElem hlt'
      have ha := HNUM.out L[i] (List.getElem_mem hlt')
      have HNM := Lib.hid (not_due HND.out HDU.out hlt')
      by_cases he : L[i].2 = t
      · have de : (((L[i].2 : Nat) : Int) != (t : Int)) = false := by simp; omega
        have HL2 : Hid (ll = restL (L.take (i + 1)) t) := by unfold Hid; rw [HTK.out, rest_snoc, if_pos he, HLL.out]
        have HDI : Hid (∀ k, k ≤ mo.length → (k = 0 ∨ mo.getD (k - 1) 0 < L[i].1) → (∀ z ∈ mo.drop k, L[i].1 < z) → Due (L.take (i + 1)) t (ro mo L[i].1 k)) := fun k h1 h2 h3 => by
          rw [HTK.out, he]; exact due_ins HDU.out h1 h2 h3
        have HKC : Hid (∀ W, Below w1.heap.size w1 W → W.cell? ⟨g, 2 * i, none⟩ = some (.int .i64 ((L[i].1 : Nat) : Int))) := fun W hW => (hW.cell (p := ⟨g, 2 * i, none⟩) hgw).trans (hcell _ _ hget.1)
        clear he HTK hcell hget
        generalize L[i].1 = x at *
        generalize L[i].2 = y at *
        have hlen1 : mo.length ≤ 1000 := by omega
        have hwB : w1.heap.size ≤ wr.heap.size := HT.out.bel.size
        go_wp2
        go_quiet (fail)
        go_wp2_with (at_builtin; refine app64At (wr.drewN nq) rfl _ _ rfl w1.heap.size Ao mo.length co (mo.map fun (z : Nat) => (z : Int)) (x : Int) rfl (HT.out.draw nq).out rfl (by omega) hwB ?_; intro A3 c3 w3 o3 g3 l3)
        have HT3 : Hid (DT w1 w3 A3 c3 (mo ++ [x]) Al cl ll) := (HT.out.draw nq).more o3 g3 l3
        clear o3 g3 l3 k0 k1 kc0 kc1
        go_loopw [6] (fun s6 wr2 => ∃ k : Nat, s6 = .int .i64 (k : Int) ∧ k ≤ mo.length ∧ Hid (DT w1 wr2 A3 c3 (ro mo x k) Al cl ll) ∧ Hid (∀ z ∈ mo.drop k, x < z)) (fun s6 _ => (intOf s6).toNat)
        case atStart => exact ⟨mo.length, rfl, Nat.le_refl _, by rw [ro_end]; exact HT3, by unfold Hid; simp⟩
        case round =>
          obtain ⟨k1, rfl, hk, H2, HG⟩ := hrel
          have k0 : wr.cell? ⟨gR, 0, none⟩ = some (.int .i64 (t : Int)) := ((q1.below H2.out.bel (by omega)).cell 0).trans rfl
          have k1' : wr.cell? ⟨gR, 1, none⟩ = some (.slice (some ⟨g, 0, none⟩) n c) := ((q1.below H2.out.bel (by omega)).cell 1).trans rfl
          have kc := HKC.out wr H2.out.bel
          have OUT : Hid (∀ W, DT w1 W A3 c3 (ro mo x k1) Al cl ll → (k1 = 0 ∨ mo.getD (k1 - 1) 0 < x) → ∃ (i' : Nat) (Ao : Option Addr) (co : Nat) (mo' : List Nat) (Al' : Option Addr) (cl' : Nat) (ll' : List (Nat × Nat)), i' ≤ n ∧ Value.slice A3 (mo.length + 1) c3 = .slice Ao mo'.length co ∧ Value.slice Al ll.length cl = .slice Al' ll'.length cl' ∧ Value.int .i64 ((i : Int) + 1) = .int .i64 (i' : Int) ∧ Hid (DT w1 W Ao co mo' Al' cl' ll') ∧ Hid (Due (L.take i') t mo') ∧ Hid (ll' = restL (L.take i') t) ∧ mo'.length ≤ i' ∧ ll'.length ≤ i') :=
            fun W hW hx => ⟨i + 1, A3, c3, ro mo x k1, Al, cl, ll, by omega, by rw [ro_len _ _ _ hk], rfl, by go_num, hW, HDI.out k1 hk hx HG.out, HL2.out, by rw [ro_len _ _ _ hk]; omega, by omega⟩
          by_cases hk0 : k1 = 0
          · have OUT0 := Lib.hid (fun W hW => OUT.out W hW (.inl hk0))
            subst hk0
            have dg : decide ((0 : Int) < ((0 : Nat) : Int)) = false := by simp
            go_wp2
            go_quiet (fail)
            go_wp2
            go_roundw
            case rel => exact OUT0.out _ (H2.out.draw _)
            case measure => simp [intOf]; omega
          · obtain ⟨k, hkk⟩ : ∃ k, k1 = k + 1 := ⟨k1 - 1, by omega⟩
            have HKK := Lib.hid hkk
            have dg : decide ((0 : Int) < (k1 : Int)) = true := by simp; omega
            have e1 : (k1 : Int) - 1 = (k : Int) := by omega
            have e1w : IntKind.i64.wrap (k : Int) = (k : Int) := IntWalk.i64_in _ (by omega)
            have hrl := ro_len mo x k1 hk
            obtain ⟨g3, hA3, hg3, hg3l, hcell3, hfz3, _⟩ := H2.out.out.slot k (by omega)
            have hA3' := hA3
            subst hA3
            obtain ⟨v, hv⟩ : ∃ v, v = mo.getD k 0 := ⟨_, rfl⟩
            have kk : wr.cell? ⟨g3, k, none⟩ = some (.int .i64 (v : Int)) := by
              rw [hcell3, hv, hkk]
              exact NI_get (ro_at mo x k (by omega))
            have HV := Lib.hid hv
            clear hcell3 hv
            by_cases hxm : x < v
            · have dx : decide ((x : Int) < (v : Int)) = true := by simp; omega
              obtain ⟨g4, hA4, _, _, hcell4, hfz4, _⟩ := H2.out.out.slot (k + 1) (by omega)
              have e34 : g4 = g3 := by injection hA4 with e; injection e with e; exact e.symm
              subst e34
              have kk1 : wr.cell? ⟨g4, k + 1, none⟩ = some (.int .i64 (x : Int)) := by
                rw [hcell4, ← hkk]
                exact NI_get (ro_mid mo x k1 hk)
              have hb1 : (k : Int) < (mo.length : Int) + 1 := by omega
              have hb2 : ((k + 1 : Nat) : Int) < (mo.length : Int) + 1 := by omega
              have hxm' : x < mo.getD k 0 := by rw [← HV.out]; exact hxm
              have HGk : Hid (∀ z ∈ mo.drop k, x < z) := ro_drop mo x k (by omega) (by rw [← hkk]; exact HG.out) hxm'
              have HSW : Hid (∀ W, DT w1 W (some ⟨g4, 0, none⟩) c3 (ro mo x k1) Al cl ll → DT w1 ((W.setCell ⟨g4, k + 1, none⟩ (.int .i64 (v : Int))).setCell ⟨g4, k, none⟩ (.int .i64 (x : Int))) (some ⟨g4, 0, none⟩) c3 (ro mo x k) Al cl ll) := fun W hW => by
                rw [hkk] at hW hrl
                have h1 := (hW.set (k := k + 1) (x := v) rfl (by omega)).set (k := k) (x := x) rfl (by rw [List.length_set]; omega)
                rw [HV.out, ro_step mo x k (by omega)] at h1
                rw [HV.out]
                exact h1
              clear hcell4 hxm' hA4
              go_wp2
              go_quiet (fail)
              go_wp2
              go_region
              all_goals go_wp2
              go_roundw
              case rel => exact ⟨k, by go_num, by omega, HSW.out _ (H2.out.draw _), HGk⟩
              case measure => simp [intOf] <;> omega
            · have dx : decide ((x : Int) < (v : Int)) = false := by simp; omega
              have hm : v ∈ mo := by rw [HV.out, Bm.getD_lt _ _ _ (show k < mo.length by omega)]; exact List.getElem_mem _
              have hne : v ≠ x := fun e => HNM.out (by rw [← e]; exact hm)
              have OUT1 : Hid (mo.getD (k1 - 1) 0 < x) := by unfold Hid; rw [show k1 - 1 = k by omega, ← HV.out]; omega
              clear hm hne
              go_wp2
              go_quiet (fail)
              go_wp2
              go_roundw
              case rel => exact OUT.out _ (H2.out.draw _) (.inr OUT1.out)
              case measure => simp [intOf]; omega
      · have hrg : wr.rangeAt g (2 * i) (#[.int .i64 ((L[i].1 : Nat) : Int), .int .i64 ((L[i].2 : Nat) : Int)] : Array Value).toList := by
          intro j v hv
          match j, hv with
          | 0, hv => injection hv with hv; rw [← hv]; exact kc0
          | 1, hv => injection hv with hv; rw [← hv]; exact kc1
        have HR := Lib.hid hrg
        have de : (((L[i].2 : Nat) : Int) != (t : Int)) = true := by simp; omega
        have HD2 : Hid (Due (L.take (i + 1)) t mo) := by unfold Hid; rw [HTK.out]; exact due_no HDU.out he
        have HL2 : Hid (ll ++ [(L[i].1, L[i].2)] = restL (L.take (i + 1)) t) := by unfold Hid; rw [HTK.out, rest_snoc, if_neg he, HLL.out]
        clear he hrg HTK HNM hcell hget
        generalize L[i].1 = x at *
        generalize L[i].2 = y at *
        have hlen1 : ll.length ≤ 1000 := by omega
        have hwB : w1.heap.size ≤ wr.heap.size := HT.out.bel.size
        go_wp2
        go_quiet (fail)
        go_wp2_with (at_builtin; refine appRAt (wr.drewN nq) rfl _ _ 56 rfl w1.heap.size 110 i2 _ 2 16 Try.underlying56 hi2 hz0 hz1 hz2 rfl (by decide) Al ll.length cl _ #[.int .i64 (x : Int), .int .i64 (y : Int)] rfl (by simp [Value.oneCell']) rfl (HT.out.draw nq).left rfl (by omega) (by unfold maxLen; omega) hwB ?_; intro A3 c3 w3 o3 g3 l3)
        have HT3 : Hid (DT w1 w3 Ao co mo A3 c3 (ll ++ [(x, y)])) := (HT.out.draw nq).push o3 g3 l3
        clear o3 g3 l3
        go_roundw
        case rel => exact ⟨i + 1, Ao, co, mo, A3, c3, ll ++ [(x, y)], by omega, rfl, by simp, by go_num, HT3, HD2, HL2, by omega, by simp; omega⟩
        case measure => simp [intOf]; omega
    · have hin : i = n := by omega
      have htk : L.take i = L := by rw [List.take_of_length_le]; have := HNL.out; omega
      rw [htk] at HDU HLL
      have d1 : decide ((i : Int) < (n : Int)) = false := by simp; omega
      have qr : Blk wr gR 58 (rwl t A n c) := q1.below HT.out.bel (by omega)
      clear htk
      go_wp2_with (refine at_cell rfl 56 _ _ rfl gR 1 (.slice Al ll.length cl) rfl rfl 58 _ qr (show 1 < 2 by omega) infoDues rfl ?_; intro w4 u4)
      go_ret
      have ho := HT.out.out.blkLt
      have hl := HT.out.left.blkLt
      have hb := HT.out.bel
      have hu := HU.out
      have hlu := HLL.out
      refine ⟨Ao, co, mo, rfl, HDU.out, ?_, ⟨u4.os.trans (hb.os.trans hu.os), u4.tape.trans (hb.tape.trans hu.tape), u4.output.trans (hb.output.trans hu.output), by rw [u4.size]; have := hb.size; omega, fun k hk hp => ?_⟩, (fun k => k = gR ∨ blk Al = some k), ⟨⟨Al, cl, ?_, ?_, fun k hk => ⟨.inr hk, ?_⟩⟩, .inl rfl, fun k hk => ?_⟩, fun k hk => ?_, fun k hk hp => ?_⟩
      · rw [← hs1]; exact HT.out.out.upd u4 (by omega)
      · rw [u4.oth k (fun e => hp (by rw [e]; exact HM.out)), hb.block k (by omega), hu.oth k (fun e => hp (by rw [e]; exact HM.out))]
      · rw [← hlu]; exact u4.row
      · rw [← hlu]; exact (HT.out.left.down (Nat.zero_le _)).heap (fun k hk => u4.oth k (by have := (hl k hk).1; omega))
      · have := (hl k hk).1; omega
      · rw [u4.size]
        rcases hk with hk | hk
        · rw [hk]; have := hb.size; omega
        · exact (hl k hk).2
      · rcases hk with hk | hk
        · exact .inl (by rw [hk]; exact HM.out)
        · exact .inr (by have := (hl k hk).1; omega)
      · rcases hp with hp | hp
        · have := (ho k hk).1; omega
        · rcases HT.out.apt with h4 | h4
          · rw [h4] at hp; cases hp
          · exact h4 (by rw [hp, hk])
end Go.Proofs.Ytkmacepodomdmaa
