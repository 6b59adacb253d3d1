/-
  Layer 19 (what is due at which tick): Tick.
-/
import Derived.Test.YtkmacepodomdmaaJm
import Derived.Test.YtkmacepodomdmaaMo
namespace Go.Proofs.Ytkmacepodomdmaa
open Go.RowKit
set_option maxRecDepth 100000
set_option linter.unusedVariables false
set_option linter.unusedSimpArgs false
set_option maxRecDepth 100000

/-- What slices.Sort does to a row of the call's own. -/
def SortOk : Prop := ∀ (base n c : Nat) (A : Option Addr) (e : TypeId) (l : List Nat) (w : World), Own w base e A n c (N16 l) → n < 50 →
    Calls Try.prog 56 #[.slice A n c] w fun en w' =>
      en = .returned (.tuple #[]) ∧ ∃ m, Own w' base e A n c (N16 m) ∧ m.Perm l ∧ m.Pairwise (· ≤ ·) ∧ w.grownBy w' (blk A)
theorem Kr.refl (w : World) (P : Nat → Prop) : Kr w w P := Kr.of_below (Below.refl _ _)
theorem Kr.grown {w w1 w2 : World} {P : Nat → Prop} {row : Option Nat} (h : Kr w w1 P) (hg : w1.grownBy w2 row) (hr : ∀ k, row = some k → P k ∨ w.heap.size ≤ k) : Kr w w2 P :=
  ⟨hg.os.trans h.os, hg.tape.trans h.tape, hg.output.trans h.output, Nat.le_trans h.size hg.size, fun k hk hp => (hg.block k (Nat.lt_of_lt_of_le hk h.size) (fun e => by
    rcases hr k e.symm with h1 | h1
    · exact hp h1
    · omega)).trans (h.block k hk hp)⟩
theorem wf16_inv {x : Int} (h : (Lit.int .u16 x).wf = true) : ∃ a : Nat, x = (a : Int) ∧ a < 65536 := by
  simp [Lit.wf, IntKind.min, IntKind.max, IntKind.bits, IntKind.signed] at h
  exact ⟨x.toNat, by omega, by omega⟩
theorem Own.keptR {w w' : World} {base : Nat} {e : TypeId} {A : Option Addr} {n c : Nat} {xs : List Value} {row : Option Nat} (h : Own w base e A n c xs) (hg : w.grownBy w' row) (hne : ∀ k, blk A = some k → row ≠ some k) : Own w' base e A n c xs :=
  ⟨h.row.kept hg (by
    rw [blk_own]
    cases hb : blk A with
    | none => exact .inl rfl
    | some k => exact .inr (by have := hne k hb; exact fun e => this e.symm))⟩
theorem Own.cells_at {w : World} {base : Nat} {e : TypeId} {A : Option Addr} {n c : Nat} {xs : List Value} (h : Own w base e A n c xs) (k : Nat) (hk : blk A = some k) : base ≤ k ∧ ∃ cur, w.heap[k]? = some (.cells cur e (0, 0)) := by
  rcases h.row.2 with ⟨hv, h0⟩ | ⟨g, cap, cur, hv, hb, hg, _⟩
  · injection hv with hv; rw [hv] at hk; cases hk
  · injection hv with hv
    rw [hv] at hk
    injection hk with hk
    rw [← hk]
    exact ⟨hb, cur, hg⟩
theorem Own.ne_iter {H : Type} {w : World} {base : Nat} {e : TypeId} {A : Option Addr} {n c : Nat} {xs : List Value} {P : Program} {kt : TypeId} {R : Value → Option (DataW H × List MemPlace)} {b r n' cnt : Nat} {D : DataW H} {left : Lit → Bool} (h : Own w base e A n c xs) (hr : w.ranges P kt R b r n' D left cnt) (k : Nat) (hk : blk A = some k) : k ≠ r := by
  rintro rfl
  obtain ⟨_, cur, hc⟩ := h.cells_at k hk
  obtain ⟨es, clock, since, seen, c0, h1, h2, h3, h4, h5, _⟩ := hr
  rw [hc] at h5; cases h5
theorem Own.ne_map {H : Type} {w : World} {base : Nat} {e : TypeId} {A : Option Addr} {n c : Nat} {xs : List Value} {P : Program} {kt : TypeId} {R : Value → Option (DataW H × List MemPlace)} {b n' : Nat} {D : DataW H} (h : Own w base e A n c xs) (hr : w.ownsMap P kt R b n' D) (k : Nat) (hk : blk A = some k) : k ≠ b := by
  rintro rfl
  obtain ⟨_, cur, hc⟩ := h.cells_at k hk
  obtain ⟨es, clock, h1, _⟩ := hr
  rw [hc] at h1; cases h1
theorem foldl_take (f : List (Nat × Nat) → Nat → List (Nat × Nat)) (L : List (Nat × Nat)) (l : List Nat) (k : Nat) (h : k < l.length) : (l.take (k + 1)).foldl f L = f ((l.take k).foldl f L) (l.getD k 0) := by
  rw [List.take_succ_eq_append_getElem h, List.foldl_append, Bm.getD_lt _ _ _ h]
  rfl
/-- In the midst of Tick's first loop. -/
structure T1 (w wr : World) (P : Nat → Prop) (gW gM r n t : Nat) (D : DataW Unit) (L : List (Nat × Nat)) (left : Lit → Bool) (cnt : Nat) (A : Option Addr) (c : Nat) (l : List Nat) : Prop where
  rg : wr.ranges Try.prog 30 (plainElem Try.prog 3) gM r n D left cnt
  got : Got L t left l
  len : l.length + cnt ≤ n
  own : Own wr w.heap.size 30 A l.length c (N16 l)
  kr : Kr w wr P
  row : Blk wr gW 106 (wl t (some gM))
/-- In the midst of its second one. -/
structure T2 (w wr : World) (P : Nat → Prop) (gW gM n t : Nat) (L : List (Nat × Nat)) (A : Option Addr) (c : Nat) (l : List Nat) (k : Nat) : Prop where
  mp : ∃ D : DataW Unit, MapL D ((l.take k).foldl dropL L) ∧ wr.ownsMap Try.prog 30 (plainElem Try.prog 3) gM n D
  own : Own wr w.heap.size 30 A l.length c (N16 l)
  kr : Kr w wr P
  row : Blk wr gW 106 (wl t (some gM))
/-- What Tick gives. -/
def TickOk (w : World) (P : Nat → Prop) (gW t : Nat) (L : List (Nat × Nat)) (e : Ending) (w' : World) : Prop :=
  ∃ A c l, e = .returned (.slice A l.length c) ∧ Due L t l ∧ Own w' w.heap.size 30 A l.length c (N16 l) ∧ Kr w w' P ∧ WS w' P gW t (restL L t)

set_option maxHeartbeats 2000000 in
/-- (*Wheel).Tick. -/
theorem wTick (HSort : SortOk) (w : World) (P : Nat → Prop) (gW now t : Nat) (L : List (Nat × Nat)) (h : WS w P gW now L) (ht : t = now + 1) (hL : L.length < 50) (hn : now ≤ 1000000) :
    Calls Try.prog 26 #[.pointer (some ⟨gW, 0, none⟩)] w (TickOk w P gW t L) := by
  have H := Lib.hid h
  have HS := Lib.hid HSort
  obtain ⟨m, q, hm⟩ := h.blk
  have c0 : w.cell? ⟨gW, 0, none⟩ = some (.int .i64 (now : Int)) := (q.cell 0).trans rfl
  have et : (now : Int) + 1 = (t : Int) := by omega
  have htl : t ≤ 1000001 := by omega
  have HTN := Lib.hid ht
  clear h HSort ht
  rcases hm with ⟨rfl, rfl⟩ | ⟨gM, rfl, hPM, hne, hMp⟩
  · have hrg := fun W => run_range_nilMap (P := Try.prog) W 104 30 3 Try.underlying104
    have hnx : ∀ (W : World) ty, (Instr.next (.pointer (some ⟨W.heap.size, 0, none⟩)) false ty).run Try.prog (W.alloc (.mapIter none 0 #[] 0)) = _ := fun W ty => run_next_nilMap W ty 0 0 #[]
    have HQ := Lib.hid q
    go_enter Try.func26, Try.ntmps26
    go_wp2_with (first | (refine at_cell rfl 3 _ _ rfl gW 0 (.int .i64 (t : Int)) rfl rfl 106 _ q (show 0 < 2 by omega) (show (Try.prog.info? 3).map (·.size) = some 1 by kernel_rfl) rfl ?_; intro w2 U2; have k1 : w2.cell? ⟨gW, 1, none⟩ = some (.map none) := (U2.row.cell 1).trans rfl))
    refine wp_loop_rounds 1 ?_
    rw [rounds_succ]
    go_wp2
    refine wp_loop_rounds 1 ?_
    rw [rounds_succ]
    go_wp2_with (go_at_call 56; refine (HS.out w.heap.size 0 0 none 30 [] _ (Own.nil _ _ _) (by omega)).mono ?_; rintro e w3 ⟨rfl, m, hown3, hpm, hri, hg3⟩)
    go_ret
    have hm0 : m = [] := by simpa using hpm
    have hW3 : Kr w w3 P := by
      have h1 : Kr w w2 P := (Kr.refl w P).grown U2.grown (fun k e => by injection e with e; exact .inl (by rw [← e]; exact H.out.mine))
      have h2 := h1.grown (World.grownBy_alloc w2 (.mapIter none 0 #[] 0) none) (fun k e => by cases e)
      exact h2.grown hg3 (fun k e => by cases e)
    refine ⟨none, 0, [], rfl, ⟨List.Pairwise.nil, fun a => by simp⟩, Own.nil _ _ _, hW3, ⟨⟨none, ?_, .inl ⟨rfl, rfl⟩⟩, H.out.mine, fun k hk => Nat.lt_of_lt_of_le (H.out.lt k hk) hW3.size⟩⟩
    have q2 : Blk w2 gW 106 (wl t none) := U2.row
    exact (q2.grown (World.grownBy_alloc w2 (.mapIter none 0 #[] 0) none) (fun e => by cases e)).grown hg3 (fun e => by cases e)
  · obtain ⟨D, hD, hown⟩ := hMp
    have HD := Lib.hid hD
    have HPM := Lib.hid hPM
    have HNE := Lib.hid hne
    obtain ⟨n, hnn⟩ : ∃ n, L.length = n := ⟨_, rfl⟩
    have HN := Lib.hid hnn
    rw [hnn] at hown hL
    clear hD hPM hne hnn
    go_enter Try.func26, Try.ntmps26
    go_wp2_with (first
      | (refine at_cell rfl 3 _ _ rfl gW 0 (.int .i64 (t : Int)) rfl rfl 106 _ q (show 0 < 2 by omega) (show (Try.prog.info? 3).map (·.size) = some 1 by kernel_rfl) rfl ?_; intro w2 U2; have k1 : w2.cell? ⟨gW, 1, none⟩ = some (.map (some gM)) := (U2.row.cell 1).trans rfl; have hown2 := hown.kept U2.grown (fun e => HNE.out (by injection e)))
      | (at_range; refine wpList_range_own _ rfl _ 104 rfl 30 3 kNum Try.underlying104 _ gM n D rfl hown2 ?_; intro w0 hrg0 hg0 hs0)
      | go_in)
    go_frame
    have q2 : Blk w2 gW 106 (wl t (some gM)) := U2.row
    have hkr2 : Kr w w2 P := (Kr.refl w P).grown U2.grown (fun k e => by injection e with e; exact .inl (by rw [← e]; exact H.out.mine))
    have HT0 : Hid (T1 w w0 P gW gM w2.heap.size n t D L (Maps.has D) (Maps.size D) none 0 []) :=
      ⟨hrg0, Got.start HD.out t, by rw [HD.out.size, HN.out]; simp, Own.nil _ _ _, hkr2.grown hg0 (fun k e => by cases e), q2.grown hg0 (fun e => by cases e)⟩
    have HR2 := Lib.hid (show w.heap.size ≤ w2.heap.size from hkr2.size)
    have HRW := Lib.hid (show w2.heap.size ≠ gW by have := q2.lt; omega)
    obtain ⟨r, hr⟩ : ∃ r, r = w2.heap.size := ⟨_, rfl⟩
    rw [← hr] at HT0 HR2 HRW ⊢
    clear hr hrg0 hg0 hs0 q2 hkr2 k1 hown2 U2 c0 q hown
    go_loopw [3] (fun s3 wr => ∃ (left : Lit → Bool) (cnt : Nat) (A : Option Addr) (c : Nat) (l : List Nat), s3 = .slice A l.length c ∧ Hid (T1 w wr P gW gM r n t D L left cnt A c l)) (fun _ wr => wr.rangeLeft gM r)
    case atStart => exact ⟨_, _, none, 0, [], rfl, HT0⟩
    case round =>
      clear HT0
      obtain ⟨left, cnt, A, c, l, rfl, HT⟩ := hrel
      have hrg := HT.out.rg
      have k0 : wr.cell? ⟨gW, 0, none⟩ = some (.int .i64 (t : Int)) := (HT.out.row.cell 0).trans rfl
      go_wp2_with (first
        | (at_next; refine wpList_next_ranges_ii _ rfl _ rfl 30 3 .u16 .i64 kNum Try.underlying30 Try.underlying3 gM r n _ _ _ rfl hrg ?_ ?_)
        | go_in)
      · intro _ hl0
        have hall := HT.out.got.all hl0
        have HAL := Lib.hid hall
        have hln : l.length ≤ n := by have := HT.out.len; omega
        have HT2 : Hid (T2 w wr P gW gM n t L A c l 0) := ⟨⟨D, HD.out, hrg.owns⟩, HT.out.own, HT.out.kr, HT.out.row⟩
        clear HT hrg hall k0 hl0
        go_wp2_with fail
        go_loopw [39] (fun i wr2 => ∃ k : Nat, i = .int .i64 (k : Int) ∧ k ≤ l.length ∧ Hid (T2 w wr2 P gW gM n t L A c l k)) (fun i _ => l.length - (intOf i).toNat)
        case atStart => exact ⟨0, rfl, Nat.zero_le _, HT2⟩
        case round =>
          clear HT2
          obtain ⟨k, rfl, hk, HT2⟩ := hrel
          by_cases hlt : k < l.length
          · obtain ⟨b, off, hA, hlt2, hcell⟩ := HT2.out.own.rd.cell16 k hlt
            obtain ⟨a, haa⟩ : ∃ a, a = l.getD k 0 := ⟨_, rfl⟩
            rw [← haa] at hcell
            have hmem : a ∈ l := by rw [haa, Bm.getD_lt _ _ _ hlt]; exact List.getElem_mem hlt
            have ha : a < 65536 := HD.out.num (a, t) ((HAL.out.2 a).1 hmem)
            have hkey : keyOf Try.prog 30 (.int .u16 (a : Int)) = some (ky a) := Maps.keyOf_int_mk Try.underlying30 (wf16 ha)
            obtain ⟨D2, hD2, hown2⟩ := HT2.out.mp
            have HD2 := Lib.hid hD2
            have HAA := Lib.hid haa
            have k1 : wr.cell? ⟨gW, 1, none⟩ = some (.map (some gM)) := (HT2.out.row.cell 1).trans rfl
            clear hD2 haa hmem
            obtain ⟨nl, hnl⟩ : ∃ nl, nl = l.length := ⟨_, rfl⟩
            have HNL := Lib.hid hnl
            subst hA
            go_wp2_with (first
              | (at_delete; refine wpList_delete_own _ rfl _ _ 104 30 rfl 3 kNum Try.underlying104 _ gM n D2 rfl hown2 _ _ rfl hkey ?_; intro w5 hown5 hturn5)
              | go_in)
            have hg5 := hturn5.grown
            go_roundw
            case rel =>
              refine ⟨k + 1, by go_num, by omega, ⟨⟨D2.del (ky a), ?_, hown5⟩, HT2.out.own.keptR hg5 (fun g e e2 => HT2.out.own.ne_map hown2 g e (by injection e2 with e2; exact e2.symm)), HT2.out.kr.grown hg5 (fun g e => by injection e with e; exact .inl (by rw [← e]; exact HPM.out)), HT2.out.row.grown hg5 (fun e => HNE.out (by injection e))⟩⟩
              rw [foldl_take dropL L l k hlt, ← HAA.out]
              exact HD2.out.drop a
            case measure => simp [intOf]; omega
          · obtain rfl : k = l.length := by omega
            have hl50 : l.length < 50 := by omega
            go_wp2_with (go_at_call 56; refine (HS.out w.heap.size l.length c A 30 l _ HT2.out.own hl50).mono ?_; rintro e w6 ⟨rfl, m, hown6, hpm, hri, hg6⟩)
            go_ret
            have hml : m.length = l.length := hpm.length_eq
            obtain ⟨D2, hD2, hown2⟩ := HT2.out.mp
            rw [List.take_length, drop_all HD.out.nodup HAL.out.2] at hD2
            have hk6 : Kr w w6 P := HT2.out.kr.grown hg6 (fun g e => .inr (HT2.out.own.cells_at g e).1)
            have hmW : ∀ g, blk A = some g → g ≠ gW := fun g e e2 => by
              have h1 := (HT2.out.own.cells_at g e).1
              have h2 := H.out.lt gW H.out.mine
              omega
            refine ⟨A, c, m, by rw [hml]; rfl, due_of HAL.out hpm hri, hown6.to hml.symm rfl, hk6, ⟨⟨some gM, HT2.out.row.grown hg6 (fun e => hmW gW e rfl), .inr ⟨gM, rfl, HPM.out, HNE.out, ?_⟩⟩, H.out.mine, fun k hk => Nat.lt_of_lt_of_le (H.out.lt k hk) hk6.size⟩⟩
            exact MpL.of hD2 (hown2.kept hg6 (fun e => HT2.out.own.ne_map hown2 gM e.symm rfl))
      · intro x ct w1 cnt1 hwx hwc hlx hat hrg1 hlt hg1 hs1 hen
        obtain ⟨a, rfl, ha⟩ := wf16_inv hwx
        have hhas : Maps.has D (ky a) = true := Maps.has_true_of_atKey hat
        obtain ⟨cc, hcc, hval⟩ := has_left HD.out hhas
        have ec : ct = (cc : Int) := by
          have h1 := hat (tk 0)
          have h2 := hval (tk 0)
          have h3 : (DataW.lit (Lit.int .i64 ct) : DataW Unit) = tk cc := h1.symm.trans h2
          unfold tk at h3
          injection h3 with h3
          injection h3 with _ h3
        subst ec
        have HCC := Lib.hid hcc
        have HLX : Hid (left (ky a) = true) := hlx
        have own1 := HT.out.own.keptR hg1 (fun g e e2 => HT.out.own.ne_iter hrg g e (by injection e2 with e2; exact e2.symm))
        have q1 := HT.out.row.grown hg1 (fun e => HRW.out (by injection e))
        have kr1 := HT.out.kr.grown hg1 (fun g e => by injection e with e; exact .inr (by rw [← e]; exact HR2.out))
        have HQ1 := Lib.hid q1
        have HK1 := Lib.hid kr1
        have HRG := Lib.hid hrg1
        have k01 : w1.cell? ⟨gW, 0, none⟩ = some (.int .i64 (t : Int)) := (q1.cell 0).trans rfl
        have hsz1 : w.heap.size ≤ w1.heap.size := kr1.size
        have HLE := Lib.hid HT.out.len
        clear hcc hhas hval hwx hwc hat hlx q1 kr1 k0 hg1 hs1
        by_cases hct : cc = t
        · have hct' : ((cc : Int) == (t : Int)) = true := by simp [hct]
          have hln : l.length ≤ 1000000 := by have := HLE.out; omega
          go_wp2_with (first
            | (at_builtin; refine app16 _ rfl _ _ rfl w.heap.size _ _ _ _ a _ rfl rfl own1 rfl hln hsz1 ?_; intro A6 c6 w6 own6 hgr6)
            | go_in)
          have hA6 : ∀ g, (Value.slice A l.length c).ownBlock = some g → g ≠ r ∧ g ≠ gM ∧ g ≠ gW := fun g e => by
            rw [blk_own] at e
            refine ⟨own1.ne_iter HRG.out g e, own1.ne_map HRG.out.owns g e, fun e2 => ?_⟩
            have h1 := (own1.cells_at g e).1
            have h2 := H.out.lt gW H.out.mine
            omega
          have hrg6 := HRG.out.kept hgr6 (fun e => (hA6 gM e.symm).2.1 rfl) (fun e => (hA6 r e.symm).1 rfl)
          go_roundw
          case rel =>
            exact ⟨_, cnt1, A6, c6, l ++ [a], by rw [List.length_append]; rfl, ⟨hrg6, HT.out.got.yes HLX.out (by rw [← hct]; exact HCC.out), by rw [List.length_append]; have := HLE.out; simp only [List.length_cons, List.length_nil]; omega, own6.to (by rw [List.length_append]; rfl) rfl, HK1.out.grown hgr6 (fun g e => by rw [blk_own] at e; exact .inr (own1.cells_at g e).1), HQ1.out.grown hgr6 (fun e => (hA6 gW e).2.2 rfl)⟩⟩
          case measure => rw [hrg6.left_eq, hrg.left_eq]; exact hlt
        · have hct' : ((cc : Int) == (t : Int)) = false := by simp; omega
          go_wp2_with go_in
          go_roundw
          case rel => exact ⟨_, cnt1, A, c, l, rfl, ⟨HRG.out, HT.out.got.no HD.out.nodup HCC.out hct, by have := HLE.out; omega, own1, HK1.out, HQ1.out⟩⟩
          case measure => rw [HRG.out.left_eq, hrg.left_eq]; exact hlt
end Go.Proofs.Ytkmacepodomdmaa
