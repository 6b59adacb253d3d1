/-
  Layer 26 (datagrams under way): a Channel: Take, Twice.
-/
import Derived.Test.YtkmacepodomdmaaEd
namespace Go.Proofs.Ytkmacepodomdmaa
open Go.RowKit
set_option maxRecDepth 100000
set_option linter.unusedVariables false
set_option linter.unusedSimpArgs false
set_option maxRecDepth 100000

/-- A text's bytes. -/
def byt (s : ByteArray) : List Nat := s.data.toList.map (·.toNat)
theorem byt_len (s : ByteArray) : (byt s).length = s.size := by unfold byt; rw [List.length_map, Array.length_toList]; rfl
theorem byt_lt (s : ByteArray) : ∀ x ∈ byt s, x < 256 := by
  intro x hx
  obtain ⟨u, _, rfl⟩ := List.mem_map.1 hx
  exact u.toNat_lt
theorem str_byt (s : ByteArray) : str (byt s) = s := by
  obtain ⟨⟨l⟩⟩ := s
  simp only [str, strOfNums, byt, List.map_map]
  congr 1
  congr 1
  have : ∀ l : List UInt8, l.map ((fun n : Int => UInt8.ofNat n.toNat) ∘ ((fun (b : Nat) => (b : Int)) ∘ fun x : UInt8 => x.toNat)) = l := by
    intro l
    induction l with
    | nil => rfl
    | cons b l ih => rw [List.map_cons, ih]; simp
  exact this l
section
variable {P : Program} {ops : Array Oper} {rest : List Oper} {o : Oper} {a : Act} {w : World} {Q : Exit → Act → World → Prop}
/-- '[]byte(s)'. -/
theorem at_convSB (hgd : o.guard = none) (src dst e : TypeId) (x : Operand) (ho : o.op = .convert src dst x) (s : ByteArray) (hx : a.eval x = .string s) (hs : P.underlying src = some .string) (hd : P.underlying dst = some (.slice e)) (he : P.underlying e = some (.int .u8))
    (h : ∀ c w', Rd w' w'.heap.size (some ⟨w.heap.size, 0, none⟩) s.size (U8 (byt s)) → Below w.heap.size w w' → w'.heap.size = w.heap.size + 1 → wpList P ops Q rest (a.put o.dst (.slice (some ⟨w.heap.size, 0, none⟩) s.size c)) w') : wpList P ops Q (o :: rest) a w := by
  refine wpList_plain hgd fun K hK => ?_
  unfold Oper.wp execOp
  simp only [ho, hx, Sem.run_bind, run_bytes_of_string w src dst e s hs hd he, Result.andThen_ok, Sem.run_pure]
  refine hK _ _ (h _ _ ⟨?_, fun hn => ⟨w.heap.size, 0, rfl, by simp, fun i u hu => ?_⟩⟩ ?_ (by simp))
  · rw [U8_length, byt_len]
  · have hi : i < s.data.size := by
      have := (List.getElem?_eq_some_iff.1 hu).1
      rw [U8_length, byt_len] at this
      exact this
    have hu2 : u = .int .u8 (s.data[i].toNat : Int) := by
      unfold U8 byt at hu
      rw [List.getElem?_map, List.getElem?_map, Array.getElem?_toList, Array.getElem?_eq_getElem hi] at hu
      simpa using hu.symm
    rw [hu2, Nat.zero_add]
    generalize (bytesRow s (grownCap w s.size 0 e)).size = z1
    have h1 : (w.drew.alloc (.cells (bytesRow s (grownCap w s.size 0 e)) e (z1, z1 + 1))).heap[w.heap.size]? = some (.cells (bytesRow s (grownCap w s.size 0 e)) e (z1, z1 + 1)) := by
      show (w.heap.push _)[w.heap.size]? = _
      simp
    simp only [World.cell?, h1]
    exact bytesRow_at s _ i hi
  · exact (Below.refl w.heap.size w).drew.alloc (Nat.le_refl _) _
end
theorem zeroFlight : (Try.prog.info? 71).bind (fun i => i.zero.map (fun z => z.cells)) = some #[.slice none 0 0, .slice none 0 0, .int .i64 0] := by kernel_rfl
theorem infoFlight (a b c : Value) : (Try.prog.info? 71).map (·.size) = some (#[a, b, c] : Array Value).size := (show (Try.prog.info? 71).map (·.size) = some 3 by kernel_rfl)
/-- What Take gives. -/
def TakeO (w : World) (P : Nat → Prop) (gC age now : Nat) (L : List Fy) (k : Nat) (x : Fy) (e : Ending) (w' : World) : Prop :=
  ∃ A1 n1 c1 A2 n2 c2, e = .returned (.tuple #[.agg #[.slice A1 n1 c1, .slice A2 n2 c2, .int .i64 (x.since : Int)], .int .i64 0]) ∧ Rd w' w'.heap.size A1 n1 (U8 (byt x.b)) ∧ Rd w' w'.heap.size A2 n2 (U8 (byt x.was)) ∧ (A1 = none → n1 = 0) ∧ (A2 = none → n2 = 0) ∧ Kr w w' P ∧ CH w' P gC age now (outK L k) ∧ (∀ j, blk A1 = some j → ¬ P j) ∧ ∀ j, blk A2 = some j → ¬ P j
theorem Kr.trans_ {w w1 w2 : World} {P : Nat → Prop} (h : Kr w w1 P) (h2 : Kr w1 w2 P) : Kr w w2 P :=
  ⟨h2.os.trans h.os, h2.tape.trans h.tape, h2.output.trans h.output, Nat.le_trans h.size h2.size, fun k hk hp => (h2.block k (Nat.lt_of_lt_of_le hk h.size) hp).trans (h.block k hk hp)⟩
set_option maxHeartbeats 1000000 in
/-- Take. -/
theorem chTake (w : World) (P : Nat → Prop) (gC age now : Nat) (L : List Fy) (k : Nat) (h : CH w P gC age now L) (hk : k < L.length) (hL : L.length ≤ 1000000) :
    Calls Try.prog 35 #[.pointer (some ⟨gC, 0, none⟩), .int .i64 (k : Int)] w (TakeO w P gC age now L k L[k]) := by
  have HLT := Lib.hid h.lt
  have HG := Lib.hid (show gC < w.heap.size from h.lt gC h.mine)
  have CHS := Lib.hid (fun W (hb : Below w.heap.size w W) => chHas W P gC age now L (k : Int) (h.after hb))
  rw [decide_eq_true (show 0 ≤ (k : Int) ∧ (k : Int) < (L.length : Int) by omega)] at CHS
  have CDR := Lib.hid (fun W (hb : Below w.heap.size w W) => chDrop W P gC age now L k (h.after hb) hk hL)
  obtain ⟨A, c, q, own, hA⟩ := h.blk
  obtain ⟨g, hA', _, hgw, hcell⟩ := own.cells (by omega)
  subst hA'
  have HC : Hid (∀ W, Below w.heap.size w W → W.rangeAt g (3 * k) (FE L[k]).toList) := fun W hW j u hu => (hW.cell (p := ⟨g, 3 * k + j, none⟩) hgw).trans (hcell _ _ (D3_get L k hk j u (by rw [← Array.getElem?_toList]; exact hu)))
  have ix := fun W => run_idxR (P := Try.prog) (sz := 3) Try.underlying111 chDelInfo g 0 L.length c k hk .i64 W
  simp only [Nat.zero_add] at ix
  have HK2 : Hid (∀ W, Below w.heap.size w W → W.cell? ⟨gC, 2, none⟩ = some (.slice (some ⟨g, 0, none⟩) L.length c)) := fun W hW => ((q.after hW).cell 2).trans rfl
  obtain ⟨x, hx⟩ : ∃ x, x = L[k] := ⟨_, rfl⟩
  rw [← hx] at HC ⊢
  obtain ⟨n, hn⟩ : ∃ n, n = L.length := ⟨_, rfl⟩
  rw [← hn] at ix HK2 hk hL
  have iE := infoFE x
  have hone := FE_one x
  have hEs : (FE x).size = 3 := rfl
  clear h q own hA hcell hx hn
  go_enter Try.func35, Try.ntmps35
  go_upto_region 1 with (refine at_alloc rfl 71 rfl _ zeroFlight ?_; intro w1 L1)
  have b1 := L1.bel
  have q4 := L1.row
  obtain ⟨g4, hg4⟩ : ∃ g, g = w.heap.size := ⟨_, rfl⟩
  have HG4 : Hid (w.heap.size ≤ g4) := by unfold Hid; omega
  rw [← hg4] at q4 ⊢
  have k2 := HK2.out w1 b1
  have hr := HC.out w1 b1
  clear L1 hg4
  go_upto_region 4 with (first
    | (go_at_call 58; refine (CHS.out w1 b1).mono ?_; rintro e w' ⟨rfl, rfl⟩)
    | (refine at_load_mid rfl 115 _ rfl g (3 * k) rfl (FE x) _ hr Try.underlying115 rfl iE ?_)
    | (refine at_alloc rfl 115 rfl _ chZero ?_; intro w2 L2)
    | (refine at_store rfl 115 _ _ rfl w1.heap.size (FE x) rfl rfl 115 _ L2.row iE (by rw [chZsize, hEs]) hone ?_; intro w3 H3))
  have b13 : Below w1.heap.size w1 w3 := L2.bel.trans (H3.below (Nat.le_refl _))
  have b3 : Below w.heap.size w w3 := Below.then_ b1 b13
  have q43 := q4.after b13
  have p3 := H3.row
  obtain ⟨g6, hg6⟩ : ∃ g, g = w1.heap.size := ⟨_, rfl⟩
  have HG6 : Hid (w.heap.size ≤ g6 ∧ g4 < g6) := by unfold Hid; have := b1.size; have := q4.lt; omega
  rw [← hg6] at p3 ⊢
  clear L2 H3 hg6 b13 q4 k2 hr
  go_upto_region 5 with (go_at_call 60; refine (CDR.out w3 b3).mono ?_; rintro e w5 ⟨rfl, K5, C5⟩)
  have HN4 : Hid (¬ P g4) := fun hp => by have := HLT.out g4 hp; have := HG4.out; omega
  have HN6 : Hid (¬ P g6) := fun hp => by have := HLT.out g6 hp; have := HG6.out; omega
  have q45 : Blk w5 g4 71 #[.slice none 0 0, .slice none 0 0, .int .i64 0] := (K5.block g4 q43.lt HN4.out).trans q43
  have p5 : Blk w5 g6 115 (FE x) := (K5.block g6 p3.lt HN6.out).trans p3
  have HK5 := Lib.hid (Kr.trans_ (Kr.of_below b3 : Kr w w3 P) K5)
  have HC5 := Lib.hid C5
  have d0 : w5.cell? ⟨g6, 0, none⟩ = some (.string x.b) := (p5.cell 0).trans rfl
  have HP5 := Lib.hid p5
  have hl4 := q45.lt
  have hl6 := p5.lt
  clear K5 C5 q43 p3 b3 b1 iE hone hEs p5
  go_wp2_with (first
    | (refine at_store rfl 71 _ _ rfl g4 #[.slice (some ⟨w5.heap.size, 0, none⟩) x.b.size c6, .slice (some ⟨w6.heap.size, 0, none⟩) x.was.size c7, .int .i64 (x.since : Int)] rfl rfl 71 _ q47 (infoFlight _ _ _) rfl (by simp [Value.oneCell']) ?_; intro w8 H8)
    | (refine at_convSB rfl 9 69 5 _ rfl x.was rfl Try.underlying9 Try.underlying69 Try.underlying5 ?_; intro c7 w7 r7 b7 s7; clear s7; have q47 := (q45.after b6).after b7; have e2 : w7.cell? ⟨g6, 2, none⟩ = some (.int .i64 (x.since : Int)) := (((HP5.out.after b6).after b7).cell 2).trans rfl)
    | (refine at_convSB rfl 9 69 5 _ rfl x.b rfl Try.underlying9 Try.underlying69 Try.underlying5 ?_; intro c6 w6 r6 b6 s6; clear s6; have e1 : w6.cell? ⟨g6, 1, none⟩ = some (.string x.was) := ((HP5.out.after b6).cell 1).trans rfl))
  refine bodyPost_ret (v := .tuple #[.agg #[.slice (some ⟨w5.heap.size, 0, none⟩) x.b.size c6, .slice (some ⟨w6.heap.size, 0, none⟩) x.was.size c7, .int .i64 (x.since : Int)], .int .i64 0]) (results_row_tmp rfl _ _ g4 71 _ _ rfl _ rfl H8.row Try.underlying71 rfl (infoFlight _ _ _)) rfl ?_
  have b57 : Below w5.heap.size w5 w7 := Below.then_ b6 b7
  have hkr : Kr w w8 P := by
    have h1 := Kr.trans_ HK5.out (Kr.of_below b57 : Kr w5 w7 P)
    refine ⟨H8.os.trans h1.os, H8.tape.trans h1.tape, H8.output.trans h1.output, by rw [H8.size]; exact h1.size, fun j hj hp => (H8.oth j (by have := HG4.out; omega)).trans (h1.block j hj hp)⟩
  have hch : CH w8 P gC age now (outK L k) := (HC5.out.after b57).of_heap (fun j hj => H8.oth j (fun e => HN4.out (by rw [← e]; exact hj))) (by rw [H8.size]; exact Nat.le_refl _)
  have rd8 : ∀ {b m : Nat} {xs : List Value}, b ≠ g4 → Rd w7 w7.heap.size (some ⟨b, 0, none⟩) m xs → Rd w8 w8.heap.size (some ⟨b, 0, none⟩) m xs := fun hne hr => ⟨hr.len, fun hn => by
    obtain ⟨b', off', e, hlt, hc⟩ := hr.at_ hn
    injection e with e
    injection e with e1 e2
    subst e1 e2
    exact ⟨_, 0, rfl, by rw [H8.size]; exact hlt, fun i u hu => (World.cell?_of_block (a := ⟨_, 0 + i, none⟩) (H8.oth _ hne)).trans (hc i u hu)⟩⟩
  have hs6 := b6.size
  exact ⟨_, _, _, _, _, _, rfl, rd8 (by omega) ((r6.below b7).up b7.size), rd8 (by omega) r7, fun e => (by cases e), fun e => (by cases e), hkr, hch, fun j e hp => by injection e with e; have e2 : w5.heap.size = j := e; have := HLT.out j hp; have := HK5.out.size; omega, fun j e hp => by injection e with e; have e2 : w6.heap.size = j := e; have := HLT.out j hp; have := HK5.out.size; omega⟩
set_option maxHeartbeats 400000 in
theorem chTwiceNo (w : World) (P : Nat → Prop) (gC age now : Nat) (L : List Fy) (k : Int) (h : CH w P gC age now L) (hk : ¬ (0 ≤ k ∧ k < (L.length : Int))) :
    Calls Try.prog 39 #[.pointer (some ⟨gC, 0, none⟩), .int .i64 k] w fun e w' => e = .returned (.int .i64 9) ∧ w = w' := by
  have CHS := Lib.hid (chHas w P gC age now L k h)
  rw [decide_eq_false hk] at CHS
  clear h hk
  go_enter Try.func39, Try.ntmps39
  go_wp2_with (first
    | (go_at_call 58; refine CHS.out.mono ?_; rintro e w' ⟨rfl, rfl⟩)
    | (go_at_call 59; refine (chNone _ _).mono ?_; rintro e w' ⟨rfl, rfl⟩))
  go_ret
  exact ⟨rfl, rfl⟩
set_option maxHeartbeats 400000 in
theorem chTwiceFull (w : World) (P : Nat → Prop) (gC age now : Nat) (L : List Fy) (k : Nat) (h : CH w P gC age now L) (hk : k < L.length) (hf : 4096 ≤ L.length) :
    Calls Try.prog 39 #[.pointer (some ⟨gC, 0, none⟩), .int .i64 (k : Int)] w fun e w' => e = .returned (.int .i64 8) ∧ w = w' := by
  have CHS := Lib.hid (chHas w P gC age now L (k : Int) h)
  rw [decide_eq_true (show 0 ≤ (k : Int) ∧ (k : Int) < (L.length : Int) by omega)] at CHS
  have CF := Lib.hid (chFull w P gC age now L h)
  rw [decide_eq_true hf] at CF
  clear h hk hf
  go_enter Try.func39, Try.ntmps39
  go_wp2_with (first
    | (go_at_call 58; refine CHS.out.mono ?_; rintro e w' ⟨rfl, rfl⟩)
    | (go_at_call 57; refine CF.out.mono ?_; rintro e w' ⟨rfl, rfl⟩))
  go_ret
  exact ⟨rfl, rfl⟩
set_option maxHeartbeats 2000000 in
/-- Twice. -/
theorem chTwice (w : World) (P : Nat → Prop) (gC age now : Nat) (L : List Fy) (k : Nat) (h : CH w P gC age now L) (hk : k < L.length) (hf : L.length < 4096) :
    Calls Try.prog 39 #[.pointer (some ⟨gC, 0, none⟩), .int .i64 (k : Int)] w fun e w' =>
      e = .returned (.int .i64 0) ∧ Kr w w' P ∧ ∃ P' : Nat → Prop, CH w' P' gC age now (L ++ [L[k]]) ∧ ∀ j, P' j → P j ∨ w.heap.size ≤ j := by
  have CHS := Lib.hid (chHas w P gC age now L (k : Int) h)
  rw [decide_eq_true (show 0 ≤ (k : Int) ∧ (k : Int) < (L.length : Int) by omega)] at CHS
  have CF := Lib.hid (chFull w P gC age now L h)
  rw [decide_eq_false (by omega)] at CF
  obtain ⟨A, c, q, own, hA⟩ := h.blk
  obtain ⟨g, hA', _, hgw, hcell⟩ := own.cells (by omega)
  subst hA'
  obtain ⟨i3, hi3, hz0, hz1, hz2⟩ := info_parts infoFl3
  have HC : Hid (∀ W, Below w.heap.size w W → ∀ j u, (FE L[k])[j]? = some u → W.cell? ⟨g, 3 * k + j, none⟩ = some u) := fun W hW j u hu => (hW.cell (p := ⟨g, 3 * k + j, none⟩) hgw).trans (hcell _ _ (D3_get L k hk j u hu))
  obtain ⟨n, hnL⟩ : ∃ n, n = L.length := ⟨_, rfl⟩
  have HNL := Lib.hid hnL
  have HMi := Lib.hid h.mine
  have HLT := Lib.hid h.lt
  have HA := Lib.hid hA
  obtain ⟨x, hx⟩ : ∃ x, x = L[k] := ⟨_, rfl⟩
  rw [← hx] at HC ⊢
  rw [← hnL] at q own hf hk
  have ix := fun W => run_idxR (P := Try.prog) (sz := 3) Try.underlying111 chDelInfo g 0 n c k hk .i64 W
  simp only [Nat.zero_add] at ix
  have HQ := Lib.hid q
  have HO := Lib.hid own
  have HAN : Hid (blk (some (⟨g, 0, none⟩ : Addr)) ≠ some gC) := fun e => (hA gC e).2 rfl
  have HK2 : Hid (∀ W, Below w.heap.size w W → W.cell? ⟨gC, 2, none⟩ = some (.slice (some ⟨g, 0, none⟩) n c)) := fun W hW => ((q.after hW).cell 2).trans rfl
  have HX0 : Hid (∀ W, Below w.heap.size w W → W.cell? ⟨g, 3 * k, none⟩ = some (.string x.b)) := fun W hW => HC.out W hW 0 _ rfl
  have HX1 : Hid (∀ W, Below w.heap.size w W → W.cell? ⟨g, 3 * k + 1, none⟩ = some (.string x.was)) := fun W hW => HC.out W hW 1 _ rfl
  have HX2 : Hid (∀ W, Below w.heap.size w W → W.cell? ⟨g, 3 * k + 2, none⟩ = some (.int .i64 (x.since : Int))) := fun W hW => HC.out W hW 2 _ rfl
  have FIN : Hid (∀ (x1 x3 x4 : World) (A3 : Option Addr) (c3 : Nat), Below w.heap.size w x1 → x1.grownBy x3 (Value.slice (some ⟨g, 0, none⟩) n c).ownBlock → OwnR x3 0 115 3 A3 (n + 1) c3 (D3 L ++ (#[.string x.b, .string x.was, .int .i64 (x.since : Int)] : Array Value).toList) → (blk A3 = blk (some (⟨g, 0, none⟩ : Addr)) ∨ blk A3 = some x1.heap.size) → Upd x3 x4 gC 113 (chl age now A3 (n + 1) c3) →
      Kr w x4 P ∧ ∃ P' : Nat → Prop, CH x4 P' gC age now (L ++ [x]) ∧ ∀ j, P' j → P j ∨ w.heap.size ≤ j) := by
    intro x1 x3 x4 A3 c3 b1 g3 o3 l3 u4
    rw [blk_own] at g3
    have hs1 := b1.size
    have hs3 := g3.size
    have hs4 := u4.size
    have hA3 : ∀ k, blk A3 = some k → (P k ∨ w.heap.size ≤ k) ∧ k ≠ gC := fun k hk => by
      rcases l3 with e | e
      · rw [e] at hk
        exact ⟨.inl (HA.out k hk).1, (HA.out k hk).2⟩
      · rw [e] at hk
        injection hk with hk
        have := HLT.out gC HMi.out
        exact ⟨.inr (by omega), by omega⟩
    have hkr : Kr w x4 P := by
      refine ⟨?_, ?_, ?_, by omega, fun k hk hp => ?_⟩
      · rw [u4.os, g3.os, b1.os]
      · rw [u4.tape, g3.tape, b1.tape]
      · rw [u4.output, g3.output, b1.output]
      · have hkg : k ≠ gC := fun e => hp (by rw [e]; exact HMi.out)
        have hka : blk (some (⟨g, 0, none⟩ : Addr)) ≠ some k := fun e => hp (HA.out k e).1
        exact (u4.oth k hkg).trans ((g3.block k (by omega) (fun e => hka e.symm)).trans (b1.block k hk))
    refine ⟨hkr, fun k => (P k ∨ w.heap.size ≤ k) ∧ k < x4.heap.size, ⟨⟨A3, c3, ?_, ?_, fun k hk => ?_⟩, ⟨.inl HMi.out, u4.row.lt⟩, fun k hk => hk.2⟩, fun k hk => hk.1⟩
    · rw [List.length_append, List.length_singleton, ← HNL.out]; exact u4.row
    · rw [List.length_append, List.length_singleton, ← HNL.out, D3_append]
      exact (o3.heap (fun k hk => u4.oth k (hA3 k hk).2))
    · have := (o3.blkLt k hk).2
      exact ⟨⟨(hA3 k hk).1, by omega⟩, (hA3 k hk).2⟩
  obtain ⟨xb, hxb⟩ : ∃ xb, xb = x.b := ⟨_, rfl⟩
  obtain ⟨xw, hxw⟩ : ∃ xw, xw = x.was := ⟨_, rfl⟩
  obtain ⟨xs, hxs⟩ : ∃ xs, xs = x.since := ⟨_, rfl⟩
  rw [← hxb, ← hxw, ← hxs] at FIN
  rw [← hxb] at HX0
  rw [← hxw] at HX1
  rw [← hxs] at HX2
  clear h q own hA hnL hcell HC hx hxb hxw hxs
  go_enter Try.func39, Try.ntmps39
  go_upto_region 5 with (first
    | (go_at_call 58; refine CHS.out.mono ?_; rintro e w' ⟨rfl, rfl⟩)
    | (go_at_call 57; refine CF.out.mono ?_; rintro e w' ⟨rfl, rfl⟩))
  refine wp_region_noPanic ?_
  refine wp_region_held_drew (S := fun _ => True) (by kernel_rfl) trivial (fun hHeld => ?_)
  refine wpAnyH_take (i := 0) (oi := ⟨some 13, _, _, _, _, _⟩) (v := ?_) rfl (by kernel_rfl) (by kernel_rfl) (by kernel_rfl) (fun _ _ _ h => h) (Or.inl ⟨by rfl, ?_⟩) hHeld ?_
  rotate_left
  · intro W hSW; have hSW0 := hSW; go_simp; first | done | with_reducible rfl
  (try simp only [Act.put, List.setIfInBounds_toArray, List.set_cons_zero, List.set_cons_succ])
  refine wpAnyH_take (i := 1) (oi := ⟨some 14, _, _, _, _, _⟩) (v := ?_) rfl (by kernel_rfl) (by kernel_rfl) (by kernel_rfl) (fun _ _ _ h => h) (Or.inl ⟨by rfl, ?_⟩) hHeld ?_
  rotate_left
  · intro W hSW; have hSW0 := hSW; go_simp; first | done | with_reducible rfl
  (try simp only [Act.put, List.setIfInBounds_toArray, List.set_cons_zero, List.set_cons_succ])
  refine wpAnyH_take (i := 2) (oi := ⟨some 15, _, _, _, _, _⟩) (v := ?_) rfl (by kernel_rfl) (by kernel_rfl) (by kernel_rfl) (fun _ _ _ h => h) (Or.inl ⟨by rfl, ?_⟩) hHeld ?_
  rotate_left
  · intro W hSW; have hSW0 := hSW; go_simp; first | done | with_reducible rfl
  (try simp only [Act.put, List.setIfInBounds_toArray, List.set_cons_zero, List.set_cons_succ])
  refine wpAnyH_take (i := 3) (oi := ⟨some 16, _, _, _, _, _⟩) (v := ?_) rfl (by kernel_rfl) (by kernel_rfl) (by kernel_rfl) (fun _ _ _ h => h) (Or.inl ⟨by rfl, ?_⟩) hHeld ?_
  rotate_left
  · intro W hSW; have hSW0 := hSW; go_simp; first | done | with_reducible rfl
  (try simp only [Act.put, List.setIfInBounds_toArray, List.set_cons_zero, List.set_cons_succ])
  refine wpAnyH_take (i := 5) (oi := ⟨some 18, _, _, _, _, _⟩) (v := ?_) rfl (by kernel_rfl) (by kernel_rfl) (by kernel_rfl) (fun _ _ _ h => h) (Or.inl ⟨by rfl, ?_⟩) hHeld ?_
  rotate_left
  · intro W hSW; have hSW0 := hSW; go_simp; first | done | with_reducible rfl
  (try simp only [Act.put, List.setIfInBounds_toArray, List.set_cons_zero, List.set_cons_succ])
  refine wpAnyH_take (i := 6) (oi := ⟨some 19, _, _, _, _, _⟩) (v := ?_) rfl (by kernel_rfl) (by kernel_rfl) (by kernel_rfl) (fun _ _ _ h => h) (Or.inl ⟨by rfl, ?_⟩) hHeld ?_
  rotate_left
  · intro W hSW; have hSW0 := hSW; go_simp; first | done | with_reducible rfl
  (try simp only [Act.put, List.setIfInBounds_toArray, List.set_cons_zero, List.set_cons_succ])
  refine wpAnyH_take (i := 7) (oi := ⟨some 20, _, _, _, _, _⟩) (v := ?_) rfl (by kernel_rfl) (by kernel_rfl) (by kernel_rfl) (fun _ _ _ h => h) (Or.inl ⟨by rfl, ?_⟩) hHeld ?_
  rotate_left
  · intro W hSW; have hSW0 := hSW; go_simp; first | done | with_reducible rfl
  (try simp only [Act.put, List.setIfInBounds_toArray, List.set_cons_zero, List.set_cons_succ])
  refine wpAnyH_take (i := 9) (oi := ⟨some 22, _, _, _, _, _⟩) (v := ?_) rfl (by kernel_rfl) (by kernel_rfl) (by kernel_rfl) (fun _ _ _ h => h) (Or.inl ⟨by rfl, ?_⟩) hHeld ?_
  rotate_left
  · intro W hSW; have hSW0 := hSW; go_simp; first | done | with_reducible rfl
  (try simp only [Act.put, List.setIfInBounds_toArray, List.set_cons_zero, List.set_cons_succ])
  refine wpAnyH_ready (rs := [4, 8]) (by kernel_rfl) (by simp) ?_
  refine AllReadyH.cons (o := ⟨some 17, _, _, _, _, _⟩) rfl (fun K hK => ?_) (AllReadyH.cons (o := ⟨some 21, _, _, _, _, _⟩) rfl (fun K hK => ?_) (AllReadyH.nil))
  · have kx := HK2.out w.drew (Below.refl _ _).drew
    go_simp
    clear hHeld kx
    refine hK.out _ _ ?_ (fun hHeld => ?_)
    · trivial
    clear hK K
    (try simp only [Act.put, List.setIfInBounds_toArray, List.set_cons_zero, List.set_cons_succ])
    refine wpAnyH_ready (rs := [8]) (by kernel_rfl) (by simp) ?_
    refine AllReadyH.cons (o := ⟨some 21, _, _, _, _, _⟩) rfl (fun K hK => ?_) (AllReadyH.nil)
    have kx := HK2.out w.drew (Below.refl _ _).drew
    go_simp
    clear hHeld kx
    refine hK.out _ _ ?_ (fun hHeld => ?_)
    · trivial
    clear hK K
    (try simp only [Act.put, List.setIfInBounds_toArray, List.set_cons_zero, List.set_cons_succ])
    refine wpAnyH_take (i := 10) (oi := ⟨some 23, _, _, _, _, _⟩) (v := ?_) rfl (by kernel_rfl) (by kernel_rfl) (by kernel_rfl) (fun _ _ _ h => h) (Or.inl ⟨by rfl, ?_⟩) hHeld ?_
    rotate_left
    · intro W hSW; have hSW0 := hSW; go_simp; first | done | with_reducible rfl
    (try simp only [Act.put, List.setIfInBounds_toArray, List.set_cons_zero, List.set_cons_succ])
    refine wpAnyH_ready (rs := [11]) (by kernel_rfl) (by simp) ?_
    refine AllReadyH.cons (o := ⟨some 24, _, _, _, _, _⟩) rfl (fun K hK => ?_) (AllReadyH.nil)
    have kx0 := HX0.out w.drew (Below.refl _ _).drew
    have kx1 := HX1.out w.drew (Below.refl _ _).drew
    have kx2 := HX2.out w.drew (Below.refl _ _).drew
    go_simp
    clear hHeld kx0 kx1 kx2
    refine hK.out _ _ ?_ (fun hHeld => ?_)
    · trivial
    clear hK K
    (try simp only [Act.put, List.setIfInBounds_toArray, List.set_cons_zero, List.set_cons_succ])
    refine wpAnyH_ready (rs := [12]) (by kernel_rfl) (by simp) ?_
    refine AllReadyH.cons (o := ⟨some 25, _, _, _, _, _⟩) rfl (fun K hK => ?_) (AllReadyH.nil)
    refine step_buildF (by rfl) 111 115 _ (by rfl) i3 _ Try.underlying111 hi3 hz0 hz1 #[.string xb, .string xw, .int .i64 (xs : Int)] rfl (by first | rfl | (go_simp; rfl)) ?_
    intro x1 L1
    have bS1 : Below w.heap.size w x1 := (Below.refl _ _).drew.trans L1.bel
    clear hHeld
    refine hK.out _ _ ?_ (fun hHeld => ?_)
    · trivial
    clear hK K
    (try simp only [Act.put, List.setIfInBounds_toArray, List.set_cons_zero, List.set_cons_succ])
    refine wpAnyH_ready (rs := [13]) (by kernel_rfl) (by simp) ?_
    refine AllReadyH.cons (o := ⟨some 26, _, _, _, _, _⟩) rfl (fun K hK => ?_) (AllReadyH.nil)
    refine step_appR (by rfl) _ _ 111 (by rfl) 0 115 i3 _ 3 40 Try.underlying111 hi3 hz0 hz1 hz2 rfl (by decide) (some ⟨g, 0, none⟩) n c _ (by rfl) (HO.out.below bS1 (Nat.le_refl _)) ⟨w.drew.heap.size, 0, none⟩ 1 1 (#[.string xb, .string xw, .int .i64 (xs : Int)] : Array Value).toList (by rfl) rfl (fun j u hj => by rw [Addr.add_lit, Nat.zero_add, L1.row.cell, ← Array.getElem?_toList]; exact hj) (by simp [Value.oneCell']) (by omega) (by unfold maxLen; omega) (Nat.zero_le _) ?_
    intro A3 c3 x3 o3 g3 l3
    have q3 : Blk x3 gC 113 (chl age now (some ⟨g, 0, none⟩) n c) := (HQ.out.after bS1).grown g3 (by rw [blk_own]; exact HAN.out)
    clear hHeld
    refine hK.out _ _ ?_ (fun hHeld => ?_)
    · trivial
    clear hK K
    (try simp only [Act.put, List.setIfInBounds_toArray, List.set_cons_zero, List.set_cons_succ])
    refine wpAnyH_take (i := 14) (oi := ⟨some 27, _, _, _, _, _⟩) (v := ?_) rfl (by kernel_rfl) (by kernel_rfl) (by kernel_rfl) (fun _ _ _ h => h) (Or.inl ⟨by rfl, ?_⟩) hHeld ?_
    rotate_left
    · intro W hSW; have hSW0 := hSW; go_simp; first | done | with_reducible rfl
    (try simp only [Act.put, List.setIfInBounds_toArray, List.set_cons_zero, List.set_cons_succ])
    refine wpAnyH_take (i := 15) (oi := ⟨some 28, _, _, _, _, _⟩) (v := ?_) rfl (by kernel_rfl) (by kernel_rfl) (by kernel_rfl) (fun _ _ _ h => h) (Or.inl ⟨by rfl, ?_⟩) hHeld ?_
    rotate_left
    · intro W hSW; have hSW0 := hSW; go_simp; first | done | with_reducible rfl
    (try simp only [Act.put, List.setIfInBounds_toArray, List.set_cons_zero, List.set_cons_succ])
    refine wpAnyH_ready (rs := [16]) (by kernel_rfl) (by simp) ?_
    refine AllReadyH.cons (o := ⟨none, _, _, _, _, _⟩) rfl (fun K hK => ?_) (AllReadyH.nil)
    refine step_cell (by rfl) 111 _ _ (by rfl) gC 2 (.slice A3 (n + 1) c3) (by rfl) (by rfl) 113 _ q3 (show 2 < 3 by omega) infoFls rfl ?_
    intro x4 u4
    clear hHeld
    refine hK.out _ _ ?_ (fun hHeld => ?_)
    · trivial
    clear hK K
    (try simp only [Act.put, List.setIfInBounds_toArray, List.set_cons_zero, List.set_cons_succ])
    refine wpAnyH_done (by kernel_rfl) ?_ _
    refine NoPanic.normal ?_
    clear hHeld
    go_wp2
    go_ret
    exact ⟨rfl, FIN.out x1 x3 x4 A3 c3 bS1 g3 o3 l3 u4⟩
  · have kx := HK2.out w.drew (Below.refl _ _).drew
    go_simp
    clear hHeld kx
    refine hK.out _ _ ?_ (fun hHeld => ?_)
    · trivial
    clear hK K
    (try simp only [Act.put, List.setIfInBounds_toArray, List.set_cons_zero, List.set_cons_succ])
    refine wpAnyH_take (i := 10) (oi := ⟨some 23, _, _, _, _, _⟩) (v := ?_) rfl (by kernel_rfl) (by kernel_rfl) (by kernel_rfl) (fun _ _ _ h => h) (Or.inl ⟨by rfl, ?_⟩) hHeld ?_
    rotate_left
    · intro W hSW; have hSW0 := hSW; go_simp; first | done | with_reducible rfl
    (try simp only [Act.put, List.setIfInBounds_toArray, List.set_cons_zero, List.set_cons_succ])
    refine wpAnyH_ready (rs := [4, 11]) (by kernel_rfl) (by simp) ?_
    refine AllReadyH.cons (o := ⟨some 17, _, _, _, _, _⟩) rfl (fun K hK => ?_) (AllReadyH.cons (o := ⟨some 24, _, _, _, _, _⟩) rfl (fun K hK => ?_) (AllReadyH.nil))
    · have kx := HK2.out w.drew (Below.refl _ _).drew
      go_simp
      clear hHeld kx
      refine hK.out _ _ ?_ (fun hHeld => ?_)
      · trivial
      clear hK K
      (try simp only [Act.put, List.setIfInBounds_toArray, List.set_cons_zero, List.set_cons_succ])
      refine wpAnyH_ready (rs := [11]) (by kernel_rfl) (by simp) ?_
      refine AllReadyH.cons (o := ⟨some 24, _, _, _, _, _⟩) rfl (fun K hK => ?_) (AllReadyH.nil)
      have kx0 := HX0.out w.drew (Below.refl _ _).drew
      have kx1 := HX1.out w.drew (Below.refl _ _).drew
      have kx2 := HX2.out w.drew (Below.refl _ _).drew
      go_simp
      clear hHeld kx0 kx1 kx2
      refine hK.out _ _ ?_ (fun hHeld => ?_)
      · trivial
      clear hK K
      (try simp only [Act.put, List.setIfInBounds_toArray, List.set_cons_zero, List.set_cons_succ])
      refine wpAnyH_ready (rs := [12]) (by kernel_rfl) (by simp) ?_
      refine AllReadyH.cons (o := ⟨some 25, _, _, _, _, _⟩) rfl (fun K hK => ?_) (AllReadyH.nil)
      refine step_buildF (by rfl) 111 115 _ (by rfl) i3 _ Try.underlying111 hi3 hz0 hz1 #[.string xb, .string xw, .int .i64 (xs : Int)] rfl (by first | rfl | (go_simp; rfl)) ?_
      intro x1 L1
      have bS1 : Below w.heap.size w x1 := (Below.refl _ _).drew.trans L1.bel
      clear hHeld
      refine hK.out _ _ ?_ (fun hHeld => ?_)
      · trivial
      clear hK K
      (try simp only [Act.put, List.setIfInBounds_toArray, List.set_cons_zero, List.set_cons_succ])
      refine wpAnyH_ready (rs := [13]) (by kernel_rfl) (by simp) ?_
      refine AllReadyH.cons (o := ⟨some 26, _, _, _, _, _⟩) rfl (fun K hK => ?_) (AllReadyH.nil)
      refine step_appR (by rfl) _ _ 111 (by rfl) 0 115 i3 _ 3 40 Try.underlying111 hi3 hz0 hz1 hz2 rfl (by decide) (some ⟨g, 0, none⟩) n c _ (by rfl) (HO.out.below bS1 (Nat.le_refl _)) ⟨w.drew.heap.size, 0, none⟩ 1 1 (#[.string xb, .string xw, .int .i64 (xs : Int)] : Array Value).toList (by rfl) rfl (fun j u hj => by rw [Addr.add_lit, Nat.zero_add, L1.row.cell, ← Array.getElem?_toList]; exact hj) (by simp [Value.oneCell']) (by omega) (by unfold maxLen; omega) (Nat.zero_le _) ?_
      intro A3 c3 x3 o3 g3 l3
      have q3 : Blk x3 gC 113 (chl age now (some ⟨g, 0, none⟩) n c) := (HQ.out.after bS1).grown g3 (by rw [blk_own]; exact HAN.out)
      clear hHeld
      refine hK.out _ _ ?_ (fun hHeld => ?_)
      · trivial
      clear hK K
      (try simp only [Act.put, List.setIfInBounds_toArray, List.set_cons_zero, List.set_cons_succ])
      refine wpAnyH_take (i := 14) (oi := ⟨some 27, _, _, _, _, _⟩) (v := ?_) rfl (by kernel_rfl) (by kernel_rfl) (by kernel_rfl) (fun _ _ _ h => h) (Or.inl ⟨by rfl, ?_⟩) hHeld ?_
      rotate_left
      · intro W hSW; have hSW0 := hSW; go_simp; first | done | with_reducible rfl
      (try simp only [Act.put, List.setIfInBounds_toArray, List.set_cons_zero, List.set_cons_succ])
      refine wpAnyH_take (i := 15) (oi := ⟨some 28, _, _, _, _, _⟩) (v := ?_) rfl (by kernel_rfl) (by kernel_rfl) (by kernel_rfl) (fun _ _ _ h => h) (Or.inl ⟨by rfl, ?_⟩) hHeld ?_
      rotate_left
      · intro W hSW; have hSW0 := hSW; go_simp; first | done | with_reducible rfl
      (try simp only [Act.put, List.setIfInBounds_toArray, List.set_cons_zero, List.set_cons_succ])
      refine wpAnyH_ready (rs := [16]) (by kernel_rfl) (by simp) ?_
      refine AllReadyH.cons (o := ⟨none, _, _, _, _, _⟩) rfl (fun K hK => ?_) (AllReadyH.nil)
      refine step_cell (by rfl) 111 _ _ (by rfl) gC 2 (.slice A3 (n + 1) c3) (by rfl) (by rfl) 113 _ q3 (show 2 < 3 by omega) infoFls rfl ?_
      intro x4 u4
      clear hHeld
      refine hK.out _ _ ?_ (fun hHeld => ?_)
      · trivial
      clear hK K
      (try simp only [Act.put, List.setIfInBounds_toArray, List.set_cons_zero, List.set_cons_succ])
      refine wpAnyH_done (by kernel_rfl) ?_ _
      refine NoPanic.normal ?_
      clear hHeld
      go_wp2
      go_ret
      exact ⟨rfl, FIN.out x1 x3 x4 A3 c3 bS1 g3 o3 l3 u4⟩
    · have kx0 := HX0.out w.drew (Below.refl _ _).drew
      have kx1 := HX1.out w.drew (Below.refl _ _).drew
      have kx2 := HX2.out w.drew (Below.refl _ _).drew
      go_simp
      clear hHeld kx0 kx1 kx2
      refine hK.out _ _ ?_ (fun hHeld => ?_)
      · trivial
      clear hK K
      (try simp only [Act.put, List.setIfInBounds_toArray, List.set_cons_zero, List.set_cons_succ])
      refine wpAnyH_ready (rs := [4, 12]) (by kernel_rfl) (by simp) ?_
      refine AllReadyH.cons (o := ⟨some 17, _, _, _, _, _⟩) rfl (fun K hK => ?_) (AllReadyH.cons (o := ⟨some 25, _, _, _, _, _⟩) rfl (fun K hK => ?_) (AllReadyH.nil))
      · have kx := HK2.out w.drew (Below.refl _ _).drew
        go_simp
        clear hHeld kx
        refine hK.out _ _ ?_ (fun hHeld => ?_)
        · trivial
        clear hK K
        (try simp only [Act.put, List.setIfInBounds_toArray, List.set_cons_zero, List.set_cons_succ])
        refine wpAnyH_ready (rs := [12]) (by kernel_rfl) (by simp) ?_
        refine AllReadyH.cons (o := ⟨some 25, _, _, _, _, _⟩) rfl (fun K hK => ?_) (AllReadyH.nil)
        refine step_buildF (by rfl) 111 115 _ (by rfl) i3 _ Try.underlying111 hi3 hz0 hz1 #[.string xb, .string xw, .int .i64 (xs : Int)] rfl (by first | rfl | (go_simp; rfl)) ?_
        intro x1 L1
        have bS1 : Below w.heap.size w x1 := (Below.refl _ _).drew.trans L1.bel
        clear hHeld
        refine hK.out _ _ ?_ (fun hHeld => ?_)
        · trivial
        clear hK K
        (try simp only [Act.put, List.setIfInBounds_toArray, List.set_cons_zero, List.set_cons_succ])
        refine wpAnyH_ready (rs := [13]) (by kernel_rfl) (by simp) ?_
        refine AllReadyH.cons (o := ⟨some 26, _, _, _, _, _⟩) rfl (fun K hK => ?_) (AllReadyH.nil)
        refine step_appR (by rfl) _ _ 111 (by rfl) 0 115 i3 _ 3 40 Try.underlying111 hi3 hz0 hz1 hz2 rfl (by decide) (some ⟨g, 0, none⟩) n c _ (by rfl) (HO.out.below bS1 (Nat.le_refl _)) ⟨w.drew.heap.size, 0, none⟩ 1 1 (#[.string xb, .string xw, .int .i64 (xs : Int)] : Array Value).toList (by rfl) rfl (fun j u hj => by rw [Addr.add_lit, Nat.zero_add, L1.row.cell, ← Array.getElem?_toList]; exact hj) (by simp [Value.oneCell']) (by omega) (by unfold maxLen; omega) (Nat.zero_le _) ?_
        intro A3 c3 x3 o3 g3 l3
        have q3 : Blk x3 gC 113 (chl age now (some ⟨g, 0, none⟩) n c) := (HQ.out.after bS1).grown g3 (by rw [blk_own]; exact HAN.out)
        clear hHeld
        refine hK.out _ _ ?_ (fun hHeld => ?_)
        · trivial
        clear hK K
        (try simp only [Act.put, List.setIfInBounds_toArray, List.set_cons_zero, List.set_cons_succ])
        refine wpAnyH_take (i := 14) (oi := ⟨some 27, _, _, _, _, _⟩) (v := ?_) rfl (by kernel_rfl) (by kernel_rfl) (by kernel_rfl) (fun _ _ _ h => h) (Or.inl ⟨by rfl, ?_⟩) hHeld ?_
        rotate_left
        · intro W hSW; have hSW0 := hSW; go_simp; first | done | with_reducible rfl
        (try simp only [Act.put, List.setIfInBounds_toArray, List.set_cons_zero, List.set_cons_succ])
        refine wpAnyH_take (i := 15) (oi := ⟨some 28, _, _, _, _, _⟩) (v := ?_) rfl (by kernel_rfl) (by kernel_rfl) (by kernel_rfl) (fun _ _ _ h => h) (Or.inl ⟨by rfl, ?_⟩) hHeld ?_
        rotate_left
        · intro W hSW; have hSW0 := hSW; go_simp; first | done | with_reducible rfl
        (try simp only [Act.put, List.setIfInBounds_toArray, List.set_cons_zero, List.set_cons_succ])
        refine wpAnyH_ready (rs := [16]) (by kernel_rfl) (by simp) ?_
        refine AllReadyH.cons (o := ⟨none, _, _, _, _, _⟩) rfl (fun K hK => ?_) (AllReadyH.nil)
        refine step_cell (by rfl) 111 _ _ (by rfl) gC 2 (.slice A3 (n + 1) c3) (by rfl) (by rfl) 113 _ q3 (show 2 < 3 by omega) infoFls rfl ?_
        intro x4 u4
        clear hHeld
        refine hK.out _ _ ?_ (fun hHeld => ?_)
        · trivial
        clear hK K
        (try simp only [Act.put, List.setIfInBounds_toArray, List.set_cons_zero, List.set_cons_succ])
        refine wpAnyH_done (by kernel_rfl) ?_ _
        refine NoPanic.normal ?_
        clear hHeld
        go_wp2
        go_ret
        exact ⟨rfl, FIN.out x1 x3 x4 A3 c3 bS1 g3 o3 l3 u4⟩
      · refine step_buildF (by rfl) 111 115 _ (by rfl) i3 _ Try.underlying111 hi3 hz0 hz1 #[.string xb, .string xw, .int .i64 (xs : Int)] rfl (by first | rfl | (go_simp; rfl)) ?_
        intro x1 L1
        have bS1 : Below w.heap.size w x1 := (Below.refl _ _).drew.trans L1.bel
        clear hHeld
        refine hK.out _ _ ?_ (fun hHeld => ?_)
        · trivial
        clear hK K
        (try simp only [Act.put, List.setIfInBounds_toArray, List.set_cons_zero, List.set_cons_succ])
        refine wpAnyH_ready (rs := [4]) (by kernel_rfl) (by simp) ?_
        refine AllReadyH.cons (o := ⟨some 17, _, _, _, _, _⟩) rfl (fun K hK => ?_) (AllReadyH.nil)
        have kx := HK2.out x1 bS1
        go_simp
        clear hHeld kx
        refine hK.out _ _ ?_ (fun hHeld => ?_)
        · trivial
        clear hK K
        (try simp only [Act.put, List.setIfInBounds_toArray, List.set_cons_zero, List.set_cons_succ])
        refine wpAnyH_ready (rs := [13]) (by kernel_rfl) (by simp) ?_
        refine AllReadyH.cons (o := ⟨some 26, _, _, _, _, _⟩) rfl (fun K hK => ?_) (AllReadyH.nil)
        refine step_appR (by rfl) _ _ 111 (by rfl) 0 115 i3 _ 3 40 Try.underlying111 hi3 hz0 hz1 hz2 rfl (by decide) (some ⟨g, 0, none⟩) n c _ (by rfl) (HO.out.below bS1 (Nat.le_refl _)) ⟨w.drew.heap.size, 0, none⟩ 1 1 (#[.string xb, .string xw, .int .i64 (xs : Int)] : Array Value).toList (by rfl) rfl (fun j u hj => by rw [Addr.add_lit, Nat.zero_add, L1.row.cell, ← Array.getElem?_toList]; exact hj) (by simp [Value.oneCell']) (by omega) (by unfold maxLen; omega) (Nat.zero_le _) ?_
        intro A3 c3 x3 o3 g3 l3
        have q3 : Blk x3 gC 113 (chl age now (some ⟨g, 0, none⟩) n c) := (HQ.out.after bS1).grown g3 (by rw [blk_own]; exact HAN.out)
        clear hHeld
        refine hK.out _ _ ?_ (fun hHeld => ?_)
        · trivial
        clear hK K
        (try simp only [Act.put, List.setIfInBounds_toArray, List.set_cons_zero, List.set_cons_succ])
        refine wpAnyH_take (i := 14) (oi := ⟨some 27, _, _, _, _, _⟩) (v := ?_) rfl (by kernel_rfl) (by kernel_rfl) (by kernel_rfl) (fun _ _ _ h => h) (Or.inl ⟨by rfl, ?_⟩) hHeld ?_
        rotate_left
        · intro W hSW; have hSW0 := hSW; go_simp; first | done | with_reducible rfl
        (try simp only [Act.put, List.setIfInBounds_toArray, List.set_cons_zero, List.set_cons_succ])
        refine wpAnyH_take (i := 15) (oi := ⟨some 28, _, _, _, _, _⟩) (v := ?_) rfl (by kernel_rfl) (by kernel_rfl) (by kernel_rfl) (fun _ _ _ h => h) (Or.inl ⟨by rfl, ?_⟩) hHeld ?_
        rotate_left
        · intro W hSW; have hSW0 := hSW; go_simp; first | done | with_reducible rfl
        (try simp only [Act.put, List.setIfInBounds_toArray, List.set_cons_zero, List.set_cons_succ])
        refine wpAnyH_ready (rs := [16]) (by kernel_rfl) (by simp) ?_
        refine AllReadyH.cons (o := ⟨none, _, _, _, _, _⟩) rfl (fun K hK => ?_) (AllReadyH.nil)
        refine step_cell (by rfl) 111 _ _ (by rfl) gC 2 (.slice A3 (n + 1) c3) (by rfl) (by rfl) 113 _ q3 (show 2 < 3 by omega) infoFls rfl ?_
        intro x4 u4
        clear hHeld
        refine hK.out _ _ ?_ (fun hHeld => ?_)
        · trivial
        clear hK K
        (try simp only [Act.put, List.setIfInBounds_toArray, List.set_cons_zero, List.set_cons_succ])
        refine wpAnyH_done (by kernel_rfl) ?_ _
        refine NoPanic.normal ?_
        clear hHeld
        go_wp2
        go_ret
        exact ⟨rfl, FIN.out x1 x3 x4 A3 c3 bS1 g3 o3 l3 u4⟩
end Go.Proofs.Ytkmacepodomdmaa
