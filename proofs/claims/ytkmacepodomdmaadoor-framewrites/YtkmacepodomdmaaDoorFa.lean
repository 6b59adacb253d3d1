/-
  Layer 16: Head, Bits; how frames are written.
-/
import Derived.Test.YtkmacepodomdmaaDoorXb
import Derived.Test.YtkmacepodomdmaaDoorXc
import Derived.Test.YtkmacepodomdmaaDoorZd
import Derived.Test.YtkmacepodomdmaaDoorRr
namespace Go.Proofs.YtkmacepodomdmaaDoor
open Go.RowKit
set_option maxRecDepth 100000
set_option linter.unusedVariables false
set_option linter.unusedSimpArgs false

set_option maxHeartbeats 400000 in
theorem headC (k : Int) (w : World) : Calls Tryd.prog 41 #[.int .i64 k] w fun e w' => e = .returned (.int .i64 (if k = 1 then 6 else if k = 2 then 9 else 0)) ∧ w = w' := by
  by_cases h1 : k = 1
  · subst h1
    go_enter Tryd.func41, Tryd.ntmps41
    go_wp2
    go_ret
    exact ⟨rfl, rfl⟩
  · by_cases h2 : k = 2
    · subst h2
      go_enter Tryd.func41, Tryd.ntmps41
      go_wp2
      go_ret
      exact ⟨rfl, rfl⟩
    · rw [if_neg h1, if_neg h2]
      have e1 : (k == 1) = false := beq_false_of_ne h1
      have e2 : (k == 2) = false := beq_false_of_ne h2
      go_enter Tryd.func41, Tryd.ntmps41
      go_wp2
      go_ret
      exact ⟨rfl, rfl⟩
set_option maxHeartbeats 400000 in
theorem isLenC (n : Int) (w : World) : Calls Tryd.prog 42 #[.int .i64 n] w fun e w' => e = .returned (.bool (decide (0 ≤ n) && decide (n ≤ 64))) ∧ w = w' := by
  by_cases h1 : 0 ≤ n
  · rw [decide_eq_true h1, Bool.true_and]
    go_enter Tryd.func42, Tryd.ntmps42
    go_wp2
    go_ret
    exact ⟨rfl, rfl⟩
  · rw [decide_eq_false h1, Bool.false_and]
    go_enter Tryd.func42, Tryd.ntmps42
    go_wp2
    go_ret
    exact ⟨rfl, rfl⟩
set_option maxHeartbeats 400000 in
theorem stepsC16 (n : Int) (w : World) (h : 0 ≤ n ∧ n ≤ 100000) : Calls Tryd.prog 77 #[.int .i64 n] w fun e w' => e = .returned (.int .i64 (n + 6)) ∧ w = w' := by
  go_enter Tryd.func77, Tryd.ntmps77
  go_wp2
  go_ret
  exact ⟨rfl, rfl⟩
set_option maxHeartbeats 400000 in
theorem vbitsC16 (n : Int) (w : World) (h : 0 ≤ n ∧ n ≤ 100000) : Calls Tryd.prog 43 #[.int .i64 n] w fun e w' => e = .returned (.int .i64 (n + 6)) ∧ w = w' := by
  have C := Lib.hid (stepsC16 n w h)
  go_enter Tryd.func43, Tryd.ntmps43
  go_wp2_with (go_at_call 77; refine C.out.mono ?_; rintro e w' ⟨rfl, rfl⟩)
  go_ret
  exact ⟨rfl, rfl⟩
/-- How many bits a body has. -/
def fb (n : Int) : Int := if 0 ≤ n ∧ n ≤ 64 then 8 * (n + 4) + 6 else 0
set_option maxHeartbeats 400000 in
theorem bitsC16 (n : Int) (w : World) : Calls Tryd.prog 14 #[.int .i64 n] w fun e w' => e = .returned (.int .i64 (fb n)) ∧ w = w' := by
  have C := Lib.hid (isLenC n w)
  by_cases h : 0 ≤ n ∧ n ≤ 64
  · rw [decide_eq_true h.1, decide_eq_true h.2] at C
    have HF : Hid (fb n = 8 * (n + 4) + 6) := if_pos h
    have C2 := Lib.hid (vbitsC16 (8 * (n + 4)) w (by omega))
    go_enter Tryd.func14, Tryd.ntmps14
    go_wp2_with (first | (go_at_call 42; refine C.out.mono ?_; rintro e w' ⟨rfl, rfl⟩) | (go_at_call 43; refine C2.out.mono ?_; rintro e w' ⟨rfl, rfl⟩))
    go_ret
    exact ⟨ret_int' HF.out.symm, rfl⟩
  · have HF : Hid (fb n = 0) := if_neg h
    have e : (decide (0 ≤ n) && decide (n ≤ 64)) = false := by
      by_cases h1 : 0 ≤ n
      · rw [decide_eq_false (p := n ≤ 64) (by omega), Bool.and_false]
      · rw [decide_eq_false h1, Bool.false_and]
    rw [e] at C
    clear e h
    go_enter Tryd.func14, Tryd.ntmps14
    go_wp2_with (go_at_call 42; refine C.out.mono ?_; rintro e w' ⟨rfl, rfl⟩)
    go_ret
    exact ⟨ret_int' HF.out.symm, rfl⟩

/-- A Writer of one's own at block g that holds these bits. -/
def WrB (w : World) (g : Nat) (bs : List Nat) : Prop := ∃ A n c, Wr w g g A n c bs
theorem zeroWr : (Tryd.prog.info? 120).bind (fun i => i.zero.map (fun z => z.cells)) = some #[.slice none 0 0] := by kernel_rfl
theorem WrB.new {w w1 : World} (h : Laid w w1 120 #[.slice none 0 0]) : WrB w1 w.heap.size [] := ⟨none, 0, 0, h.row, Own.nil _ _ _⟩
theorem putB (g : Nat) (bs : List Nat) (N wd : Nat) (w : World) (hw : WrB w g bs) (h1 : 1 ≤ wd) (h2 : wd ≤ 32) (hN : N < 2 ^ wd) (hn : bs.length ≤ 65536) :
    Calls Tryd.prog 71 #[.pointer (some ⟨g, 0, none⟩), .int .i64 (N : Int), .int .i64 (wd : Int)] w fun e w' => e = .returned (.int .i64 0) ∧ WrB w' g (bs ++ pre N wd wd) ∧ Below g w w' := by
  obtain ⟨A, n, c, hwr⟩ := hw
  have hl := hwr.own.len
  rw [U8_length] at hl
  refine (putOk g g A n c bs N wd w hwr (Nat.le_of_lt hwr.box.lt) h1 h2 hN (by omega)).mono ?_
  rintro e w' ⟨he, A', n', c', hwr', _, hfr, _⟩
  exact ⟨he, ⟨A', n', c', hwr'⟩, hfr.below (Nat.le_refl _) (fun k hk => (hwr.own.block k hk).1) (Nat.le_of_lt hwr.box.lt)⟩
theorem wbytesB (g : Nat) (bs : List Nat) (w : World) (hw : WrB w g bs) (hb : ∀ b ∈ bs, b ≤ 1) (hn : bs.length ≤ 65536) :
    Calls Tryd.prog 74 #[.pointer (some ⟨g, 0, none⟩)] w (Made w (Bm.toBytes bs)) := by
  obtain ⟨A, n, c, hwr⟩ := hw
  have hl := hwr.own.len
  rw [U8_length] at hl
  exact wbytes g g A n c bs w hwr hb (by omega)
/-- The bits of a head. -/
def ackBits (base more : Nat) : List Nat := pre 2 4 4 ++ pre 0 4 4 ++ pre base 16 16 ++ pre more 32 32
def dataBits (ver len seq : Nat) : List Nat := pre 1 4 4 ++ pre ver 2 2 ++ pre 0 2 2 ++ pre len 8 8 ++ pre seq 16 16
theorem ackBits_length (b m : Nat) : (ackBits b m).length = 56 := by simp [ackBits, pre_length]
theorem dataBits_length (v l q : Nat) : (dataBits v l q).length = 32 := by simp [dataBits, pre_length]
theorem ackBits_bit (b m : Nat) : ∀ x ∈ ackBits b m, x ≤ 1 := by
  intro x hx
  simp only [ackBits, List.mem_append] at hx
  rcases hx with ((h | h) | h) | h <;> exact pre_bit _ _ _ x h
theorem dataBits_bit (v l q : Nat) : ∀ x ∈ dataBits v l q, x ≤ 1 := by
  intro x hx
  simp only [dataBits, List.mem_append] at hx
  rcases hx with (((h | h) | h) | h) | h <;> exact pre_bit _ _ _ x h
def ackW (base more : Nat) : List Nat := Crc.seal16 (Bm.toBytes (ackBits base more))
def dataW (ver len seq : Nat) (body : List Nat) : List Nat := Crc.seal16 (Bm.toBytes (dataBits ver len seq)) ++ Bm.toBytes body
theorem toBytes256 (l : List Nat) (h : ∀ x ∈ l, x ≤ 1) : ∀ b ∈ Bm.toBytes l, b < 256 := by
  intro b hb
  obtain ⟨j, _, rfl⟩ := List.mem_map.1 hb
  exact Bm.hb_lt l h _
set_option maxHeartbeats 1000000 in
/-- frame.writeAck. -/
theorem writeAckC (base more : Nat) (w : World) (hb : base < 65536) (hm : more < 4294967296) :
    Calls Tryd.prog 35 #[.agg (mv base more)] w (Made w (ackW base more)) := by
  go_enter Tryd.func35, Tryd.ntmps35
  go_upto_region 1 with (refine at_box rfl 30 _ rfl (mv base more) rfl ?_; intro w1 L1)
  go_upto_region 2 with (refine at_alloc rfl 120 rfl _ zeroWr ?_; intro w2 L2)
  have bel1 := L1.bel
  have bel2 := Below.then_ bel1 L2.bel
  have W0 := WrB.new L2
  have q2 := L1.row.after L2.bel
  have HGL := Lib.hid (show w.heap.size < w1.heap.size by rw [L1.size]; omega)
  clear L1 L2
  obtain ⟨gm, hgm⟩ : ∃ g, g = w.heap.size := ⟨_, rfl⟩
  obtain ⟨g, hg⟩ : ∃ g, g = w1.heap.size := ⟨_, rfl⟩
  rw [← hgm] at q2 HGL ⊢
  rw [← hg] at W0 HGL ⊢
  have HGM := Lib.hid hgm
  have HWG : Hid (w.heap.size ≤ g) := by unfold Hid; rw [← hgm]; exact Nat.le_of_lt HGL.out
  clear hgm hg
  have k2 : ∀ W, Below g w2 W → W.cell? ⟨gm, 0, none⟩ = some (.int .u16 (base : Int)) ∧ W.cell? ⟨gm, 1, none⟩ = some (.int .u32 (more : Int)) := fun W hW => ⟨((q2.below hW HGL.out).cell 0).trans rfl, ((q2.below hW HGL.out).cell 1).trans rfl⟩
  go_wp2_with fail
  refine (putB g [] 2 4 w2 W0 (by omega) (by omega) (by decide) (by simp)).mono ?_; rintro e w3 ⟨rfl, W3, b3⟩
  go_wp2_with fail
  refine (putB g _ 0 4 w3 W3 (by omega) (by omega) (by decide) (by simp [pre_length])).mono ?_; rintro e w4 ⟨rfl, W4, b4⟩
  have b34 := b3.trans b4
  obtain ⟨c4, d4⟩ := k2 w4 b34
  go_wp2_with fail
  refine (putB g _ base 16 w4 W4 (by omega) (by omega) (by omega) (by simp [pre_length])).mono ?_; rintro e w5 ⟨rfl, W5, b5⟩
  have b35 := b34.trans b5
  obtain ⟨c5, d5⟩ := k2 w5 b35
  go_wp2_with fail
  refine (putB g _ more 32 w5 W5 (by omega) (by omega) (by omega) (by simp [pre_length])).mono ?_; rintro e w6 ⟨rfl, W6, b6⟩
  have b36 := b35.trans b6
  have W6' : WrB w6 g (ackBits base more) := W6
  go_wp2_with fail
  refine (wbytesB g _ w6 W6' (ackBits_bit _ _) (by rw [ackBits_length]; omega)).mono ?_; rintro e w7 ⟨A7, n7, c7, rfl, own7, b7⟩
  have rd7 := own7.rd
  go_wp2_with fail
  refine (sealC16 A7 n7 c7 _ w7 rd7 (toBytes256 _ (ackBits_bit _ _)) own7.none_ (by rw [rd7.len8, Bm.toBytes_length, ackBits_length]; omega)).mono ?_; rintro e w8 ⟨A8, n8, c8, rfl, own8, b8⟩
  go_wp2_with fail
  go_ret
  have bel7 := Below.then_ (bel2.trans (b36.mono HWG.out)) b7
  exact ⟨A8, n8, c8, rfl, own8.down bel7.size, Below.then_ bel7 b8⟩

/-- A frame as a value. -/
def FV (kind : Int) (seq : Nat) (ver len : Int) (B : Value) (base more : Nat) : Array Value := #[.int .i64 kind, .int .u16 (seq : Int), .int .i64 ver, .int .i64 len, B, .int .u16 (base : Int), .int .u32 (more : Int)]
theorem infoF (k : Int) (q : Nat) (v l : Int) (B : Value) (b m : Nat) : (Tryd.prog.info? 32).map (·.size) = some (FV k q v l B b m).size := (show (Tryd.prog.info? 32).map (·.size) = some 7 by kernel_rfl)
theorem zeroF : (Tryd.prog.info? 32).bind (fun i => i.zero.map (fun z => z.cells)) = some (FV 0 0 0 0 (.slice none 0 0) 0 0) := by kernel_rfl
theorem FV_all (k : Int) (q : Nat) (v l : Int) (A : Option Addr) (n c : Nat) (b m : Nat) : (FV k q v l (.slice A n c) b m).all (·.oneCell') = true := by simp [FV, Value.oneCell']
/-- What writing gives: bytes of one's own, and a number. -/
def WOut (w : World) (bs : List Nat) (er : Int) (e : Ending) (w' : World) : Prop := ∃ A n c, e = .returned (.tuple #[.slice A n c, .int .i64 er]) ∧ Own w' w.heap.size 5 A n c (U8 bs) ∧ Below w.heap.size w w'
/-- Why a data frame isn't written. -/
def wE (ver len : Int) (body : List Nat) : Int := if ver < 0 ∨ 3 < ver ∨ Bm.isB body = false then 5 else if ¬ (0 ≤ len ∧ len ≤ 64) then 7 else if (body.length : Int) ≠ fb len then 13 else 0
def wB (ver len : Int) (seq : Nat) (body : List Nat) : List Nat := if wE ver len body = 0 then dataW ver.toNat len.toNat seq body else []
set_option maxHeartbeats 2000000 in
/-- frame.writeData. -/
theorem writeDataC (kind : Int) (seq : Nat) (ver len : Int) (A : Option Addr) (n c : Nat) (base more : Nat) (body : List Nat) (w : World) (hs : seq < 65536) (hv : -9223372036854775808 ≤ ver ∧ ver ≤ 9223372036854775807) (hr : Rd w w.heap.size A n (U8 body)) (h256 : ∀ b ∈ body, b < 256) (hn : n ≤ 65536) :
    Calls Tryd.prog 34 #[.agg (FV kind seq ver len (.slice A n c) base more)] w (WOut w (wB ver len seq body) (wE ver len body)) := by
  have HN := Lib.hid hr.len8
  go_enter Tryd.func34, Tryd.ntmps34
  go_upto_region 1 with (refine at_box rfl 32 _ rfl (FV kind seq ver len (.slice A n c) base more) rfl ?_; intro w1 L1)
  have bel1 := L1.bel
  have q1 := L1.row
  clear L1
  have HGL : Hid (w.heap.size < w1.heap.size) := q1.lt
  obtain ⟨g, hg⟩ : ∃ g, g = w.heap.size := ⟨_, rfl⟩
  rw [← hg] at q1 HGL ⊢
  have HG := Lib.hid hg
  clear hg
  have k1 : ∀ W, Below w1.heap.size w1 W → W.cell? ⟨g, 1, none⟩ = some (.int .u16 (seq : Int)) ∧ W.cell? ⟨g, 2, none⟩ = some (.int .i64 ver) ∧ W.cell? ⟨g, 3, none⟩ = some (.int .i64 len) ∧ W.cell? ⟨g, 4, none⟩ = some (.slice A n c) := fun W hW => ⟨((q1.after hW).cell 1).trans rfl, ((q1.after hW).cell 2).trans rfl, ((q1.after hW).cell 3).trans rfl, ((q1.after hW).cell 4).trans rfl⟩
  obtain ⟨c1, c2, c3, c4⟩ := k1 w1 (Below.refl _ _)
  have r1 := (hr.below bel1).up bel1.size
  have CR := Lib.hid (right A n c body w1 r1 h256 hn)
  have nil1 : ∀ er, wE ver len body = er → er ≠ 0 → WOut w (wB ver len seq body) (wE ver len body) (.returned (.tuple #[.slice none 0 0, .int .i64 er])) w1 := fun er h1 h2 => ⟨none, 0, 0, by rw [h1], by unfold wB; rw [if_neg (by rw [h1]; exact h2)]; exact Own.nil _ _ _, bel1⟩
  by_cases hv1 : ver < 0
  · have HE : Hid (wE ver len body = 5) := if_pos (.inl hv1)
    go_wp2
    go_ret2
    exact nil1 5 HE.out (by omega)
  · by_cases hv2 : 4 ≤ ver
    · have HE : Hid (wE ver len body = 5) := if_pos (.inr (.inl (by omega)))
      go_wp2
      go_ret2
      exact nil1 5 HE.out (by omega)
    · cases hB : Bm.isB body with
      | false =>
        rw [hB] at CR
        have HE : Hid (wE ver len body = 5) := if_pos (.inr (.inr hB))
        clear hB
        go_wp2_with (go_at_call 70; refine CR.out.mono ?_; rintro e w' ⟨rfl, rfl⟩)
        go_ret2
        exact nil1 5 HE.out (by omega)
      | true =>
        rw [hB] at CR
        have HB1 := Lib.hid (Bm.isB_true hB)
        have CL := Lib.hid (isLenC len w1)
        have HW0 : Hid (wE ver len body = if ¬ (0 ≤ len ∧ len ≤ 64) then 7 else if (body.length : Int) ≠ fb len then 13 else 0) := if_neg (by rw [hB]; simp; omega)
        clear hB
        by_cases hl : 0 ≤ len ∧ len ≤ 64
        · rw [decide_eq_true hl.1, decide_eq_true hl.2] at CL
          rw [if_neg (by simpa using hl)] at HW0
          have HFB : Hid (fb len = 8 * (len + 4) + 6) := if_pos hl
          have CQ := Lib.hid (fun j : Nat => Calls.quiet_of_same ((bitsC16 len (w1.drewN j)).mono fun e w' h => ⟨h.1, h.2.symm⟩))
          obtain ⟨F, hF⟩ : ∃ F, F = fb len := ⟨_, rfl⟩
          rw [← hF] at CQ HW0 HFB
          clear hF
          by_cases hne : (n : Int) = F
          · have HE : Hid (wE ver len body = 0) := by unfold Hid; rw [HW0.out, ← HN.out, if_neg (by simpa using hne)]
            have t1 : ((n : Int) != F) = false := by simp [hne]
            have HNF := Lib.hid hne
            clear hne
            go_upto_region 5 with (first | (go_at_call 70; refine CR.out.mono ?_; rintro e w' ⟨rfl, rfl⟩) | (go_at_call 42; refine CL.out.mono ?_; rintro e w' ⟨rfl, rfl⟩))
            go_quiet ((go_at_call 14; exact CQ.out _))
            rename_i nq _
            have beq : Below w1.heap.size w1 (w1.drewN nq) := below_drawn nq
            generalize w1.drewN nq = w2 at *
            go_upto_region 8 with (refine at_alloc rfl 120 rfl _ zeroWr ?_; intro w3 L3)
            have b3 := Below.then_ beq L3.bel
            have W0 := WrB.new L3
            have HG3 := Lib.hid (show w1.heap.size ≤ w2.heap.size from beq.size)
            have L3b := L3.bel
            clear L3
            have HNL : Hid (n = 8 * (len.toNat + 4) + 6) := by unfold Hid; have := HNF.out; have := HFB.out; omega
            obtain ⟨L, hL⟩ : ∃ L : Nat, len = (L : Int) := ⟨len.toNat, by omega⟩
            obtain ⟨v, hv⟩ : ∃ v : Nat, ver = (v : Int) := ⟨ver.toNat, by omega⟩
            have hL64 : L ≤ 64 := by omega
            have hv4 : v < 4 := by omega
            have HWB : Hid (wB ver len seq body = dataW v L seq body) := by
              unfold Hid wB
              rw [if_pos HE.out, hv, hL]; rfl
            have k3 : ∀ W, Below w2.heap.size w3 W → W.cell? ⟨g, 1, none⟩ = some (.int .u16 (seq : Int)) ∧ W.cell? ⟨g, 2, none⟩ = some (.int .i64 (v : Int)) ∧ W.cell? ⟨g, 3, none⟩ = some (.int .i64 (L : Int)) ∧ W.cell? ⟨g, 4, none⟩ = some (.slice A n c) := fun W hW => by
              have := k1 W (b3.trans (hW.mono HG3.out))
              rw [hv, hL] at this
              exact this
            obtain ⟨gw, hgw⟩ : ∃ g, g = w2.heap.size := ⟨_, rfl⟩
            rw [← hgw] at W0 k3 HG3 ⊢
            clear hgw c1 c2 c3 c4
            clear hv1 hv2 hl hv hL
            go_wp2_with fail
            refine (putB gw [] 1 4 w3 W0 (by omega) (by omega) (by decide) (by simp)).mono ?_; rintro e w4 ⟨rfl, W4, b4⟩
            obtain ⟨c1, c2, c3, c4⟩ := k3 w4 b4
            go_wp2_with fail
            refine (putB gw _ v 2 w4 W4 (by omega) (by omega) (by omega) (by simp [pre_length])).mono ?_; rintro e w5 ⟨rfl, W5, b5'⟩
            have b5 := b4.trans b5'
            clear c1 c2 c3 c4
            go_wp2_with fail
            refine (putB gw _ 0 2 w5 W5 (by omega) (by omega) (by decide) (by simp [pre_length])).mono ?_; rintro e w6 ⟨rfl, W6, b6'⟩
            have b6 := b5.trans b6'
            obtain ⟨c1, c2, c3, c4⟩ := k3 w6 b6
            go_wp2_with fail
            refine (putB gw _ L 8 w6 W6 (by omega) (by omega) (by omega) (by simp [pre_length])).mono ?_; rintro e w7 ⟨rfl, W7, b7'⟩
            have b7 := b6.trans b7'
            clear c1 c2 c3 c4
            obtain ⟨c1, c2, c3, c4⟩ := k3 w7 b7
            go_wp2_with fail
            refine (putB gw _ seq 16 w7 W7 (by omega) (by omega) (by omega) (by simp [pre_length])).mono ?_; rintro e w8 ⟨rfl, W8', b8'⟩
            have b8 := b7.trans b8'
            have W8 : WrB w8 gw (dataBits v L seq) := W8'
            clear c1 c2 c3 c4
            obtain ⟨c1, c2, c3, c4⟩ := k3 w8 b8
            have b18 : Below w1.heap.size w1 w8 := b3.trans (b8.mono HG3.out)
            have r8 : Rd w8 w8.heap.size A n (U8 body) := (r1.below b18).up b18.size
            have CB := Lib.hid (bytesYes A n c body w8 r8 HB1.out hn)
            clear W8' W7 W6 W5 W4 b8' b7' b6' b5' W0
            go_wp2_with fail
            refine CB.out.mono ?_; rintro e w9 ⟨A9, n9, c9, rfl, own9, b9⟩
            have W9 : WrB w9 gw (dataBits v L seq) := by
              obtain ⟨Aw, nw, cw, hwr⟩ := W8
              exact ⟨Aw, nw, cw, (b9.block gw hwr.box.lt).trans hwr.box, hwr.own.below b9 (Nat.le_refl _)⟩
            go_wp2_with fail
            refine (wbytesB gw _ w9 W9 (dataBits_bit _ _ _) (by rw [dataBits_length]; omega)).mono ?_; rintro e w10 ⟨A10, n10, c10, rfl, own10, b10⟩
            have rd10 := own10.rd
            have HN10 := Lib.hid rd10.len8
            go_wp2_with fail
            refine (sealC16 A10 n10 c10 _ w10 rd10 (toBytes256 _ (dataBits_bit _ _ _)) own10.none_ (by rw [rd10.len8, Bm.toBytes_length, dataBits_length]; omega)).mono ?_; rintro e w11 ⟨A11, n11, c11, rfl, own11, b11⟩
            have be911 := Below.then_ b10 b11
            have rd9 : Rd w11 w11.heap.size A9 n9 (U8 (Bm.toBytes body)) := own9.rdOf be911
            have HN9 := Lib.hid rd9.len8
            have hn9 : n9 ≤ 70000 := by rw [HN9.out, Bm.toBytes_length, ← HN.out]; omega
            have HN11 := Lib.hid own11.rd.len8
            have hn11 : n11 ≤ 100 := by rw [HN11.out, Crc.seal16_length, Bm.toBytes_length, dataBits_length]; omega
            have hnone9 := own9.none_
            obtain ⟨i0, hi0, hz0, hz1, hz2⟩ := info_parts info5
            have hs11 := b11.size
            go_wp2_with (at_builtin; refine wpList_app _ rfl _ _ 22 rfl w10.heap.size 5 i0 _ 1 Tryd.underlying22 hi0 hz0 hz1 hz2 rfl A11 n11 c11 _ rfl own11 w11.heap.size A9 n9 c9 (U8 (Bm.toBytes body)) rfl rd9 hnone9 (U8_one _) (by omega) (by unfold maxLen; omega) hs11 ?_; intro A12 c12 w12 own12 hgr12)
            go_ret2
            have b19 : Below w1.heap.size w1 w9 := Below.then_ b18 b9
            have b110 : Below w1.heap.size w1 w10 := Below.then_ b19 b10
            have b012 : Below w.heap.size w w10 := Below.then_ bel1 b110
            refine ⟨A12, n11 + n9, c12, by rw [HE.out]; rfl, ?_, ?_⟩
            · rw [HWB.out]
              unfold dataW
              rw [U8_append]
              exact own12.down b012.size
            · have bx : Below w10.heap.size w10 w12 := b11.grown hgr12 b11.size (fun j hj => (own11.block j hj).1)
              exact Below.then_ b012 bx
          · have HE : Hid (wE ver len body = 13) := by unfold Hid; rw [HW0.out, ← HN.out, if_pos hne]
            have t1 : ((n : Int) != F) = true := by simp [hne]
            go_upto_region 5 with (first | (go_at_call 70; refine CR.out.mono ?_; rintro e w' ⟨rfl, rfl⟩) | (go_at_call 42; refine CL.out.mono ?_; rintro e w' ⟨rfl, rfl⟩))
            go_quiet ((go_at_call 14; exact CQ.out _))
            go_wp2
            go_ret2
            obtain ⟨A0, n0, c0, he, ho, hb⟩ := nil1 13 HE.out (by omega)
            exact ⟨A0, n0, c0, he, ho.below (B := w1.heap.size) (below_drawn _) (Nat.le_refl _), hb.trans (below_drawn _)⟩
        · have e : (decide (0 ≤ len) && decide (len ≤ 64)) = false := by
            by_cases h1 : 0 ≤ len
            · rw [decide_eq_false (p := len ≤ 64) (by omega), Bool.and_false]
            · rw [decide_eq_false h1, Bool.false_and]
          rw [e] at CL
          have HE : Hid (wE ver len body = 7) := HW0.out.trans (if_pos hl)
          clear hl e
          go_wp2_with (first | (go_at_call 70; refine CR.out.mono ?_; rintro e w' ⟨rfl, rfl⟩) | (go_at_call 42; refine CL.out.mono ?_; rintro e w' ⟨rfl, rfl⟩))
          go_ret2
          exact nil1 7 HE.out (by omega)
/-- Why a frame isn't written; its bytes. -/
def WE (kind ver len : Int) (body : List Nat) : Int := if kind = 1 then wE ver len body else if kind = 2 then 0 else 4
def WB (kind : Int) (seq : Nat) (ver len : Int) (body : List Nat) (base more : Nat) : List Nat := if kind = 1 then wB ver len seq body else if kind = 2 then ackW base more else []
set_option maxHeartbeats 1000000 in
/-- frame.Write. -/
theorem writeC (kind : Int) (seq : Nat) (ver len : Int) (A : Option Addr) (n c : Nat) (base more : Nat) (body : List Nat) (w : World) (hs : seq < 65536) (hv : -9223372036854775808 ≤ ver ∧ ver ≤ 9223372036854775807) (hr : Rd w w.heap.size A n (U8 body)) (h256 : ∀ b ∈ body, b < 256) (hn : n ≤ 65536) (hb : base < 65536) (hm : more < 4294967296) :
    Calls Tryd.prog 11 #[.agg (FV kind seq ver len (.slice A n c) base more)] w (WOut w (WB kind seq ver len body base more) (WE kind ver len body)) := by
  go_enter Tryd.func11, Tryd.ntmps11
  go_upto_region 1 with (refine at_box rfl 32 _ rfl (FV kind seq ver len (.slice A n c) base more) rfl ?_; intro w1 L1)
  have bel1 := L1.bel
  have q1 := L1.row
  clear L1
  have c0 : w1.cell? ⟨w.heap.size, 0, none⟩ = some (.int .i64 kind) := (q1.cell 0).trans rfl
  have r1 := (hr.below bel1).up bel1.size
  obtain ⟨g, hg⟩ : ∃ g, g = w.heap.size := ⟨_, rfl⟩
  rw [← hg] at q1 c0 ⊢
  clear hg
  by_cases h1 : kind = 1
  · have HE : Hid (WE kind ver len body = wE ver len body) := if_pos h1
    have HB : Hid (WB kind seq ver len body base more = wB ver len seq body) := if_pos h1
    subst h1
    have C := Lib.hid (writeDataC 1 seq ver len A n c base more body w1 hs hv r1 h256 hn)
    go_wp2_with (first | (refine at_load rfl 32 _ rfl g rfl 32 (FV 1 seq ver len (.slice A n c) base more) _ q1 Tryd.underlying32 rfl (infoF _ _ _ _ _ _ _) ?_) | (go_at_call 34; refine C.out.mono ?_; rintro e w2 ⟨A2, n2, c2, rfl, own2, b2⟩))
    go_ret2
    exact ⟨A2, n2, c2, by rw [HE.out]; rfl, by rw [HB.out]; exact own2.down bel1.size, Below.then_ bel1 b2⟩
  · by_cases h2 : kind = 2
    · have HE : Hid (WE kind ver len body = 0) := (if_neg h1).trans (if_pos h2)
      have HB : Hid (WB kind seq ver len body base more = ackW base more) := (if_neg h1).trans (if_pos h2)
      subst h2
      have C := Lib.hid (writeAckC base more w1 hb hm)
      have hrg : w1.rangeAt g 5 (mv base more).toList := q1.range 5 _ (fun i u hu => by
        match i, hu with
        | 0, hu => exact hu
        | 1, hu => exact hu
        | i + 2, hu => simp [mv] at hu)
      go_wp2_with (first | (refine at_load_mid rfl 30 _ rfl g 5 rfl (mv base more) _ hrg Tryd.underlying30 rfl (infoMap _ _) ?_) | (go_at_call 35; refine C.out.mono ?_; rintro e w2 ⟨A2, n2, c2, rfl, own2, b2⟩))
      go_ret2
      exact ⟨A2, n2, c2, by rw [HE.out]; rfl, by rw [HB.out]; exact own2.down bel1.size, Below.then_ bel1 b2⟩
    · have HE : Hid (WE kind ver len body = 4) := (if_neg h1).trans (if_neg h2)
      have HB : Hid (WB kind seq ver len body base more = []) := (if_neg h1).trans (if_neg h2)
      have e1 : (kind == 1) = false := beq_false_of_ne h1
      have e2 : (kind == 2) = false := beq_false_of_ne h2
      go_wp2
      go_ret2
      exact ⟨none, 0, 0, by rw [HE.out]; rfl, by rw [HB.out]; exact Own.nil _ _ _, bel1⟩
end Go.Proofs.YtkmacepodomdmaaDoor
