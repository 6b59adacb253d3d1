/-
  Layer 16: what is read of bytes, as the code and as the reference have it: the same numbers; written again it is the bytes.
-/
import Derived.Test.YtkmacepodomdmaaDoorGi
import Derived.Test.YtkmacepodomdmaaDoorFj
import Derived.Test.YtkmacepodomdmaaDoorRc
namespace Go.Proofs.YtkmacepodomdmaaDoor
open Go.RowKit
set_option maxRecDepth 100000
set_option linter.unusedVariables false

/-- The numbers of what is read. -/
structure FN (l : List Nat) (k : Int) (q : Nat) (ve le : Int) (b m : Nat) : Prop where
  hq : q < 65536
  hb : b < 65536
  hm : m < 4294967296
  hv : -9223372036854775808 ≤ ve ∧ ve ≤ 9223372036854775807
  ref : ∀ B, rF l B = RV k q ve le B b m
  yes : rdX l = .nil → (∀ B, restF (kd l) ((hb76 l).drop 4) B = FV k q ve le B b m) ∧ rB l = restB (kd l) ((hb76 l).drop 4) ∧ (∀ x ∈ rB l, x ≤ 1) ∧ WE k ve le (rB l) = 0 ∧ WB k q ve le (rB l) b m = l
  no : rdX l ≠ .nil → rB l = [] ∧ ∀ B, FV k q ve le B b m = FV 0 0 0 0 B 0 0
theorem rB_le (l : List Nat) : (rB l).length ≤ 608 := by
  unfold rB
  split
  · unfold restB
    split
    · simp
    · rw [List.length_take, List.length_drop, List.length_drop, hb76_length]; omega
  · simp
theorem rB_bit (l : List Nat) : ∀ x ∈ rB l, x ≤ 1 := by
  unfold rB
  split
  · unfold restB
    split
    · intro x hx; cases hx
    · intro x hx
      exact hb76_bit l x (List.mem_of_mem_drop (List.mem_of_mem_drop (List.mem_of_mem_take hx)))
  · intro x hx; cases hx
theorem frame_of (l : List Nat) (hl : ∀ b ∈ l, b < 256) : ∃ (k : Int) (q : Nat) (ve le : Int) (b m : Nat), FN l k q ve le b m := by
  have hbit := Bm.ofBytes_bit l
  have dbit : ∀ i, ∀ x ∈ (Bm.ofBytes l).drop i, x ≤ 1 := fun i x hx => hbit x (List.mem_of_mem_drop hx)
  by_cases hx : rdX l = .nil
  · have hB : rB l = restB (kd l) ((hb76 l).drop 4) := by unfold rB; rw [if_pos hx]
    have hR : ∀ B, rF l B = restR (kd l) ((hb76 l).drop 4) B := fun B => by unfold rF; rw [if_pos hx]
    have h0 : l.length ≠ 0 := fun h => by unfold rdX at hx; rw [if_pos h] at hx; cases hx
    have hk : kd l = 1 ∨ kd l = 2 := by
      apply Classical.byContradiction
      intro h
      unfold rdX at hx; rw [if_neg h0, if_pos (by omega)] at hx; cases hx
    have hs : ¬ l.length < hdn (kd l) := fun h => by
      unfold rdX at hx; rw [if_neg h0, if_neg (by omega), if_pos h] at hx; cases hx
    have hok : Crc.ok16 (l.take (hdn (kd l))) = true := by
      cases h : Crc.ok16 (l.take (hdn (kd l))) with
      | true => rfl
      | false => unfold rdX at hx; rw [if_neg h0, if_neg (by omega), if_neg hs, if_pos h] at hx; cases hx
    rcases hk with hk | hk
    · rw [hk] at hs hok hB hR
      have h6 : 6 ≤ l.length := by have : hdn 1 = 6 := rfl; omega
      obtain ⟨L, hL⟩ : ∃ L, L = num (((Bm.ofBytes l).drop 8).take 8) := ⟨_, rfl⟩
      have hx2 := hx
      rw [rdX_data h6 hk hok L hL] at hx2
      have hz : num (((Bm.ofBytes l).drop 6).take 2) = 0 := by
        apply Classical.byContradiction
        intro h; rw [if_pos h] at hx2; cases hx2
      rw [if_neg (by simpa using hz)] at hx2
      have hL64 : ¬ 64 < L := fun h => by rw [if_pos h] at hx2; cases hx2
      rw [if_neg hL64] at hx2
      have hn1 : ¬ l.length < L + 11 := fun h => by rw [if_pos h] at hx2; cases hx2
      rw [if_neg hn1] at hx2
      have hn2 : ¬ L + 11 < l.length := fun h => by rw [if_pos h] at hx2; cases hx2
      rw [if_neg hn2] at hx2
      have hw : Bm.wt ((Bm.ofBytes l).drop (8 * (L + 4) + 54)) = 0 := by
        apply Classical.byContradiction
        intro h; rw [if_neg h] at hx2; cases hx2
      obtain ⟨hv4, hdw⟩ := data_of hl L hL (by omega) hk hok hz hw
      have e2 := hbCut l 0 2 (by omega)
      rw [List.drop_zero] at e2
      have e8 := hbCut l 4 8 (by omega)
      have e16 := hbCut l 12 16 (by omega)
      have hB2 : rB l = ((Bm.ofBytes l).drop 48).take (8 * (L + 4) + 6) := by
        rw [hB]; unfold restB
        rw [if_neg (by omega), e8, ← hL, hbCut l 44 _ (by omega)]
      have hXl := Bm.ofBytes_length l
      have hBl : (rB l).length = 8 * (L + 4) + 6 := by rw [hB2, List.length_take, List.length_drop]; omega
      have hBb := rB_bit l
      refine ⟨1, num (((Bm.ofBytes l).drop 16).take 16), (num (((Bm.ofBytes l).drop 4).take 2) : Nat), (L : Nat), 0, 0, num_take_lt _ (dbit 16) 16, by omega, by omega, by omega, fun B => ?_, fun _ => ⟨fun B => ?_, by rw [hB, hk], hBb, ?_, ?_⟩, fun h => absurd hx h⟩
      · rw [hR]; unfold restR
        rw [if_neg (by omega), e2, e8, e16, ← hL]; rfl
      · rw [hk]; unfold restF
        rw [if_neg (by omega), e2, e8, e16, ← hL]
      · unfold WE
        rw [if_pos rfl]
        unfold wE
        rw [if_neg (by rw [Bm.isB_of hBb]; intro h; rcases h with h | h | h <;> first | omega | cases h), if_neg (by omega), if_neg]
        rw [hBl]; unfold fb
        rw [if_pos (by omega)]
        omega
      · unfold WB
        rw [if_pos rfl]
        unfold wB wE
        rw [if_pos]
        · rw [hB2]; exact hdw
        · rw [if_neg (by rw [Bm.isB_of hBb]; intro h; rcases h with h | h | h <;> first | omega | cases h), if_neg (by omega), if_neg]
          rw [hBl]; unfold fb
          rw [if_pos (by omega)]
          omega
    · rw [hk] at hs hok hB hR
      have h9 : 9 ≤ l.length := by have : hdn 2 = 9 := rfl; omega
      have hx2 := hx
      rw [rdX_ack h9 hk hok] at hx2
      have hz : num (((Bm.ofBytes l).drop 4).take 4) = 0 := by
        apply Classical.byContradiction
        intro h; rw [if_pos h] at hx2; cases hx2
      rw [if_neg (by simpa using hz)] at hx2
      have hn2 : ¬ 9 < l.length := fun h => by rw [if_pos h] at hx2; cases hx2
      have haw := ack_of hl (by omega) hk hok hz
      have e16 := hbCut l 4 16 (by omega)
      have e32 := hbCut l 20 32 (by omega)
      have hB2 : rB l = [] := by rw [hB]; unfold restB; rw [if_pos rfl]
      refine ⟨2, 0, 0, 0, num (((Bm.ofBytes l).drop 8).take 16), num (((Bm.ofBytes l).drop 24).take 32), by omega, num_take_lt _ (dbit 8) 16, num_take_lt _ (dbit 24) 32, by omega, fun B => ?_, fun _ => ⟨fun B => ?_, by rw [hB, hk], rB_bit l, ?_, ?_⟩, fun h => absurd hx h⟩
      · rw [hR]; unfold restR
        rw [if_pos rfl, e16, e32]; rfl
      · rw [hk]; unfold restF
        rw [if_pos rfl, e16, e32]
      · unfold WE
        rw [if_neg (by omega), if_pos rfl]
      · unfold WB
        rw [if_neg (by omega), if_pos rfl]
        exact haw
  · have hB : rB l = [] := by unfold rB; rw [if_neg hx]
    refine ⟨0, 0, 0, 0, 0, 0, by omega, by omega, by omega, by omega, fun B => ?_, fun h => absurd h hx, fun _ => ⟨hB, fun B => rfl⟩⟩
    unfold rF; rw [if_neg hx]; rfl
/-- frame.Read, by these numbers. -/
theorem readN (A : Option Addr) (n c : Nat) (l : List Nat) (a : Nat → Addr) (w : World) (hr : Rd w w.heap.size A n (U8 l)) (hl : ∀ b ∈ l, b < 256) (hnc : n ≤ c) (hc : c ≤ 9223372036854775807) (hE : ErrsAt w a) {k : Int} {q : Nat} {ve le : Int} {b m : Nat} (hN : FN l k q ve le b m) :
    Calls Tryd.prog 15 #[.slice A n c] w fun e w' => ∃ A5 n5 c5, e = .returned (.tuple #[.agg (FV k q ve le (.slice A5 n5 c5) b m), .int .i64 (ErN (rdX l))]) ∧ Rd w' w'.heap.size A5 n5 (U8 (rB l)) ∧ (A5 = none → n5 = 0) ∧ n5 ≤ 1000 ∧ Below w.heap.size w w' := by
  refine (readTopC A n c l a w hr hl hnc hc hE).mono ?_
  rintro e w' ⟨F, rfl, hy, hn, hbel⟩
  by_cases hx : rdX l = .nil
  · obtain ⟨A5, n5, c5, rfl, own⟩ := hy hx
    obtain ⟨h1, h2, _⟩ := hN.yes hx
    have hl5 := own.rd.len8
    have hle := rB_le l
    rw [h2] at hle
    exact ⟨A5, n5, c5, by rw [h1], by rw [h2]; exact own.rd, fun h => (own.none_ h).1, by omega, hbel⟩
  · obtain ⟨h1, h2⟩ := hN.no hx
    refine ⟨none, 0, 0, by rw [hn hx, ← h2], ?_, fun _ => rfl, by omega, hbel⟩
    rw [h1]; exact ⟨rfl, fun h => absurd h (by omega)⟩
/-- The reference's. -/
theorem rreadN (A : Option Addr) (n c : Nat) (l : List Nat) (w : World) (hr : Rd w w.heap.size A n (U8 l)) (hl : ∀ b ∈ l, b < 256) (hnc : n ≤ c) (hc : c ≤ 9223372036854775807) (hn : n ≤ 120) {k : Int} {q : Nat} {ve le : Int} {b m : Nat} (hN : FN l k q ve le b m) :
    Calls Tryd.prog 16 #[.slice A n c] w fun e w' => ∃ A5 n5 c5, e = .returned (.tuple #[.agg (RV k q ve le (.slice A5 n5 c5) b m), .int .i64 (ErN (rdX l))]) ∧ Rd w' w'.heap.size A5 n5 (U8 (rB l)) ∧ (A5 = none → n5 = 0) ∧ n5 ≤ 1000 ∧ Below w.heap.size w w' := by
  refine (rread16 A n c l w hr hl hnc hc hn).mono ?_
  rintro e w' ⟨A5, n5, c5, rfl, hr5, hn5, hle, hbel⟩
  exact ⟨A5, n5, c5, by rw [hN.ref], hr5, hn5, hle, hbel⟩
theorem ErN_zero (x : Er) (l : List Nat) (h : x = rdX l) : ErN x = 0 ↔ x = .nil := by
  constructor
  · intro h0
    cases x with
    | nil => rfl
    | told e =>
      exfalso
      have h1 : e = 0 := h0
      subst h1
      have : rdX l ≠ .told 0 := by
        unfold rdX
        split
        · intro h; injection h with h; omega
        · split
          · intro h; cases h
          · split
            · intro h; cases h
            · split
              · intro h; cases h
              · split
                · split
                  · intro h; cases h
                  · rename_i hp
                    intro h; injection h with h
                    exact hp (by omega)
                · intro hh
                  rename_i y hy
                  unfold restX at hh
                  repeat' split at hh
                  all_goals first | (injection hh with hh; omega) | cases hh
      exact this h.symm
    | sent i =>
      exfalso
      have h1 : ([4, 2, 6, 5, 7] : List Int).getD i 0 = 0 := h0
      have hi : i < 5 := by
        have : rdX l = .sent i := h.symm
        unfold rdX at this
        split at this
        · cases this
        · split at this
          · injection this with this; omega
          · split at this
            · injection this with this; omega
            · split at this
              · injection this with this; omega
              · split at this
                · split at this
                  · cases this
                  · cases this
                · unfold restX at this
                  repeat' split at this
                  all_goals first | (injection this with this; omega) | cases this
      have : i = 0 ∨ i = 1 ∨ i = 2 ∨ i = 3 ∨ i = 4 := by omega
      rcases this with rfl | rfl | rfl | rfl | rfl <;> simp at h1
  · intro h; rw [h]; rfl
set_option maxHeartbeats 1000000 in
set_option maxRecDepth 100000 in
/-- Same, of frames that are the same. -/
theorem r16SameC (k : Int) (q : Nat) (v l : Int) (b m : Nat) (A : Option Addr) (n c : Nat) (A' : Option Addr) (n' c' : Nat) (bs : List Nat) (w : World) (hr : Rd w w.heap.size A n (U8 bs)) (hr' : Rd w w.heap.size A' n' (U8 bs)) (hn : A = none → n = 0) (hn' : A' = none → n' = 0) :
    Calls Tryd.prog 17 #[.agg (RV k q v l (.slice A n c) b m), .agg (RV k q v l (.slice A' n' c') b m)] w fun e w' => e = .returned (.bool true) ∧ Below w.heap.size w w' := by
  go_enter Tryd.func17, Tryd.ntmps17
  go_upto_region 1 with (first | (refine at_box rfl 25 (.tmp 1) rfl (RV k q v l (.slice A' n' c') b m) rfl ?_; intro w2 L2) | (refine at_box rfl 25 (.tmp 0) rfl (RV k q v l (.slice A n c) b m) rfl ?_; intro w1 L1))
  have p1 := L1.row.after L2.bel
  have p2 := L2.row
  have bel := Below.then_ L1.bel L2.bel
  obtain ⟨g1, hg1⟩ : ∃ g, g = w.heap.size := ⟨_, rfl⟩
  obtain ⟨g2, hg2⟩ : ∃ g, g = w1.heap.size := ⟨_, rfl⟩
  rw [← hg1] at p1 ⊢
  rw [← hg2] at p2 ⊢
  have c0 : w2.cell? ⟨g1, 0, none⟩ = some (.int .i64 k) := (p1.cell 0).trans rfl
  have c1 : w2.cell? ⟨g1, 1, none⟩ = some (.int .i64 (q : Int)) := (p1.cell 1).trans rfl
  have c2 : w2.cell? ⟨g1, 2, none⟩ = some (.int .i64 v) := (p1.cell 2).trans rfl
  have c3 : w2.cell? ⟨g1, 3, none⟩ = some (.int .i64 l) := (p1.cell 3).trans rfl
  have c4 : w2.cell? ⟨g1, 4, none⟩ = some (.slice A n c) := (p1.cell 4).trans rfl
  have c5 : w2.cell? ⟨g1, 5, none⟩ = some (.int .i64 (b : Int)) := (p1.cell 5).trans rfl
  have c6 : w2.cell? ⟨g1, 6, none⟩ = some (.int .u32 (m : Int)) := (p1.cell 6).trans rfl
  have d0 : w2.cell? ⟨g2, 0, none⟩ = some (.int .i64 k) := (p2.cell 0).trans rfl
  have d1 : w2.cell? ⟨g2, 1, none⟩ = some (.int .i64 (q : Int)) := (p2.cell 1).trans rfl
  have d2 : w2.cell? ⟨g2, 2, none⟩ = some (.int .i64 v) := (p2.cell 2).trans rfl
  have d3 : w2.cell? ⟨g2, 3, none⟩ = some (.int .i64 l) := (p2.cell 3).trans rfl
  have d4 : w2.cell? ⟨g2, 4, none⟩ = some (.slice A' n' c') := (p2.cell 4).trans rfl
  have d5 : w2.cell? ⟨g2, 5, none⟩ = some (.int .i64 (b : Int)) := (p2.cell 5).trans rfl
  have d6 : w2.cell? ⟨g2, 6, none⟩ = some (.int .u32 (m : Int)) := (p2.cell 6).trans rfl
  have kc1 : (convert 22 9 (.slice A n c)).run Tryd.prog w2 = .ok (.string (str bs)) w2 := hr.conv hn w2 bel
  have kc2 : (convert 22 9 (.slice A' n' c')).run Tryd.prog w2 = .ok (.string (str bs)) w2 := hr'.conv hn' w2 bel
  have HB := Lib.hid bel
  generalize str bs = s0 at *
  have es : (s0.toList == s0.toList) = true := by simp
  have e0 : (k == k) = true := by simp
  have e1 : ((q : Int) == (q : Int)) = true := by simp
  have e2 : (v == v) = true := by simp
  have e3 : (l == l) = true := by simp
  have e5 : ((b : Int) == (b : Int)) = true := by simp
  have e6 : ((m : Int) == (m : Int)) = true := by simp
  clear p1 p2 L1 L2 bel hr hr' hg1 hg2
  go_wp2_with fail
  go_ret
  exact ⟨rfl, HB.out⟩
end Go.Proofs.YtkmacepodomdmaaDoor
