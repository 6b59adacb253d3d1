/-
  Layer 12: lower.
-/
import Derived.Test.YtknfpdlomgllhaaDoorQd
namespace Go.Proofs.YtknfpdlomgllhaaDoor
open Go.RowKit
set_option maxRecDepth 100000
set_option linter.unusedVariables false
set_option linter.unusedSimpArgs false

theorem infoHop3 : (Tryd.prog.info? 144).map (·.size) = some 3 := by kernel_rfl
theorem ZHop_eq : (Tryd.prog.info? 144).bind (fun i => i.zero.map (fun z => z.cells)) = some #[.int .i64 0, .int .i64 0, .int .i64 0] := by kernel_rfl
/-- A hop as a block. -/
def A3 (f g n : Nat) : Array Value := #[.int .i64 (f : Int), .int .i64 (g : Int), .int .i64 (n : Int)]
theorem A3_one (f g n : Nat) : (A3 f g n).all (·.oneCell') = true := by simp [A3, Value.oneCell']
/-- What lower gives. -/
def LowerOk (u : Nat → Nat) (w : World) (gb : Nat) (A0 : List Nat) (e : Ending) (w' : World) : Prop := ∃ A c, e = .returned (.bool c) ∧ Blk w' gb 88 (W4 (nw A)) ∧ Pass2 u A0 A c 504 ∧ (∀ k, k < w.heap.size → k ≠ gb → w'.heap[k]? = w.heap[k]?) ∧ Below gb w w'
set_option maxHeartbeats 2000000 in
set_option maxRecDepth 100000 in
/-- distance.lower. -/
theorem dlower (u : Nat → Nat) (gb gh c : Nat) (A0 : List Nat) (w : World) (hu : ∀ v, v < 4 → u v ≤ 7) (hq : Blk w gb 88 (W4 (nw A0))) (hA : T2 u A0) (hF : F2 u A0 4) (hh : ∀ i v, (hops u 504)[i]? = some v → w.cell? ⟨gh, i, none⟩ = some v) (hgl : gh < w.heap.size) (hne : gh ≠ gb) :
    Calls Tryd.prog 49 #[.pointer (some ⟨gb, 0, none⟩), .slice (some ⟨gh, 0, none⟩) 504 c] w (LowerOk u w gb A0) := by
  have HP0 := Lib.hid (Pass2.start hA hF)
  have HH := Lib.hid (hops_get u 504)
  have HU := Lib.hid hu
  clear hA hF hu
  go_enter Tryd.func49, Tryd.ntmps49
  go_wp2
  go_loopw [5, 11] (fun b i wr => ∃ k : Nat, k ≤ 504 ∧ i = .int .i64 k ∧ ∃ A cc, b = .bool cc ∧ Blk wr gb 88 (W4 (nw A)) ∧ Hid (Pass2 u A0 A cc k) ∧ (∀ k, k < w.heap.size → k ≠ gb → wr.heap[k]? = w.heap[k]?) ∧ Below gb w wr ∧ w.heap.size ≤ wr.heap.size) (fun _ i _ => 504 - (intOf i).toNat)
  case atStart => exact ⟨0, by omega, rfl, A0, false, rfl, hq, HP0.out, fun _ _ _ => rfl, Below.refl _ _, Nat.le_refl _⟩
  case round =>
    clear HP0
    obtain ⟨k, hk, rfl, A, cc, rfl, qb, HP, hoth, bel, hsz⟩ := hrel
    by_cases hlt : k < 504
    · have dk : decide ((k : Int) < 504) = true := by simp <;> omega
      have hF := hpF_lt k hlt
      have hG := hpG_lt k hlt
      have hn : hpW u k ≤ 28 := Cv.ew_bound HU.out _ _ _
      have hlen := HP.out.tab.len
      have hle := HP.out.tab.le (hpF k)
      have cF := (qb.cell (hpF k)).trans (W4nw_get A (hpF k) (by rw [hlen]; exact hF))
      have cG := (qb.cell (hpG k)).trans (W4nw_get A (hpG k) (by rw [hlen]; exact hG))
      have HKp := Lib.hid HP.out.keep
      have HLs := Lib.hid (HP.out.less hlt)
      have hcell : ∀ i v, (hops u 504)[i]? = some v → wr.cell? ⟨gh, i, none⟩ = some v := fun i v hv => by
        have := hoth gh hgl hne
        rw [← hh i v hv]
        show World.cell? wr _ = World.cell? w _
        simp only [World.cell?, this]
      have HRA : Hid (wr.rangeAt gh (3 * k) (A3 (hpF k) (hpG k) (hpW u k)).toList) := fun j v hv => by
        have hj : j < 3 := by
          have := (List.getElem?_eq_some_iff.1 hv).1
          simpa [A3] using this
        refine hcell (3 * k + j) v ((HH.out k j hlt hj).trans ?_)
        rw [← hv]
        rfl
      have iA : Hid ((Tryd.prog.info? 144).map (·.size) = some (A3 (hpF k) (hpG k) (hpW u k)).size) := infoHop3
      have ih := fun W => run_idxR (P := Tryd.prog) (sz := 3) Tryd.underlying90 (by kernel_rfl) gh 0 504 c k hlt .i64 W
      simp only [Nat.zero_add] at ih
      have sz : hpG k < (W4 (nw A)).size := by rw [W4nw_size, hlen]; exact hG
      generalize hpF k = f at *
      generalize hpG k = g at *
      generalize hpW u k = n at *
      generalize A.getD f 0 = a at *
      generalize A.getD g 0 = b at *
      have iF := fun W => run_idx (P := Tryd.prog) (sz := 1) Tryd.underlying88 (by kernel_rfl) gb 0 f hF .i64 W
      have iG := fun W => run_idx (P := Tryd.prog) (sz := 1) Tryd.underlying88 (by kernel_rfl) gb 0 g hG .i64 W
      simp only [Nat.zero_add, Nat.one_mul] at iF iG
      have HA1 := Lib.hid (A3_one f g n)
      have H0 : Hid ((A3 f g n)[0]? = some (.int .i64 (f : Int)) ∧ (A3 f g n)[1]? = some (.int .i64 (g : Int)) ∧ (A3 f g n)[2]? = some (.int .i64 (n : Int))) := ⟨rfl, rfl, rfl⟩
      have HAS : Hid ((#[Value.int .i64 0, .int .i64 0, .int .i64 0] : Array Value).size = (A3 f g n).size) := rfl
      generalize A3 f g n = V at *
      obtain ⟨m, hm⟩ : ∃ m, a + n = m := ⟨_, rfl⟩
      have f1 : IntKind.i64.wrap ((a : Int) + (n : Int)) = (m : Int) := by rw [IntWalk.i64_in _ (by omega)]; omega
      rw [hm] at HKp HLs
      have hm2 : m ≤ 10000 := by omega
      clear hm hcell hle hlen
      go_upto_region 5 with (first | (refine at_load_mid rfl 144 _ rfl gh (3 * k) rfl V _ HRA.out Tryd.underlying144 rfl iA.out ?_) | (refine at_alloc rfl 144 rfl _ ZHop_eq ?_; intro w7 h7) | (refine at_store rfl 144 _ _ rfl wr.heap.size V rfl rfl 144 _ h7.row iA.out HAS.out HA1.out ?_; intro w8 h8))
      have lb := qb.lt
      have q8 := h8.row
      have b78 : Below wr.heap.size wr w8 := h7.bel.trans (h8.below (Nat.le_refl _))
      have qb8 := qb.after b78
      have c0 : w8.cell? ⟨wr.heap.size, 0, none⟩ = some (.int .i64 (f : Int)) := (q8.cell 0).trans H0.out.1
      have c2 : w8.cell? ⟨wr.heap.size, 2, none⟩ = some (.int .i64 (n : Int)) := (q8.cell 2).trans H0.out.2.2
      have cF8 := (b78.cell (p := ⟨gb, f, none⟩) (by show gb < wr.heap.size; exact lb)).trans cF
      have cG8 := (b78.cell (p := ⟨gb, g, none⟩) (by show gb < wr.heap.size; exact lb)).trans cG
      have hgn : gb ≠ wr.heap.size := by omega
      have hoth8 : ∀ k, k < w.heap.size → k ≠ gb → w8.heap[k]? = w.heap[k]? := fun k h1 h2 => (b78.block k (by omega)).trans (hoth k h1 h2)
      have bel8 := bel.trans (b78.mono (Nat.le_of_lt lb))
      have hsz8 := Nat.le_trans hsz b78.size
      obtain ⟨gn, hgn2⟩ : ∃ g, g = wr.heap.size := ⟨_, rfl⟩
      rw [← hgn2] at q8 c0 c2 hgn
      rw [← hgn2]
      clear h7 h8 b78 hgn2 cF cG HRA qb hoth hsz bel
      refine wp_region_noPanic ?_
      refine wp_region_held_drew (S := fun W => W.cell? ⟨gn, 0, none⟩ = some (.int .i64 (f : Int)) ∧ W.cell? ⟨gn, 2, none⟩ = some (.int .i64 (n : Int)) ∧ W.cell? ⟨gb, f, none⟩ = some (.int .i64 (a : Int))) (by kernel_rfl) ⟨c0, c2, cF8⟩ (fun hHeld => ?_)
      refine wpAnyH_take (i := 0) (oi := ⟨some 15, _, _, _, _, _⟩) (v := ?_) rfl (by kernel_rfl) (by kernel_rfl) (by kernel_rfl) (fun _ _ _ h => h) (Or.inl ⟨by rfl, ?_⟩) hHeld ?_
      rotate_left
      · intro W hSW; obtain ⟨hSW0, hSW1, hSW2⟩ := hSW; go_simp; first | done | with_reducible rfl
      (try simp only [Act.put, List.setIfInBounds_toArray, List.set_cons_zero, List.set_cons_succ])
      refine wpAnyH_take (i := 1) (oi := ⟨some 16, _, _, _, _, _⟩) (v := ?_) rfl (by kernel_rfl) (by kernel_rfl) (by kernel_rfl) (fun _ _ _ h => h) (Or.inl ⟨by rfl, ?_⟩) hHeld ?_
      rotate_left
      · intro W hSW; obtain ⟨hSW0, hSW1, hSW2⟩ := hSW; go_simp; first | done | with_reducible rfl
      (try simp only [Act.put, List.setIfInBounds_toArray, List.set_cons_zero, List.set_cons_succ])
      refine wpAnyH_take (i := 2) (oi := ⟨some 17, _, _, _, _, _⟩) (v := ?_) rfl (by kernel_rfl) (by kernel_rfl) (by kernel_rfl) (fun _ _ _ h => h) (Or.inl ⟨by rfl, ?_⟩) hHeld ?_
      rotate_left
      · intro W hSW; obtain ⟨hSW0, hSW1, hSW2⟩ := hSW; go_simp; first | done | with_reducible rfl
      (try simp only [Act.put, List.setIfInBounds_toArray, List.set_cons_zero, List.set_cons_succ])
      refine wpAnyH_take (i := 3) (oi := ⟨some 18, _, _, _, _, _⟩) (v := ?_) rfl (by kernel_rfl) (by kernel_rfl) (by kernel_rfl) (fun _ _ _ h => h) (Or.inl ⟨by rfl, ?_⟩) hHeld ?_
      rotate_left
      · intro W hSW; obtain ⟨hSW0, hSW1, hSW2⟩ := hSW; go_simp; first | done | with_reducible rfl
      (try simp only [Act.put, List.setIfInBounds_toArray, List.set_cons_zero, List.set_cons_succ])
      refine wpAnyH_take (i := 4) (oi := ⟨some 19, _, _, _, _, _⟩) (v := ?_) rfl (by kernel_rfl) (by kernel_rfl) (by kernel_rfl) (fun _ _ _ h => h) (Or.inl ⟨by rfl, ?_⟩) hHeld ?_
      rotate_left
      · intro W hSW; obtain ⟨hSW0, hSW1, hSW2⟩ := hSW; go_simp; first | done | with_reducible rfl
      (try simp only [Act.put, List.setIfInBounds_toArray, List.set_cons_zero, List.set_cons_succ])
      refine wpAnyH_take (i := 5) (oi := ⟨some 20, _, _, _, _, _⟩) (v := ?_) rfl (by kernel_rfl) (by kernel_rfl) (by kernel_rfl) (fun _ _ _ h => h) (Or.inl ⟨by rfl, ?_⟩) hHeld ?_
      rotate_left
      · intro W hSW; obtain ⟨hSW0, hSW1, hSW2⟩ := hSW; go_simp; first | done | with_reducible rfl
      (try simp only [Act.put, List.setIfInBounds_toArray, List.set_cons_zero, List.set_cons_succ])
      refine wpAnyH_take (i := 6) (oi := ⟨some 21, _, _, _, _, _⟩) (v := ?_) rfl (by kernel_rfl) (by kernel_rfl) (by kernel_rfl) (fun _ _ _ h => h) (Or.inl ⟨by rfl, ?_⟩) hHeld ?_
      rotate_left
      · intro W hSW; obtain ⟨hSW0, hSW1, hSW2⟩ := hSW; go_simp; first | done | with_reducible rfl
      (try simp only [Act.put, List.setIfInBounds_toArray, List.set_cons_zero, List.set_cons_succ])
      refine wpAnyH_take (i := 7) (oi := ⟨some 22, _, _, _, _, _⟩) (v := ?_) rfl (by kernel_rfl) (by kernel_rfl) (by kernel_rfl) (fun _ _ _ h => h) (Or.inl ⟨by rfl, ?_⟩) hHeld ?_
      rotate_left
      · intro W hSW; obtain ⟨hSW0, hSW1, hSW2⟩ := hSW; go_simp; first | done | with_reducible rfl
      (try simp only [Act.put, List.setIfInBounds_toArray, List.set_cons_zero, List.set_cons_succ])
      refine wpAnyH_take (i := 8) (oi := ⟨some 23, _, _, _, _, _⟩) (v := ?_) rfl (by kernel_rfl) (by kernel_rfl) (by kernel_rfl) (fun _ _ _ h => h) (Or.inl ⟨by rfl, ?_⟩) hHeld ?_
      rotate_left
      · intro W hSW; obtain ⟨hSW0, hSW1, hSW2⟩ := hSW; go_simp; first | done | with_reducible rfl
      (try simp only [Act.put, List.setIfInBounds_toArray, List.set_cons_zero, List.set_cons_succ])
      refine wpAnyH_take (i := 9) (oi := ⟨some 8, _, _, _, _, _⟩) (v := ?_) rfl (by kernel_rfl) (by kernel_rfl) (by kernel_rfl) (fun _ _ _ h => h) (Or.inl ⟨by rfl, ?_⟩) hHeld ?_
      rotate_left
      · intro W hSW; obtain ⟨hSW0, hSW1, hSW2⟩ := hSW; go_simp; first | done | with_reducible rfl
      (try simp only [Act.put, List.setIfInBounds_toArray, List.set_cons_zero, List.set_cons_succ])
      refine wpAnyH_done (by kernel_rfl) ?_ _
      refine NoPanic.normal ?_
      clear hHeld
      obtain ⟨w9, hw9⟩ : ∃ W, W = w8.drew := ⟨_, rfl⟩
      rw [← hw9]
      have q9 : Blk w9 gn 144 V := by rw [hw9]; exact q8.drew
      have qb9 : Blk w9 gb 88 (W4 (nw A)) := by rw [hw9]; exact qb8.drew
      have c1 : w9.cell? ⟨gn, 1, none⟩ = some (.int .i64 (g : Int)) := (q9.cell 1).trans H0.out.2.1
      have cG9 : w9.cell? ⟨gb, g, none⟩ = some (.int .i64 (b : Int)) := by rw [hw9]; exact cG8
      have hoth9 : ∀ k, k < w.heap.size → k ≠ gb → w9.heap[k]? = w.heap[k]? := by rw [hw9]; exact hoth8
      have bel9 : Below gb w w9 := by rw [hw9]; exact bel8.drew
      have hsz9 : w.heap.size ≤ w9.heap.size := by rw [hw9]; exact hsz8
      clear hw9 q8 qb8 c0 c2 cF8 cG8 hoth8 bel8 hsz8 iF f1
      go_wp2_with fail
      refine wp_region_noPanic ?_
      refine wp_region_held_drew (S := fun W => W.cell? ⟨gn, 1, none⟩ = some (.int .i64 (g : Int)) ∧ W.cell? ⟨gb, g, none⟩ = some (.int .i64 (b : Int))) (by kernel_rfl) ⟨c1, cG9⟩ (fun hHeld => ?_)
      refine wpAnyH_take (i := 0) (oi := ⟨some 24, _, _, _, _, _⟩) (v := ?_) rfl (by kernel_rfl) (by kernel_rfl) (by kernel_rfl) (fun _ _ _ h => h) (Or.inl ⟨by rfl, ?_⟩) hHeld ?_
      rotate_left
      · intro W hSW; obtain ⟨hSW0, hSW1⟩ := hSW; go_simp; first | done | with_reducible rfl
      (try simp only [Act.put, List.setIfInBounds_toArray, List.set_cons_zero, List.set_cons_succ])
      refine wpAnyH_take (i := 1) (oi := ⟨some 25, _, _, _, _, _⟩) (v := ?_) rfl (by kernel_rfl) (by kernel_rfl) (by kernel_rfl) (fun _ _ _ h => h) (Or.inl ⟨by rfl, ?_⟩) hHeld ?_
      rotate_left
      · intro W hSW; obtain ⟨hSW0, hSW1⟩ := hSW; go_simp; first | done | with_reducible rfl
      (try simp only [Act.put, List.setIfInBounds_toArray, List.set_cons_zero, List.set_cons_succ])
      refine wpAnyH_take (i := 2) (oi := ⟨some 26, _, _, _, _, _⟩) (v := ?_) rfl (by kernel_rfl) (by kernel_rfl) (by kernel_rfl) (fun _ _ _ h => h) (Or.inl ⟨by rfl, ?_⟩) hHeld ?_
      rotate_left
      · intro W hSW; obtain ⟨hSW0, hSW1⟩ := hSW; go_simp; first | done | with_reducible rfl
      (try simp only [Act.put, List.setIfInBounds_toArray, List.set_cons_zero, List.set_cons_succ])
      refine wpAnyH_take (i := 3) (oi := ⟨some 27, _, _, _, _, _⟩) (v := ?_) rfl (by kernel_rfl) (by kernel_rfl) (by kernel_rfl) (fun _ _ _ h => h) (Or.inl ⟨by rfl, ?_⟩) hHeld ?_
      rotate_left
      · intro W hSW; obtain ⟨hSW0, hSW1⟩ := hSW; go_simp; first | done | with_reducible rfl
      (try simp only [Act.put, List.setIfInBounds_toArray, List.set_cons_zero, List.set_cons_succ])
      refine wpAnyH_take (i := 4) (oi := ⟨some 28, _, _, _, _, _⟩) (v := ?_) rfl (by kernel_rfl) (by kernel_rfl) (by kernel_rfl) (fun _ _ _ h => h) (Or.inl ⟨by rfl, ?_⟩) hHeld ?_
      rotate_left
      · intro W hSW; obtain ⟨hSW0, hSW1⟩ := hSW; go_simp; first | done | with_reducible rfl
      (try simp only [Act.put, List.setIfInBounds_toArray, List.set_cons_zero, List.set_cons_succ])
      refine wpAnyH_take (i := 5) (oi := ⟨some 29, _, _, _, _, _⟩) (v := ?_) rfl (by kernel_rfl) (by kernel_rfl) (by kernel_rfl) (fun _ _ _ h => h) (Or.inl ⟨by rfl, ?_⟩) hHeld ?_
      rotate_left
      · intro W hSW; obtain ⟨hSW0, hSW1⟩ := hSW; go_simp; first | done | with_reducible rfl
      (try simp only [Act.put, List.setIfInBounds_toArray, List.set_cons_zero, List.set_cons_succ])
      refine wpAnyH_take (i := 6) (oi := ⟨some 30, _, _, _, _, _⟩) (v := ?_) rfl (by kernel_rfl) (by kernel_rfl) (by kernel_rfl) (fun _ _ _ h => h) (Or.inl ⟨by rfl, ?_⟩) hHeld ?_
      rotate_left
      · intro W hSW; obtain ⟨hSW0, hSW1⟩ := hSW; go_simp; first | done | with_reducible rfl
      (try simp only [Act.put, List.setIfInBounds_toArray, List.set_cons_zero, List.set_cons_succ])
      refine wpAnyH_take (i := 7) (oi := ⟨some 31, _, _, _, _, _⟩) (v := ?_) rfl (by kernel_rfl) (by kernel_rfl) (by kernel_rfl) (fun _ _ _ h => h) (Or.inl ⟨by rfl, ?_⟩) hHeld ?_
      rotate_left
      · intro W hSW; obtain ⟨hSW0, hSW1⟩ := hSW; go_simp; first | done | with_reducible rfl
      (try simp only [Act.put, List.setIfInBounds_toArray, List.set_cons_zero, List.set_cons_succ])
      refine wpAnyH_done (by kernel_rfl) ?_ _
      refine NoPanic.normal ?_
      clear hHeld
      obtain ⟨w10, hw10⟩ : ∃ W, W = w9.drew := ⟨_, rfl⟩
      rw [← hw10]
      have q10 : Blk w10 gn 144 V := by rw [hw10]; exact q9.drew
      have qb10 : Blk w10 gb 88 (W4 (nw A)) := by rw [hw10]; exact qb9.drew
      have c1' : w10.cell? ⟨gn, 1, none⟩ = some (.int .i64 (g : Int)) := (q10.cell 1).trans H0.out.2.1
      have hoth10 : ∀ k, k < w.heap.size → k ≠ gb → w10.heap[k]? = w.heap[k]? := by rw [hw10]; exact hoth9
      have bel10 : Below gb w w10 := by rw [hw10]; exact bel9.drew
      have hsz10 : w.heap.size ≤ w10.heap.size := by rw [hw10]; exact hsz9
      clear hw10 q9 qb9 c1 cG9 hoth9 bel9 hsz9
      by_cases hmb : m < b
      · have HL2 := Lib.hid (HLs.out hmb)
        go_wp2_with fail
        have qhd : Blk w10.drew gn 144 V := q10.drew
        have qbd : Blk w10.drew gb 88 (W4 (nw A)) := qb10.drew
        refine wp_region_noPanic ?_
        refine wp_region_held_drew (S := fun W => W.cell? ⟨gn, 1, none⟩ = some (.int .i64 (g : Int))) (by kernel_rfl) c1' (fun hHeld => ?_)
        refine wpAnyH_take (i := 0) (oi := ⟨some 32, _, _, _, _, _⟩) (v := ?_) rfl (by kernel_rfl) (by kernel_rfl) (by kernel_rfl) (fun _ _ _ h => h) (Or.inl ⟨by rfl, ?_⟩) hHeld ?_
        rotate_left
        · intro W hSW; have hSW0 := hSW; go_simp; first | done | with_reducible rfl
        (try simp only [Act.put, List.setIfInBounds_toArray, List.set_cons_zero, List.set_cons_succ])
        refine wpAnyH_take (i := 1) (oi := ⟨some 33, _, _, _, _, _⟩) (v := ?_) rfl (by kernel_rfl) (by kernel_rfl) (by kernel_rfl) (fun _ _ _ h => h) (Or.inl ⟨by rfl, ?_⟩) hHeld ?_
        rotate_left
        · intro W hSW; have hSW0 := hSW; go_simp; first | done | with_reducible rfl
        (try simp only [Act.put, List.setIfInBounds_toArray, List.set_cons_zero, List.set_cons_succ])
        refine wpAnyH_take (i := 2) (oi := ⟨some 34, _, _, _, _, _⟩) (v := ?_) rfl (by kernel_rfl) (by kernel_rfl) (by kernel_rfl) (fun _ _ _ h => h) (Or.inl ⟨by rfl, ?_⟩) hHeld ?_
        rotate_left
        · intro W hSW; have hSW0 := hSW; go_simp; first | done | with_reducible rfl
        (try simp only [Act.put, List.setIfInBounds_toArray, List.set_cons_zero, List.set_cons_succ])
        refine wpAnyH_take (i := 3) (oi := ⟨some 35, _, _, _, _, _⟩) (v := ?_) rfl (by kernel_rfl) (by kernel_rfl) (by kernel_rfl) (fun _ _ _ h => h) (Or.inl ⟨by rfl, ?_⟩) hHeld ?_
        rotate_left
        · intro W hSW; have hSW0 := hSW; go_simp; first | done | with_reducible rfl
        (try simp only [Act.put, List.setIfInBounds_toArray, List.set_cons_zero, List.set_cons_succ])
        refine wpAnyH_take (i := 4) (oi := ⟨some 36, _, _, _, _, _⟩) (v := ?_) rfl (by kernel_rfl) (by kernel_rfl) (by kernel_rfl) (fun _ _ _ h => h) (Or.inl ⟨by rfl, ?_⟩) hHeld ?_
        rotate_left
        · intro W hSW; have hSW0 := hSW; go_simp; first | done | with_reducible rfl
        (try simp only [Act.put, List.setIfInBounds_toArray, List.set_cons_zero, List.set_cons_succ])
        refine wpAnyH_take (i := 5) (oi := ⟨some 37, _, _, _, _, _⟩) (v := ?_) rfl (by kernel_rfl) (by kernel_rfl) (by kernel_rfl) (fun _ _ _ h => h) (Or.inl ⟨by rfl, ?_⟩) hHeld ?_
        rotate_left
        · intro W hSW; have hSW0 := hSW; go_simp; first | done | with_reducible rfl
        (try simp only [Act.put, List.setIfInBounds_toArray, List.set_cons_zero, List.set_cons_succ])
        refine wpAnyH_ready (rs := [6]) (by kernel_rfl) (by simp) ?_
        refine AllReadyH.cons (o := ⟨none, _, _, _, _, _⟩) rfl (fun K hK => ?_) (AllReadyH.nil)
        refine step_cell (by rfl) 3 _ _ (by rfl) gb g (.int .i64 (m : Int)) (by rfl) (by rfl) 88 (W4 (nw A)) qbd sz info3one rfl ?_
        intro w12 h12
        clear hHeld
        refine hK.out _ _ ?_ (fun hHeld => ?_)
        · exact ((h12.blk qhd (by omega)).cell 1).trans H0.out.2.1
        clear hK K
        (try simp only [Act.put, List.setIfInBounds_toArray, List.set_cons_zero, List.set_cons_succ])
        refine wpAnyH_done (by kernel_rfl) ?_ _
        refine NoPanic.normal ?_
        clear hHeld
        go_wp2
        go_roundw
        case rel => exact ⟨k + 1, by omega, by go_num, A.set g m, true, rfl, by rw [← W4nw_set]; exact h12.row, HL2.out, fun k h1 h2 => (h12.oth k h2).trans (hoth10 k h1 h2), bel10.drew.trans (h12.below (Nat.le_refl _)), by rw [h12.size]; exact hsz10⟩
        case measure => simp [intOf] <;> omega
      · have HL2 := Lib.hid (HKp.out hmb)
        go_wp2
        go_roundw
        case rel => exact ⟨k + 1, by omega, by go_num, A, cc, rfl, qb10, HL2.out, hoth10, bel10, hsz10⟩
        case measure => simp [intOf] <;> omega
    · have dk : decide ((k : Int) < 504) = false := by simp <;> omega
      have HK : Hid (k = 504) := by unfold Hid; omega
      go_wp2
      go_ret
      exact ⟨A, cc, rfl, qb, by have := HP.out; rw [HK.out] at this; exact this, hoth, bel⟩
end Go.Proofs.YtknfpdlomgllhaaDoor
