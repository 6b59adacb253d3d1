/-
  Layer 16: the reference's put and Write.
-/
import Derived.Test.YtkmacepodomdmaaDoorFa
import Derived.Test.YtkmacepodomdmaaDoorGa
import Derived.Test.YtkmacepodomdmaaDoorXb
import Derived.Test.YtkmacepodomdmaaDoorXa
import Derived.Test.YtkmacepodomdmaaDoorRr
import Derived.Deep.DeepCutAuto
namespace Go.Proofs.YtkmacepodomdmaaDoor
open Go.RowKit
set_option maxRecDepth 100000
set_option linter.unusedVariables false
set_option linter.unusedSimpArgs false

/-- Numbers with their widths, as cells. -/
def PW : List (Nat × Nat) → List Value
  | [] => []
  | p :: l => .int .i64 (p.1 : Int) :: .int .i64 (p.2 : Int) :: PW l
def pw (p : Nat × Nat) : List Nat := pre p.1 p.2 p.2
theorem PW_get (l : List (Nat × Nat)) (i : Nat) (h : i < l.length) : (PW l)[2 * i]? = some (.int .i64 ((l[i].1 : Nat) : Int)) ∧ (PW l)[2 * i + 1]? = some (.int .i64 ((l[i].2 : Nat) : Int)) := by
  induction l generalizing i with
  | nil => simp at h
  | cons p l ih =>
    cases i with
    | zero => exact ⟨rfl, rfl⟩
    | succ i =>
      have := ih i (by simpa using h)
      refine ⟨?_, ?_⟩
      · rw [show 2 * (i + 1) = (2 * i) + 1 + 1 by omega]; simpa [PW] using this.1
      · rw [show 2 * (i + 1) + 1 = (2 * i + 1) + 1 + 1 by omega]; simpa [PW] using this.2
theorem info2int : (Tryd.prog.info? 72).map (·.size) = some 2 := by kernel_rfl
set_option maxHeartbeats 1000000 in
set_option maxRecDepth 100000 in
/-- put. -/
theorem rputC (g n c : Nat) (ps : List (Nat × Nat)) (w : World) (hn : n = ps.length) (hn8 : n ≤ 8) (hg : g < w.heap.size) (hcell : ∀ j u, (PW ps)[j]? = some u → w.cell? ⟨g, j, none⟩ = some u) (hok : ∀ p ∈ ps, 1 ≤ p.2 ∧ p.2 ≤ 32 ∧ p.1 < 2 ^ p.2) :
    Calls Tryd.prog 39 #[.slice (some ⟨g, 0, none⟩) n c] w (Made w (ps.flatMap pw)) := by
  obtain ⟨i0, hi0, hz0, hz1, hz2⟩ := info_parts info5
  have HN := Lib.hid hn
  have HC := Lib.hid hcell
  have HOK := Lib.hid hok
  clear hn hcell hok
  go_enter Tryd.func39, Tryd.ntmps39
  go_wp2_with fail
  go_loopw [3, 4] (fun s3 s4 wr => ∃ (i : Nat) (A1 : Option Addr) (m c1 : Nat), i ≤ n ∧ s4 = .int .i64 (i : Int) ∧ s3 = .slice A1 m c1 ∧ Own wr w.heap.size 5 A1 m c1 (U8 ((ps.take i).flatMap pw)) ∧ m ≤ 32 * i ∧ Below w.heap.size w wr) (fun _ s4 _ => n - (intOf s4).toNat)
  case atStart => exact ⟨0, none, 0, 0, by omega, rfl, rfl, Own.nil _ _ _, by omega, Below.refl _ _⟩
  case round =>
    obtain ⟨i, A1, m, c1, hi, rfl, rfl, own, hm, hbel⟩ := hrel
    by_cases hlt : i < n
    · have hip : i < ps.length := by rw [← HN.out]; exact hlt
      obtain ⟨y0, y1⟩ := PW_get ps i hip
      have hw1 := HOK.out ps[i] (List.getElem_mem hip)
      have HT : Hid ((ps.take (i + 1)).flatMap pw = (ps.take i).flatMap pw ++ pre ps[i].1 ps[i].2 ps[i].2) := by
        unfold Hid; rw [List.take_succ_eq_append_getElem hip, List.flatMap_append]; simp [pw]
      have HPL := Lib.hid (pre_length ps[i].1 ps[i].2 ps[i].2)
      have k0 : wr.cell? ⟨g, 2 * i, none⟩ = some (.int .i64 ((ps[i].1 : Nat) : Int)) := (hbel.cell (p := ⟨g, 2 * i, none⟩) hg).trans (HC.out _ _ y0)
      have k1 : wr.cell? ⟨g, 2 * i + 1, none⟩ = some (.int .i64 ((ps[i].2 : Nat) : Int)) := (hbel.cell (p := ⟨g, 2 * i + 1, none⟩) hg).trans (HC.out _ _ y1)
      generalize ps[i].1 = N at *
      generalize ps[i].2 = wd at *
      obtain ⟨hw1a, hw1b, hw1c⟩ := hw1
      have HN2 := Lib.hid hw1c
      have CP : Hid (∀ W, Calls Tryd.prog 75 #[.int .i64 (N : Int), .int .i64 (wd : Int)] W fun e w' => ∃ A n c, e = .returned (.tuple #[.slice A n c, .int .i64 0]) ∧ Own w' W.heap.size 5 A n c (U8 (pre N wd wd)) ∧ Below W.heap.size W w') := fun W => refPutOk N wd W hw1a hw1b hw1c
      have ix := fun W => run_idxR (P := Tryd.prog) (sz := 2) Tryd.underlying77 info2int g 0 n c i hlt .i64 W
      have j0 := fun W => run_idx (P := Tryd.prog) (sz := 1) Tryd.underlying72 (by kernel_rfl) g (2 * i) 0 (by omega) .i64 W
      have j1 := fun W => run_idx (P := Tryd.prog) (sz := 1) Tryd.underlying72 (by kernel_rfl) g (2 * i) 1 (by omega) .i64 W
      simp only [Nat.zero_add, Nat.one_mul, Nat.add_zero, Nat.mul_one] at ix j0 j1
      have hgl : g < wr.heap.size := Nat.lt_of_lt_of_le hg hbel.size
      have HBel := Lib.hid hbel
      have d1 : decide ((i : Int) < (n : Int)) = true := by simp; omega
      clear y0 y1 hw1c hbel
      go_upto_region 5 with fail
      refine wp_region_noPanic ?_
      have s0 : wr.drew.cell? ⟨g, 2 * i, none⟩ = some (.int .i64 (N : Int)) ∧ wr.drew.cell? ⟨g, 2 * i + 1, none⟩ = some (.int .i64 (wd : Int)) := ⟨k0, k1⟩
      refine wp_region_held_drew (S := fun W => W.cell? ⟨g, 2 * i, none⟩ = some (.int .i64 (N : Int)) ∧ W.cell? ⟨g, 2 * i + 1, none⟩ = some (.int .i64 (wd : Int))) (by kernel_rfl) s0 (fun hHeld => ?_)
      clear s0
      refine wpAnyH_take (i := 0) (oi := ⟨some 14, _, _, _, _, _⟩) (v := ?_) rfl (by kernel_rfl) (by kernel_rfl) (by kernel_rfl) (fun _ _ _ h => h) (Or.inl ⟨by rfl, ?_⟩) hHeld ?_
      rotate_left
      · intro W hSW; obtain ⟨hSW0, hSW1⟩ := hSW; go_simp; first | done | with_reducible rfl
      (try simp only [Act.put, List.setIfInBounds_toArray, List.set_cons_zero, List.set_cons_succ])
      refine wpAnyH_take (i := 1) (oi := ⟨some 15, _, _, _, _, _⟩) (v := ?_) rfl (by kernel_rfl) (by kernel_rfl) (by kernel_rfl) (fun _ _ _ h => h) (Or.inl ⟨by rfl, ?_⟩) hHeld ?_
      rotate_left
      · intro W hSW; obtain ⟨hSW0, hSW1⟩ := hSW; go_simp; first | done | with_reducible rfl
      (try simp only [Act.put, List.setIfInBounds_toArray, List.set_cons_zero, List.set_cons_succ])
      refine wpAnyH_take (i := 2) (oi := ⟨some 16, _, _, _, _, _⟩) (v := ?_) rfl (by kernel_rfl) (by kernel_rfl) (by kernel_rfl) (fun _ _ _ h => h) (Or.inl ⟨by rfl, ?_⟩) hHeld ?_
      rotate_left
      · intro W hSW; obtain ⟨hSW0, hSW1⟩ := hSW; go_simp; first | done | with_reducible rfl
      (try simp only [Act.put, List.setIfInBounds_toArray, List.set_cons_zero, List.set_cons_succ])
      refine wpAnyH_take (i := 3) (oi := ⟨some 17, _, _, _, _, _⟩) (v := ?_) rfl (by kernel_rfl) (by kernel_rfl) (by kernel_rfl) (fun _ _ _ h => h) (Or.inl ⟨by rfl, ?_⟩) hHeld ?_
      rotate_left
      · intro W hSW; obtain ⟨hSW0, hSW1⟩ := hSW; go_simp; first | done | with_reducible rfl
      (try simp only [Act.put, List.setIfInBounds_toArray, List.set_cons_zero, List.set_cons_succ])
      refine wpAnyH_take (i := 4) (oi := ⟨some 18, _, _, _, _, _⟩) (v := ?_) rfl (by kernel_rfl) (by kernel_rfl) (by kernel_rfl) (fun _ _ _ h => h) (Or.inl ⟨by rfl, ?_⟩) hHeld ?_
      rotate_left
      · intro W hSW; obtain ⟨hSW0, hSW1⟩ := hSW; go_simp; first | done | with_reducible rfl
      (try simp only [Act.put, List.setIfInBounds_toArray, List.set_cons_zero, List.set_cons_succ])
      refine wpAnyH_take (i := 5) (oi := ⟨some 19, _, _, _, _, _⟩) (v := ?_) rfl (by kernel_rfl) (by kernel_rfl) (by kernel_rfl) (fun _ _ _ h => h) (Or.inl ⟨by rfl, ?_⟩) hHeld ?_
      rotate_left
      · intro W hSW; obtain ⟨hSW0, hSW1⟩ := hSW; go_simp; first | done | with_reducible rfl
      (try simp only [Act.put, List.setIfInBounds_toArray, List.set_cons_zero, List.set_cons_succ])
      refine wpAnyH_take (i := 6) (oi := ⟨some 20, _, _, _, _, _⟩) (v := ?_) rfl (by kernel_rfl) (by kernel_rfl) (by kernel_rfl) (fun _ _ _ h => h) (Or.inl ⟨by rfl, ?_⟩) hHeld ?_
      rotate_left
      · intro W hSW; obtain ⟨hSW0, hSW1⟩ := hSW; go_simp; first | done | with_reducible rfl
      (try simp only [Act.put, List.setIfInBounds_toArray, List.set_cons_zero, List.set_cons_succ])
      refine wpAnyH_take (i := 7) (oi := ⟨some 21, _, _, _, _, _⟩) (v := ?_) rfl (by kernel_rfl) (by kernel_rfl) (by kernel_rfl) (fun _ _ _ h => h) (Or.inl ⟨by rfl, ?_⟩) hHeld ?_
      rotate_left
      · intro W hSW; obtain ⟨hSW0, hSW1⟩ := hSW; go_simp; first | done | with_reducible rfl
      (try simp only [Act.put, List.setIfInBounds_toArray, List.set_cons_zero, List.set_cons_succ])
      refine wpAnyH_take (i := 8) (oi := ⟨some 22, _, _, _, _, _⟩) (v := ?_) rfl (by kernel_rfl) (by kernel_rfl) (by kernel_rfl) (fun _ _ _ h => h) (Or.inl ⟨by rfl, ?_⟩) hHeld ?_
      rotate_left
      · intro W hSW; obtain ⟨hSW0, hSW1⟩ := hSW; go_simp; first | done | with_reducible rfl
      (try simp only [Act.put, List.setIfInBounds_toArray, List.set_cons_zero, List.set_cons_succ])
      refine wpAnyH_take (i := 9) (oi := ⟨some 23, _, _, _, _, _⟩) (v := ?_) rfl (by kernel_rfl) (by kernel_rfl) (by kernel_rfl) (fun _ _ _ h => h) (Or.inl ⟨by rfl, ?_⟩) hHeld ?_
      rotate_left
      · intro W hSW; obtain ⟨hSW0, hSW1⟩ := hSW; go_simp; first | done | with_reducible rfl
      (try simp only [Act.put, List.setIfInBounds_toArray, List.set_cons_zero, List.set_cons_succ])
      refine wpAnyH_ready (rs := [10]) (by kernel_rfl) (by simp) ?_
      refine AllReadyH.cons (o := ⟨some 24, _, _, _, _, _⟩) rfl (fun K hK => ?_) (AllReadyH.nil)
      go_simp
      go_at_call 75
      refine (CP.out wr.drew).mono ?_
      rintro e x1 ⟨A2, n2, c2, rfl, own2, h1⟩
      have bS1 : Below wr.heap.size wr x1 := Below.then_ ((Below.refl wr.heap.size wr).drew) h1
      clear hHeld
      refine hK.out _ _ ?_ (fun hHeld => ?_)
      · exact ⟨(bS1.cell (p := ⟨g, 2 * i, none⟩) hgl).trans k0, (bS1.cell (p := ⟨g, 2 * i + 1, none⟩) hgl).trans k1⟩
      clear hK K
      (try simp only [Act.put, List.setIfInBounds_toArray, List.set_cons_zero, List.set_cons_succ])
      refine wpAnyH_take (i := 11) (oi := ⟨some 13, _, _, _, _, _⟩) (v := ?_) rfl (by kernel_rfl) (by kernel_rfl) (by kernel_rfl) (fun _ _ _ h => h) (Or.inl ⟨by rfl, ?_⟩) hHeld ?_
      rotate_left
      · intro W hSW; obtain ⟨hSW0, hSW1⟩ := hSW; go_simp; first | done | with_reducible rfl
      (try simp only [Act.put, List.setIfInBounds_toArray, List.set_cons_zero, List.set_cons_succ])
      refine wpAnyH_take (i := 12) (oi := ⟨some 25, _, _, _, _, _⟩) (v := ?_) rfl (by kernel_rfl) (by kernel_rfl) (by kernel_rfl) (fun _ _ _ h => h) (Or.inl ⟨by rfl, ?_⟩) hHeld ?_
      rotate_left
      · intro W hSW; obtain ⟨hSW0, hSW1⟩ := hSW; go_simp; first | done | with_reducible rfl
      (try simp only [Act.put, List.setIfInBounds_toArray, List.set_cons_zero, List.set_cons_succ])
      refine wpAnyH_take (i := 13) (oi := ⟨some 26, _, _, _, _, _⟩) (v := ?_) rfl (by kernel_rfl) (by kernel_rfl) (by kernel_rfl) (fun _ _ _ h => h) (Or.inl ⟨by rfl, ?_⟩) hHeld ?_
      rotate_left
      · intro W hSW; obtain ⟨hSW0, hSW1⟩ := hSW; go_simp; first | done | with_reducible rfl
      (try simp only [Act.put, List.setIfInBounds_toArray, List.set_cons_zero, List.set_cons_succ])
      refine wpAnyH_take (i := 14) (oi := ⟨some 5, _, _, _, _, _⟩) (v := ?_) rfl (by kernel_rfl) (by kernel_rfl) (by kernel_rfl) (fun _ _ _ h => h) (Or.inl ⟨by rfl, ?_⟩) hHeld ?_
      rotate_left
      · intro W hSW; obtain ⟨hSW0, hSW1⟩ := hSW; go_simp; first | done | with_reducible rfl
      (try simp only [Act.put, List.setIfInBounds_toArray, List.set_cons_zero, List.set_cons_succ])
      refine wpAnyH_take (i := 15) (oi := ⟨some 6, _, _, _, _, _⟩) (v := ?_) rfl (by kernel_rfl) (by kernel_rfl) (by kernel_rfl) (fun _ _ _ h => h) (Or.inl ⟨by rfl, ?_⟩) hHeld ?_
      rotate_left
      · intro W hSW; obtain ⟨hSW0, hSW1⟩ := hSW; go_simp; first | done | with_reducible rfl
      (try simp only [Act.put, List.setIfInBounds_toArray, List.set_cons_zero, List.set_cons_succ])
      refine wpAnyH_done (by kernel_rfl) ?_ _
      refine NoPanic.normal ?_
      clear hHeld

      have hn2 : n2 = wd := by have := own2.rd.len8; rw [HPL.out] at this; exact this
      go_wp2_with (at_builtin; refine wpList_app _ rfl _ _ 22 rfl w.heap.size 5 i0 _ 1 Tryd.underlying22 hi0 hz0 hz1 hz2 rfl A1 m c1 (U8 ((ps.take i).flatMap pw)) rfl (own.below bS1 (Nat.le_refl _)) x1.heap.size A2 n2 c2 (U8 (pre N wd wd)) rfl own2.rd own2.none_ (U8_one _) (by omega) (by unfold maxLen; omega) (by have := HBel.out.size; have := bS1.size; omega) ?_; intro A3 c3 x2 own3 g3)
      have own3' : Own x2 w.heap.size 5 A3 (m + n2) c3 (U8 ((ps.take (i + 1)).flatMap pw)) := own3.to rfl (by rw [HT.out, U8_append])
      have b3 : Below w.heap.size w x2 := (HBel.out.trans (bS1.mono HBel.out.size)).grown g3 (by have := HBel.out.size; have := bS1.size; omega) (fun j hj => (own.block j hj).1)
      go_roundw
      case rel => exact ⟨i + 1, A3, m + n2, c3, by omega, by go_num, by first | rfl | (congr 1; omega), own3', by omega, b3⟩
      case measure => simp [intOf]; omega
    · obtain rfl : i = n := by omega
      have d1 : decide ((i : Int) < (i : Int)) = false := by simp
      have HF : Hid ((ps.take i).flatMap pw = ps.flatMap pw) := by unfold Hid; rw [List.take_of_length_le (by rw [← HN.out]; omega)]
      go_wp2_with fail
      go_ret
      exact ⟨A1, m, c1, rfl, own.to rfl (by rw [HF.out]), hbel⟩
end Go.Proofs.YtkmacepodomdmaaDoor
