/-
  Layer 12: starts.
-/
import Derived.Test.YtknfpdlomgllhaaDoorQb
import Derived.Test.YtknfpdlomgllhaaDoorMc
import Derived.Test.YtknfpdlomgllhaaDoorMg
import Derived.Test.YtknfpdlomgllhaaDoorTa
namespace Go.Proofs.YtknfpdlomgllhaaDoor
open Go.RowKit
set_option maxRecDepth 100000
set_option linter.unusedVariables false
set_option linter.unusedSimpArgs false

/-- What starts gives. -/
def StartsOk (ws : List Nat) (w : World) (e : Ending) (w' : World) : Prop := ∃ A, e = .returned (.agg (W4 (nw A))) ∧ T2 (fun v => ws.getD v 0) A ∧ F2 (fun v => ws.getD v 0) A 4 ∧ Below w.heap.size w w'
theorem Z256_eq : (Tryd.prog.info? 88).bind (fun i => i.zero.map (fun z => z.cells)) = some (W4 (nw (List.replicate 256 0))) := by kernel_rfl
theorem info256 : (Tryd.prog.info? 88).map (·.size) = some 256 := by kernel_rfl
theorem fill7 (k : Nat) (hk : k < 256) : (List.replicate k 7169 ++ List.replicate (256 - k) 0).set k 7169 = List.replicate (k + 1) 7169 ++ List.replicate (256 - (k + 1)) 0 := by
  rw [List.set_append, List.length_replicate, if_neg (by omega), Nat.sub_self, show 256 - k = (256 - (k + 1)) + 1 by omega, List.replicate_succ, List.set_cons_zero, List.replicate_succ', List.append_assoc]
  rfl
theorem E14_r : ∀ i u, (E7 0 1).toList[i]? = some u → (E14 0 0 0 1)[7 + i]? = some u := by
  intro i u hu
  have hi : i < 7 := by
    have := (List.getElem?_eq_some_iff.1 hu).1
    rw [Array.length_toList, E7_size] at this
    exact this
  rw [Array.getElem?_toList] at hu
  unfold E14
  rw [Array.getElem?_append_right (by rw [E7_size]; omega), E7_size, show 7 + i - 7 = i by omega]
  exact hu
set_option maxHeartbeats 800000 in
set_option maxRecDepth 100000 in
/-- distance.starts. -/
theorem dstarts (ws : List Nat) (w : World) (hl : ws.length = 4) (hb : ∀ y ∈ ws, y ≤ 7) (hT : Taps w) : Calls Tryd.prog 47 #[.agg (W4 (nw ws))] w (StartsOk ws w) := by
  have iZ : Hid ((Tryd.prog.info? 22).map (·.size) = some (W4 (nw ws)).size) := by unfold Hid; rw [W4_size, nw_length, hl]; exact info4w
  have i7 : Hid ((Tryd.prog.info? 138).map (·.size) = some (E7 0 1).size) := info7
  have i14 : Hid ((Tryd.prog.info? 139).map (·.size) = some (E14 0 0 0 1).size) := info14
  have HR7 := Lib.hid E14_r
  have HU : Hid (∀ v, v < 4 → (fun v => ws.getD v 0) v ≤ 7) := fun v _ => getD_seven ws hb v
  have CW := Lib.hid (fun (t : Nat) (ht : t < 4) (W : World) => dweight 0 1 t ws W hl hb (by omega))
  clear hb hl
  go_enter Tryd.func47, Tryd.ntmps47
  generalize hZ : W4 (nw ws) = Z at *
  clear hZ
  obtain ⟨Y, hY⟩ : ∃ Y, Y = W4 (nw (List.replicate 256 0)) := ⟨_, rfl⟩
  have ZE : Hid ((Tryd.prog.info? 88).bind (fun i => i.zero.map (fun z => z.cells)) = some Y) := by rw [hY]; exact Z256_eq
  go_upto_region 1 with (first | (refine at_box rfl 22 _ rfl Z rfl ?_; intro w1 h1) | (refine at_alloc rfl 88 rfl Y ZE.out ?_; intro w2 h2))
  go_upto_region 2 with (refine at_alloc rfl 88 rfl Y ZE.out ?_; intro w3 h3)
  have q1 := (h1.row.after h2.bel).after h3.bel
  have q2 := h2.row.after h3.bel
  have q3 := h3.row
  have bel := Below.then_ (Below.then_ h1.bel h2.bel) h3.bel
  have s1 := h1.size
  have s2 := h2.size
  have s3 := h3.size
  obtain ⟨g1, hg1⟩ : ∃ g, g = w.heap.size := ⟨_, rfl⟩
  obtain ⟨g2, hg2⟩ : ∃ g, g = w1.heap.size := ⟨_, rfl⟩
  obtain ⟨g3, hg3⟩ : ∃ g, g = w2.heap.size := ⟨_, rfl⟩
  have hg03 : w.heap.size ≤ g3 := by omega
  have hg02 : w.heap.size ≤ g2 := by omega
  have h12 : g1 < g2 := by omega
  have h23 : g2 < g3 := by omega
  rw [← hg1] at q1
  rw [← hg2] at q2
  rw [← hg3] at q3
  rw [← hg1, ← hg2, ← hg3]
  have q30 : Blk w3 g3 88 (W4 (nw (List.replicate 0 7169 ++ List.replicate (256 - 0) 0))) := by rw [hY] at q3; exact q3
  have HYS : Hid (Y.size = 256) := by rw [hY, ]; unfold Hid; rw [W4nw_size]; simp
  clear h1 h2 h3 s1 s2 s3 hg1 hg2 hg3 q3 hY
  go_wp2
  go_loopw [8] (fun x wr => ∃ k : Nat, k ≤ 256 ∧ x = .int .i64 k ∧ Blk wr g3 88 (W4 (nw (List.replicate k 7169 ++ List.replicate (256 - k) 0))) ∧ Blk wr g1 22 Z ∧ Blk wr g2 88 Y ∧ Below w.heap.size w wr) (fun x _ => 256 - (intOf x).toNat)
  case atStart => exact ⟨0, by omega, rfl, q30, q1, q2, bel⟩
  case round =>
    clear q30 q1 q2 bel
    obtain ⟨k, hk, rfl, q3, q1, q2, bel⟩ := hrel
    by_cases hlt : k < 256
    · have HS := Lib.hid (fill7 k hlt)
      have sz : k < (W4 (nw (List.replicate k 7169 ++ List.replicate (256 - k) 0))).size := by rw [W4nw_size, List.length_append, List.length_replicate, List.length_replicate]; omega
      have ia := fun W => run_idx (P := Tryd.prog) (sz := 1) Tryd.underlying88 (by kernel_rfl) g3 0 k hlt .i64 W
      simp only [Nat.zero_add, Nat.one_mul] at ia
      have dk : decide ((k : Int) < 256) = true := by simp <;> omega
      generalize List.replicate k 7169 ++ List.replicate (256 - k) 0 = M at *
      go_wp2_with (refine at_cell rfl 3 _ _ rfl g3 k (.int .i64 7169) rfl rfl 88 (W4 (nw M)) q3 sz info3one rfl ?_; intro w6 h6)
      go_roundw
      case rel => exact ⟨k + 1, by omega, by go_num, by rw [← HS.out, ← W4nw_set]; exact h6.row, h6.blk q1 (by omega), h6.blk q2 (by omega), bel.trans (h6.below hg03)⟩
      case measure => simp [intOf] <;> omega
    · have HK : Hid (k = 256) := by unfold Hid; omega
      have dk : decide ((k : Int) < 256) = false := by simp <;> omega
      rw [HK.out, Nat.sub_self, List.replicate_zero, List.append_nil] at q3
      have HT0 := Lib.hid (t2_far (fun v => ws.getD v 0))
      have CF : Hid (Calls Tryd.prog 86 #[.int .i64 0] wr fun e w' => e = .returned (.tuple #[.agg (E14 0 0 0 1), .int .i64 0]) ∧ Below wr.heap.size wr w') := fromC 0 wr (by omega) (hT.after bel)
      have HE1 := Lib.hid (E14_one 0 0 0 1)
      have HES : Hid ((E14 0 0 0 1).size = 14) := rfl
      have HE8 : Hid ((E14 0 0 0 1)[8]? = some (.int .i64 32)) := rfl
      generalize E14 0 0 0 1 = E at *
      go_upto_region 8 with (first | (go_at_call 86; refine CF.out.mono ?_; rintro e w4 ⟨rfl, hb4⟩) | (refine at_alloc rfl 139 rfl Z14 Z14_eq ?_; intro w5 h5) | (refine at_store rfl 139 _ _ rfl w4.heap.size E rfl rfl 139 Z14 h5.row i14.out (by rw [HES.out]; rfl) HE1.out ?_; intro w6 h6))
      have hsz4 := hb4.size
      have l3 := q3.lt
      have q5 := h6.row
      replace q1 := h6.blk ((q1.after hb4).after h5.bel) (by omega)
      replace q2 := h6.blk ((q2.after hb4).after h5.bel) (by omega)
      replace q3 := h6.blk ((q3.after hb4).after h5.bel) (by omega)
      replace bel := (Below.then_ (Below.then_ bel hb4) h5.bel).trans (h6.below (Nat.le_trans bel.size hsz4))
      obtain ⟨g5, hg5⟩ : ∃ g, g = w4.heap.size := ⟨_, rfl⟩
      rw [← hg5] at q5
      rw [← hg5]
      have h35 : g3 < g5 := by omega
      clear h5 h6 hb4 hsz4 l3 hg5 CF
      go_wp2
      go_loopw [18] (fun x wr => ∃ t : Nat, t ≤ 4 ∧ x = .int .i64 t ∧ ∃ A, Blk wr g3 88 (W4 (nw A)) ∧ Hid (T2 (fun v => ws.getD v 0) A) ∧ Hid (F2 (fun v => ws.getD v 0) A t) ∧ Blk wr g1 22 Z ∧ Blk wr g5 139 E ∧ Blk wr g2 88 Y ∧ Below w.heap.size w wr) (fun x _ => 4 - (intOf x).toNat)
      case atStart => exact ⟨0, by omega, rfl, _, q3, HT0.out, fun t ht => by omega, q1, q5, q2, bel⟩
      case round =>
       clear q1 q2 q3 q5 bel
       obtain ⟨t, ht, rfl, A, q3, HT, HF, q1, q5, q2, bel⟩ := hrel
       by_cases hlt : t < 4
       · have HT1 := Lib.hid (HT.out.first t hlt HU.out)
         have HF1 := Lib.hid (HF.out.next hlt HT.out.len)
         obtain ⟨t1, ht1⟩ : ∃ t1, t1 = t + 1 := ⟨_, rfl⟩
         have CPl : Hid (∀ W, Calls Tryd.prog 50 #[.int .i64 (t1 : Int), .int .i64 32] W fun e w' => e = .returned (.int .i64 ((64 * ((t + 1) % 4) + 32 : Nat) : Int)) ∧ W = w') := fun W => by rw [ht1]; exact dplace (t + 1) 32 W (by omega) (by omega)
         have CWt := Lib.hid (CW.out t hlt)
         have hp : 64 * ((t + 1) % 4) + 32 < 256 := by omega
         have f1 : IntKind.i64.wrap ((t : Int) + 1) = (t1 : Int) := by rw [IntWalk.i64_in _ (by omega)]; omega
         have sz : 64 * ((t + 1) % 4) + 32 < (W4 (nw A)).size := by rw [W4nw_size, HT.out.len]; exact hp
         generalize 64 * ((t + 1) % 4) + 32 = p at *
         generalize Cv.ew (fun v => ws.getD v 0) t 0 1 = n at *
         clear ht1
         have ia := fun W => run_idx (P := Tryd.prog) (sz := 1) Tryd.underlying88 (by kernel_rfl) g3 0 p hp .i64 W
         simp only [Nat.zero_add, Nat.one_mul] at ia
         have ie : ∀ W, (Instr.indexAt 139 (.pointer (some ⟨g5, 0, none⟩)) (.int .i64 1)).run Tryd.prog W = .ok (.pointer (some ⟨g5, 7, none⟩)) W := fun W => run_idx (P := Tryd.prog) (sz := 7) Tryd.underlying139 (by kernel_rfl) g5 0 1 (by omega) .i64 W
         have dk : decide ((t : Int) < 4) = true := by simp <;> omega
         have hsz := bel.size
         have HK : Hid (∀ W, Below wr.heap.size wr W → (Blk W g5 139 E ∧ Blk W g1 22 Z ∧ W.cell? ⟨g5, 8, none⟩ = some (.int .i64 32))) := fun W hB => ⟨q5.after hB, q1.after hB, ((q5.after hB).cell 8).trans HE8.out⟩
         have bel0 : Below wr.heap.size wr wr.drew := (Below.refl _ _).drew
         go_upto_region 11 with fail
         refine wp_region_noPanic ?_
         refine wp_region_held_drew (S := fun W => Blk W g5 139 E ∧ Blk W g1 22 Z ∧ W.cell? ⟨g5, 8, none⟩ = some (.int .i64 32)) (by kernel_rfl) (HK.out _ bel0) (fun hHeld => ?_)
         refine wpAnyH_take (i := 0) (oi := ⟨some 21, _, _, _, _, _⟩) (v := ?_) rfl (by kernel_rfl) (by kernel_rfl) (by kernel_rfl) (fun _ _ _ h => h) (Or.inl ⟨by rfl, ?_⟩) hHeld ?_
         rotate_left
         · intro W hSW; obtain ⟨hSW0, hSW1, hSW2⟩ := hSW; go_simp; first | done | with_reducible rfl
         (try simp only [Act.put, List.setIfInBounds_toArray, List.set_cons_zero, List.set_cons_succ])
         refine wpAnyH_take (i := 1) (oi := ⟨some 22, _, _, _, _, _⟩) (v := ?_) rfl (by kernel_rfl) (by kernel_rfl) (by kernel_rfl) (fun _ _ _ h => h) (Or.inl ⟨by rfl, ?_⟩) hHeld ?_
         rotate_left
         · intro W hSW; obtain ⟨hSW0, hSW1, hSW2⟩ := hSW; go_simp; first | done | with_reducible rfl
         (try simp only [Act.put, List.setIfInBounds_toArray, List.set_cons_zero, List.set_cons_succ])
         refine wpAnyH_take (i := 2) (oi := ⟨some 23, _, _, _, _, _⟩) (v := ?_) rfl (by kernel_rfl) (by kernel_rfl) (by kernel_rfl) (fun _ _ _ h => h) (Or.inl ⟨by rfl, ?_⟩) hHeld ?_
         rotate_left
         · intro W hSW; obtain ⟨hSW0, hSW1, hSW2⟩ := hSW; go_simp; first | done | with_reducible rfl
         (try simp only [Act.put, List.setIfInBounds_toArray, List.set_cons_zero, List.set_cons_succ])
         refine wpAnyH_take (i := 3) (oi := ⟨some 24, _, _, _, _, _⟩) (v := ?_) rfl (by kernel_rfl) (by kernel_rfl) (by kernel_rfl) (fun _ _ _ h => h) (Or.inl ⟨by rfl, ?_⟩) hHeld ?_
         rotate_left
         · intro W hSW; obtain ⟨hSW0, hSW1, hSW2⟩ := hSW; go_simp; first | done | with_reducible rfl
         (try simp only [Act.put, List.setIfInBounds_toArray, List.set_cons_zero, List.set_cons_succ])
         refine wpAnyH_take (i := 4) (oi := ⟨some 25, _, _, _, _, _⟩) (v := ?_) rfl (by kernel_rfl) (by kernel_rfl) (by kernel_rfl) (fun _ _ _ h => h) (Or.inl ⟨by rfl, ?_⟩) hHeld ?_
         rotate_left
         · intro W hSW; obtain ⟨hSW0, hSW1, hSW2⟩ := hSW; go_simp; first | done | with_reducible rfl
         (try simp only [Act.put, List.setIfInBounds_toArray, List.set_cons_zero, List.set_cons_succ])
         refine wpAnyH_take (i := 6) (oi := ⟨some 27, _, _, _, _, _⟩) (v := ?_) rfl (by kernel_rfl) (by kernel_rfl) (by kernel_rfl) (fun _ _ _ h => h) (Or.inl ⟨by rfl, ?_⟩) hHeld ?_
         rotate_left
         · intro W hSW; obtain ⟨hSW0, hSW1, hSW2⟩ := hSW; go_simp; first | done | with_reducible rfl
         (try simp only [Act.put, List.setIfInBounds_toArray, List.set_cons_zero, List.set_cons_succ])
         refine wpAnyH_take (i := 7) (oi := ⟨some 28, _, _, _, _, _⟩) (v := _) rfl (by kernel_rfl) (by kernel_rfl) (by kernel_rfl) (fun _ _ _ h => h) (yields_mid (by rfl) 138 _ (by rfl) g5 7 (by rfl) (E7 0 1) _ (fun W h => h.1.range _ _ HR7.out) Tryd.underlying138 rfl i7.out) hHeld ?_
         (try simp only [Act.put, List.setIfInBounds_toArray, List.set_cons_zero, List.set_cons_succ])
         refine wpAnyH_take (i := 8) (oi := ⟨some 29, _, _, _, _, _⟩) (v := ?_) rfl (by kernel_rfl) (by kernel_rfl) (by kernel_rfl) (fun _ _ _ h => h) (Or.inl ⟨by rfl, ?_⟩) hHeld ?_
         rotate_left
         · intro W hSW; obtain ⟨hSW0, hSW1, hSW2⟩ := hSW; go_simp; first | done | with_reducible rfl
         (try simp only [Act.put, List.setIfInBounds_toArray, List.set_cons_zero, List.set_cons_succ])
         refine wpAnyH_take (i := 9) (oi := ⟨some 30, _, _, _, _, _⟩) (v := _) rfl (by kernel_rfl) (by kernel_rfl) (by kernel_rfl) (fun _ _ _ h => h) (yields_row (by rfl) 22 _ (by rfl) g1 (by rfl) 22 Z _ (fun W h => h.2.1) Tryd.underlying22 rfl iZ.out) hHeld ?_
         (try simp only [Act.put, List.setIfInBounds_toArray, List.set_cons_zero, List.set_cons_succ])
         refine wpAnyH_ready (rs := [5]) (by kernel_rfl) (by simp) ?_
         refine AllReadyH.cons (o := ⟨some 26, _, _, _, _, _⟩) rfl (fun K hK => ?_) (AllReadyH.nil)
         go_simp
         refine (CPl.out _).mono ?_
         rintro e W' ⟨rfl, rfl⟩
         clear hHeld
         refine hK.out _ _ ?_ (fun hHeld => ?_)
         · exact HK.out _ bel0
         clear hK K
         (try simp only [Act.put, List.setIfInBounds_toArray, List.set_cons_zero, List.set_cons_succ])
         refine wpAnyH_ready (rs := [10]) (by kernel_rfl) (by simp) ?_
         refine AllReadyH.cons (o := ⟨some 31, _, _, _, _, _⟩) rfl (fun K hK => ?_) (AllReadyH.nil)
         go_simp
         refine (CWt.out _).mono ?_
         rintro e wc ⟨rfl, hb⟩
         have bc := Below.then_ bel0 hb
         clear hHeld hb
         refine hK.out _ _ ?_ (fun hHeld => ?_)
         · exact HK.out _ bc
         clear hK K
         (try simp only [Act.put, List.setIfInBounds_toArray, List.set_cons_zero, List.set_cons_succ])
         refine wpAnyH_take (i := 11) (oi := ⟨some 32, _, _, _, _, _⟩) (v := ?_) rfl (by kernel_rfl) (by kernel_rfl) (by kernel_rfl) (fun _ _ _ h => h) (Or.inl ⟨by rfl, ?_⟩) hHeld ?_
         rotate_left
         · intro W hSW; obtain ⟨hSW0, hSW1, hSW2⟩ := hSW; go_simp; first | done | with_reducible rfl
         (try simp only [Act.put, List.setIfInBounds_toArray, List.set_cons_zero, List.set_cons_succ])
         refine wpAnyH_ready (rs := [12]) (by kernel_rfl) (by simp) ?_
         refine AllReadyH.cons (o := ⟨none, _, _, _, _, _⟩) rfl (fun K hK => ?_) (AllReadyH.nil)
         refine step_cell (by rfl) 3 _ _ (by rfl) g3 p (.int .i64 (n : Int)) (by rfl) (by rfl) 88 (W4 (nw A)) (q3.after bc) sz info3one rfl ?_
         intro W6 h6
         have hS6 := HK.out _ bc
         clear hHeld
         refine hK.out _ _ ?_ (fun hHeld => ?_)
         · exact ⟨h6.blk hS6.1 (by omega), h6.blk hS6.2.1 (by omega), ((h6.blk hS6.1 (by omega)).cell 8).trans HE8.out⟩
         clear hK K
         (try simp only [Act.put, List.setIfInBounds_toArray, List.set_cons_zero, List.set_cons_succ])
         have qa := h6.row
         have b6 := (bel.trans (bc.mono hsz)).trans (h6.below hg03)
         clear hS6
         refine wpAnyH_done (by kernel_rfl) ?_ _
         refine NoPanic.normal ?_
         clear hHeld
         clear f1
         go_wp2
         go_roundw
         case rel => exact ⟨t + 1, by omega, by go_num, A.set p n, by rw [← W4nw_set]; exact qa, HT1.out, HF1.out, h6.blk (q1.after bc) (by omega), h6.blk (q5.after bc) (by omega), h6.blk (q2.after bc) (by omega), b6⟩
         case measure => simp [intOf] <;> omega
       · have dk : decide ((t : Int) < 4) = false := by simp <;> omega
         have HK : Hid (t = 4) := by unfold Hid; omega
         have iA : Hid ((Tryd.prog.info? 88).map (·.size) = some (W4 (nw A)).size) := by unfold Hid; rw [W4nw_size, HT.out.len]; exact info256
         have HA1 := Lib.hid (W4_one (nw A))
         have HAS : Hid (Y.size = (W4 (nw A)).size) := by unfold Hid; rw [HYS.out, W4nw_size, HT.out.len]
         generalize hV : W4 (nw A) = V at *
         go_wp2_with (first | (refine at_load rfl 88 _ rfl g3 rfl 88 V _ q3 Tryd.underlying88 rfl iA.out ?_) | (refine at_store rfl 88 _ _ rfl g2 V rfl rfl 88 Y q2 iA.out HAS.out HA1.out ?_; intro w7 h7))
         refine bodyPost_ret (v := .agg V) (results_row rfl _ _ g2 88 _ _ rfl h7.row Tryd.underlying88 rfl iA.out) rfl ?_
         exact ⟨A, by rw [hV], HT.out, by have := HF.out; rw [HK.out] at this; exact this, bel.trans (h7.below hg02)⟩
end Go.Proofs.YtknfpdlomgllhaaDoor
