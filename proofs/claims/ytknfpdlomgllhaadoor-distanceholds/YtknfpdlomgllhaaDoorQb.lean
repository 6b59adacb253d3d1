/-
  Layer 12: place, weight.
-/
import Derived.Test.YtknfpdlomgllhaaDoorQa
import Derived.Test.YtknfpdlomgllhaaDoorPi
import Derived.Test.YtknfpdlomgllhaaDoorIx
import Derived.Test.YtknfpdlomgllhaaDoorMh
import Derived.Test.YtknfpdlomgllhaaDoorTa
namespace Go.Proofs.YtknfpdlomgllhaaDoor
open Go.RowKit
set_option maxRecDepth 100000
set_option linter.unusedVariables false
set_option linter.unusedSimpArgs false

set_option maxHeartbeats 400000 in
/-- distance.place. -/
theorem dplace (t s : Nat) (w : World) (ht : t ≤ 1000) (hs : s < 64) : Calls Tryd.prog 50 #[.int .i64 (t : Int), .int .i64 (s : Int)] w fun e w' => e = .returned (.int .i64 ((64 * (t % 4) + s : Nat) : Int)) ∧ w = w' := by
  obtain ⟨r, hr⟩ : ∃ r : Nat, r = t % 4 := ⟨_, rfl⟩
  have e1 : (t : Int) % 4 = (r : Int) := by omega
  have hr4 : r < 4 := by omega
  have e2 : (r : Int) * 64 + (s : Int) = ((64 * (t % 4) + s : Nat) : Int) := by omega
  generalize 64 * (t % 4) + s = p at *
  clear hr
  go_enter Tryd.func50, Tryd.ntmps50
  go_wp2
  go_ret
  first
  | exact ⟨rfl, rfl⟩
  | exact ⟨ret_int' e2, rfl⟩
theorem infoB1 : (Tryd.prog.info? 5).map (·.size) = some 1 := by kernel_rfl
set_option maxHeartbeats 400000 in
set_option maxRecDepth 100000 in
/-- distance.weight. -/
theorem dweight (s x t : Nat) (ws : List Nat) (w : World) (hl : ws.length = 4) (hb : ∀ y ∈ ws, y ≤ 7) (ht : t ≤ 1000000) :
    Calls Tryd.prog 87 #[.agg (E7 s x), .int .i64 (t : Int), .agg (W4 (nw ws))] w fun e w' => e = .returned (.int .i64 (Cv.ew (fun v => ws.getD v 0) t s x : Nat)) ∧ Below w.heap.size w w' := by
  have HO : Hid (∀ i u, (C4 (Cv.out s x 0) (Cv.out s x 1) (Cv.out s x 2) (Cv.out s x 3)).toList[i]? = some u → (E7 s x)[3 + i]? = some u) := fun i u hu => by
    have hi : i < 4 := by
      have := (List.getElem?_eq_some_iff.1 hu).1
      simpa [C4] using this
    have h4 : i = 0 ∨ i = 1 ∨ i = 2 ∨ i = 3 := by omega
    rcases h4 with rfl | rfl | rfl | rfl <;> exact hu
  have HC : Hid (∀ k, k < 4 → (C4 (Cv.out s x 0) (Cv.out s x 1) (Cv.out s x 2) (Cv.out s x 3))[k]? = some (.int .u8 (Cv.out s x k : Nat))) := fun k hk => by
    have h4 : k = 0 ∨ k = 1 ∨ k = 2 ∨ k = 3 := by omega
    rcases h4 with rfl | rfl | rfl | rfl <;> rfl
  have HW : Hid (∀ v, v < 4 → (W4 (nw ws))[v]? = some (.int .i64 ((ws.getD v 0 : Nat) : Int))) := fun v hv => by
    rw [W4_get _ v (by rw [nw_length, hl]; exact hv), nw_get]
  have HLE := Lib.hid (eT_le ws hb t s x)
  have HB := Lib.hid (getD_seven ws hb)
  have H4 := Lib.hid (eT_four ws t s x)
  have iC : Hid ((Tryd.prog.info? 104).map (·.size) = some (C4 (Cv.out s x 0) (Cv.out s x 1) (Cv.out s x 2) (Cv.out s x 3)).size) := info4
  clear hb hl
  go_enter Tryd.func87, Tryd.ntmps87
  generalize E7 s x = E at *
  generalize W4 (nw ws) = Z at *
  generalize C4 (Cv.out s x 0) (Cv.out s x 1) (Cv.out s x 2) (Cv.out s x 3) = CC at *
  go_upto_region 3 with (first | (refine at_box rfl 138 _ rfl E rfl ?_; intro w1 h1) | (refine at_box rfl 22 _ rfl Z rfl ?_; intro w2 h2) | (refine at_load_mid rfl 104 _ rfl w.heap.size 3 rfl CC _ ((h1.row.after h2.bel).range 3 _ HO.out) Tryd.underlying104 rfl iC.out ?_))
  have q5 := h2.row
  have b2 := Below.then_ h1.bel h2.bel
  have hg : w.heap.size ≤ w1.heap.size := by rw [h1.size]; omega
  generalize w1.heap.size = g5 at *
  clear h1 h2
  go_loopw [7, 14] (fun n i wr => ∃ k : Nat, k ≤ 4 ∧ i = .int .i64 k ∧ n = .int .i64 (eT ws t s x k : Nat) ∧ wr = w2) (fun _ i _ => 4 - (intOf i).toNat)
  case atStart => exact ⟨0, by omega, rfl, rfl, rfl⟩
  case round =>
    obtain ⟨k, hk, rfl, rfl, rfl⟩ := hrel
    have hle := HLE.out k
    by_cases hlt : k < 4
    · have hvr := Cv.vr_lt k t
      have CV := Lib.hid (fun W => patVersion k t W hlt (by omega))
      have ix := fun W => run_index1 (P := Tryd.prog) Tryd.underlying104 Tryd.underlying5 rfl infoB1 CC k hlt .i64 _ (HC.out k hlt) W
      have ib := fun W => run_idx (P := Tryd.prog) (sz := 1) Tryd.underlying22 (by kernel_rfl) g5 0 (Cv.vr k t) hvr .i64 W
      simp only [Nat.zero_add, Nat.one_mul] at ib
      have c5 := (q5.cell (Cv.vr k t)).trans (HW.out (Cv.vr k t) hvr)
      have hy := Cv.out_bit s x k
      have hz := HB.out (Cv.vr k t)
      have HE : Hid (eT ws t s x (k + 1) = eT ws t s x k + Cv.out s x k * ws.getD (Cv.vr k t) 0) := rfl
      generalize eT ws t s x k = n at *
      generalize Cv.out s x k = y at *
      generalize ws.getD (Cv.vr k t) 0 = z at *
      generalize Cv.vr k t = r at *
      have hyz : y * z ≤ 7 := by have := Nat.mul_le_mul hy hz; omega
      obtain ⟨p, hp⟩ : ∃ p, y * z = p := ⟨_, rfl⟩
      have f1 : (y : Int) * (z : Int) = (p : Int) := by rw [← hp]; simp
      rw [hp] at hyz HE
      have dk : decide ((k : Int) < 4) = true := by simp <;> omega
      clear hp
      go_wp2_with (go_at_call 125; refine (CV.out _).mono ?_; rintro e w' ⟨rfl, rfl⟩)
      go_roundw
      case rel => exact ⟨k + 1, by omega, by go_num, by rw [HE.out]; go_num, by simp⟩
      case measure => simp [intOf] <;> omega
    · have dk : decide ((k : Int) < 4) = false := by simp <;> omega
      have HK : Hid (k = 4) := by unfold Hid; omega
      go_wp2
      go_ret
      exact ⟨by rw [← H4.out, ← HK.out]; rfl, b2⟩
end Go.Proofs.YtknfpdlomgllhaaDoor
