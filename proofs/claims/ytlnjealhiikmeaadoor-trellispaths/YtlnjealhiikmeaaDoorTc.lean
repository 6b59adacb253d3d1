/-
  Layer 7: the statements' first test; the walk of TrellisBack.
-/
import Derived.Test.YtlnjealhiikmeaaDoorTb
namespace Go.Proofs.YtlnjealhiikmeaaDoor
open Go.RowKit
set_option linter.unusedVariables false
set_option linter.unusedSimpArgs false

/-- Both edges that come to state 0. -/
def L14 : Array Value := #[.int .i64 0, .int .i64 0, .int .u8 0, .int .u8 0, .int .u8 0, .int .u8 0, .int .u8 0, .int .i64 1, .int .i64 0, .int .u8 0, .int .u8 1, .int .u8 1, .int .u8 1, .int .u8 1]
theorem L14_eq : E14 (2 * 0 % 64) (0 / 32) (2 * 0 % 64 + 1) (0 / 32) = L14 := by kernel_rfl
theorem L14_one : L14.all (·.oneCell') = true := by simp [L14, Value.oneCell']
set_option maxHeartbeats 400000 in
theorem leadsC (w : World) (hT : Taps w) : Calls Tryd.prog 23 #[] w fun e w' => e = .returned (.bool true) ∧ Below w.heap.size w w' := by
  have C1 := Lib.hid (intoC 0 w (by omega) hT)
  rw [L14_eq] at C1
  have e0 : ((0 : Nat) : Int) = 0 := rfl
  rw [e0] at C1
  have heq := eq4_ones
  have H1 := Lib.hid L14_one
  have i14 : (Tryd.prog.info? 45).map (·.size) = some L14.size := info14
  have z14 : Z14.size = L14.size := rfl
  have HC : Hid (∀ W g, Blk W g 45 L14 → W.cell? ⟨g, 0, none⟩ = some (.int .i64 0) ∧ W.cell? ⟨g, 7, none⟩ = some (.int .i64 1) ∧ W.cell? ⟨g, 8, none⟩ = some (.int .i64 0) ∧ W.cell? ⟨g, 10, none⟩ = some (.int .u8 1) ∧ W.cell? ⟨g, 11, none⟩ = some (.int .u8 1) ∧ W.cell? ⟨g, 12, none⟩ = some (.int .u8 1) ∧ W.cell? ⟨g, 13, none⟩ = some (.int .u8 1)) :=
    fun W g h => ⟨h.cell 0, h.cell 7, h.cell 8, h.cell 10, h.cell 11, h.cell 12, h.cell 13⟩
  have ia0 := fun (W : World) (g : Nat) => run_idx (P := Tryd.prog) (sz := 7) Tryd.underlying45 (by kernel_rfl) g 0 0 (by omega) .i64 W
  have ia1 := fun (W : World) (g : Nat) => run_idx (P := Tryd.prog) (sz := 7) Tryd.underlying45 (by kernel_rfl) g 0 1 (by omega) .i64 W
  have e1 : ((1 : Nat) : Int) = 1 := rfl
  simp only [Nat.zero_add, Nat.mul_zero, Nat.mul_one, e0, e1] at ia0 ia1
  clear e0 e1 hT
  generalize L14 = E at *
  go_enter Tryd.func23, Tryd.ntmps23
  go_wp2_with (first | (go_at_call 22; refine C1.out.mono ?_; rintro e w5 ⟨rfl, hb5⟩) | (refine at_alloc rfl 45 rfl Z14 Z14_eq ?_; intro w6 h6) | (refine at_store rfl 45 _ _ rfl w5.heap.size E rfl rfl 45 Z14 h6.row i14 z14 H1.out ?_; intro w7 h7; obtain ⟨k0, k1, k2, k3, k4, k5, k6⟩ := HC.out w7 _ h7.row; have br7 := Below.then_ hb5 (h6.bel.trans (h7.below (Nat.le_refl _)))))
  go_ret
  exact ⟨rfl, br7⟩

theorem half_six (s : Nat) (hs : s < 64) : s / 2 ^ 6 = 0 := by omega
set_option maxHeartbeats 600000 in
/-- TrellisBack. -/
theorem walkTrellisBack (z : Int) (w : World) (hT : Taps w) :
    Calls Tryd.prog 10 #[.int .i64 z] w fun e w' => e = .returned (.bool true) ∧ Below w.heap.size w w' := by
  obtain ⟨u, hu, hu2⟩ := wrap_u64 z
  obtain ⟨s, hs, hs2⟩ : ∃ s : Nat, s < 64 ∧ (u : Int) % 64 = (s : Int) := ⟨u % 64, by omega, by omega⟩
  have ia0 := fun (W : World) (g : Nat) => run_idx (P := Tryd.prog) (sz := 7) Tryd.underlying45 (by kernel_rfl) g 0 0 (by omega) .i64 W
  have e0 : ((0 : Nat) : Int) = 0 := rfl
  simp only [Nat.zero_add, Nat.mul_zero, e0] at ia0
  clear e0
  go_enter Tryd.func10, Tryd.ntmps10
  go_wp2
  clear hu hu2 hs2
  go_loopw [4, 5] (fun t i wr => ∃ k q : Nat, k ≤ 6 ∧ q < 64 ∧ i = .int .i64 k ∧ t = .int .i64 (q : Int) ∧ Hid (q = s / 2 ^ k) ∧ Below w.heap.size w wr) (fun _ i _ => 6 - (intOf i).toNat)
  case atStart => exact ⟨0, s, by omega, hs, rfl, rfl, by unfold Hid; simp, Below.refl _ _⟩
  case round =>
    obtain ⟨k, q, hk, hq, rfl, rfl, HQ, hbel⟩ := hrel
    have hsz := hbel.size
    by_cases hlt : k < 6
    · have C1 := Lib.hid (fromC q wr hq (hT.after hbel))
      have H1 := Lib.hid (E14_one q 0 q 1)
      have i14 : (Tryd.prog.info? 45).map (·.size) = some (E14 q 0 q 1).size := info14
      have z14 : Z14.size = (E14 q 0 q 1).size := rfl
      have HC : Hid (∀ W g, Blk W g 45 (E14 q 0 q 1) → W.cell? ⟨g, 1, none⟩ = some (.int .i64 (Cv.nx q 0 : Nat)) ∧ W.cell? ⟨g, 2, none⟩ = some (.int .u8 0)) := fun W g h => ⟨h.cell 1, h.cell 2⟩
      have hnx := Cv.nx_lt q 0 hq (by omega)
      have HN : Hid (Cv.nx q 0 = s / 2 ^ (k + 1)) := by
        unfold Hid Cv.nx
        have e : 2 ^ k * 2 = 2 ^ (k + 1) := (Nat.pow_succ 2 k).symm
        rw [HQ.out, Nat.div_div_eq_div_mul, e]
        omega
      generalize Cv.nx q 0 = t at *
      generalize E14 q 0 q 1 = E at *
      go_wp2_with (first | (go_at_call 21; refine C1.out.mono ?_; rintro e w5 ⟨rfl, hb5⟩) | (refine at_alloc rfl 45 rfl Z14 Z14_eq ?_; intro w6 h6) | (refine at_store rfl 45 _ _ rfl w5.heap.size E rfl rfl 45 Z14 h6.row i14 z14 H1.out ?_; intro w7 h7; obtain ⟨k0, k1⟩ := HC.out w7 _ h7.row; have br7 := Below.then_ hb5 (h6.bel.trans (h7.below (Nat.le_refl _)))))
      go_roundw
      case rel => exact ⟨k + 1, t, by omega, hnx, by go_num, rfl, HN.out, hbel.trans (br7.mono hsz)⟩
      case measure => simp [intOf] <;> omega
    · have hq0 : q = 0 := by rw [HQ.out, show k = 6 by omega]; exact half_six s hs
      subst hq0
      go_wp2_with (go_at_call 23; refine (leadsC wr (hT.after hbel)).mono ?_; rintro e w5 ⟨rfl, hb5⟩)
      go_ret
      exact ⟨rfl, Below.then_ hbel hb5⟩
end Go.Proofs.YtlnjealhiikmeaaDoor
