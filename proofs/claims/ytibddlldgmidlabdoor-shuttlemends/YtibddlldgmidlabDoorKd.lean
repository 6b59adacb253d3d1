/-
  Contracts of layer 6: Code; of its reference: taps, Bit, Code, List.
-/
import Derived.Test.YtibddlldgmidlabDoorBk
import Derived.Test.YtibddlldgmidlabDoorKm
import Derived.Test.YtibddlldgmidlabDoorRr
import Derived.Laws.CopyOwn
namespace Go.Proofs.YtibddlldgmidlabDoor
open Go.RowKit
set_option maxRecDepth 100000
set_option linter.unusedVariables false

/-- The reference's taps as cells. -/
def TC : Array Value := (U8 (Cv.tp 0 ++ Cv.tp 1 ++ Cv.tp 2 ++ Cv.tp 3)).toArray
theorem TC_size : TC.size = 28 := rfl
theorem TC_one : TC.all (·.oneCell') = true := all_oneCell_toArray (U8_one _)
theorem TC_get : ∀ i, i < 4 → ∀ k, k < 7 → (Cv.tp 0 ++ Cv.tp 1 ++ Cv.tp 2 ++ Cv.tp 3).getD (7 * i + k) 0 = (Cv.tp i).getD k 0 := by decide
theorem TC_cell (i k : Nat) (hi : i < 4) (hk : k < 7) : TC[7 * i + k]? = some (.int .u8 (((Cv.tp i).getD k 0 : Nat) : Int)) := by
  unfold TC
  rw [List.getElem?_toArray, U8_get _ _ (by show _ < 28; omega), TC_get i hi k hk]
theorem info28 : (Tryd.prog.info? 120).map (·.size) = some 28 := by kernel_rfl
/-- Its noughts. -/
noncomputable def Z28 : Array Value := ((Tryd.prog.info? 120).bind (fun i => i.zero.map (fun z => z.cells))).getD #[]
theorem Z28_eq : (Tryd.prog.info? 120).bind (fun i => i.zero.map (fun z => z.cells)) = some Z28 := by kernel_rfl
theorem Z28_size : Z28.size = 28 := by kernel_rfl

set_option maxHeartbeats 400000 in
/-- The reference's taps. -/
theorem tapsC (w : World) : Calls Tryd.prog 73 #[] w fun e w' => e = .returned (.agg TC) ∧ Below w.heap.size w w' := by
  go_enter Tryd.func73, Tryd.ntmps73
  go_wp2_with (first | (refine at_alloc rfl 120 rfl Z28 Z28_eq ?_; intro w1 h1) | (refine at_store rfl 120 _ _ rfl w.heap.size TC rfl rfl 120 Z28 h1.row info28 Z28_size TC_one ?_; intro w2 h2))
  refine bodyPost_ret (v := .agg TC) (results_row rfl _ _ w.heap.size 120 _ _ rfl h2.row Tryd.underlying120 rfl info28) rfl ⟨rfl, ?_⟩
  exact h1.bel.trans (h2.below (Nat.le_refl _))

theorem and_bit {a b : Nat} (ha : a ≤ 1) (hb : b ≤ 1) : a &&& b = a * b := by
  have h1 : a = 0 ∨ a = 1 := by omega
  have h2 : b = 0 ∨ b = 1 := by omega
  rcases h1 with rfl | rfl <;> rcases h2 with rfl | rfl <;> rfl

set_option maxHeartbeats 1000000 in
/-- The reference's Bit. -/
theorem bitC (A : Option Addr) (n c t i : Nat) (l : List Nat) (w : World) (hr : Rd w w.heap.size A n (U8 l)) (hl : ∀ x ∈ l, x ≤ 1) (hn : n ≤ 65536) (ht : t ≤ 100000) (hi : i < 4) :
    Calls Tryd.prog 49 #[.slice A n c, .int .i64 (t : Int), .int .i64 (i : Int)] w fun e w' => e = .returned (.int .u8 (Cv.bitAt l t i : Nat)) ∧ Below w.heap.size w w' := by
  have HN := Lib.hid hr.len8
  have HB := Lib.hid (Cv.bt_bit l hl t i)
  go_enter Tryd.func49, Tryd.ntmps49
  go_wp2_with (first | (go_at_call 73; refine (tapsC _).mono ?_; rintro e w0 ⟨rfl, hb0⟩) | (refine at_alloc rfl 120 rfl Z28 Z28_eq ?_; intro w1 h1) | (refine at_store rfl 120 _ _ rfl w0.heap.size TC rfl rfl 120 Z28 h1.row info28 Z28_size TC_one ?_; intro w2 h2))
  have bel : Below w.heap.size w w2 := (Below.then_ hb0 h1.bel).trans (h2.below hb0.size)
  have hB := h2.row
  have hr2 := hr.below bel
  generalize w0.heap.size = g at *
  clear hb0 h1 h2 hr
  go_loopw [8, 9] (fun s j wr => ∃ k r q : Nat, k ≤ 7 ∧ r ≤ 1 ∧ j = .int .i64 k ∧ s = .int .u8 (r : Int) ∧ Hid (r = Cv.bt l t i k) ∧ wr = w2.drewN q) (fun _ j _ => 7 - (intOf j).toNat)
  case atStart => exact ⟨0, 0, 0, by omega, by omega, rfl, rfl, rfl, rfl⟩
  case round =>
    obtain ⟨k, r, q, hk, hr1, rfl, rfl, HR, hw⟩ := hrel
    have hr3 := hr2.below (hw ▸ below_drawn q : Below w.heap.size w2 wr)
    have hB3 : Blk wr g 120 TC := by rw [hw]; exact hB
    have HW := Lib.hid hw
    clear hw
    by_cases hlt : k < 7
    · have HS : Hid (Cv.bt l t i (k + 1) = r ^^^ (Cv.tp i).getD k 0 * Cv.pv l t k) := by unfold Hid; rw [HR.out]; rfl
      have hb := HB.out (k + 1)
      rw [HS.out] at hb
      have hy := Cv.tp_bit i k
      have hc := (hB3.cell (7 * i + k)).trans (TC_cell i k hi hlt)
      generalize (Cv.tp i).getD k 0 = y at *
      by_cases hkt : k ≤ t
      · obtain ⟨m, hm⟩ : ∃ m, t - k = m := ⟨_, rfl⟩
        have e0 : (t : Int) - (k : Int) = (m : Int) := by omega
        have HP : Hid (Cv.pv l t k = l.getD m 0) := by unfold Hid Cv.pv; rw [if_pos hkt, hm]
        clear hm
        by_cases hmn : m < n
        · obtain ⟨b, off, rfl, hlt2, hcell⟩ := hr3.cell8 m hmn
          have hx := Bm.bit_le l hl m
          rw [HP.out] at HS hb
          obtain ⟨x, hxe⟩ : ∃ x, x = l.getD m 0 := ⟨_, rfl⟩
          rw [← hxe] at hcell HS hb hx
          clear hxe
          have e1 : bits BinOp.and IntKind.u8 (y : Int) (x : Int) = ((y * x : Nat) : Int) := by rw [← and_bit hy hx]; exact u8_and_nat y x (by omega) (by omega)
          have hyx := Cv.mul_bit hy hx
          generalize y * x = v at *
          have e2 : bits BinOp.xor IntKind.u8 (r : Int) (v : Int) = ((r ^^^ v : Nat) : Int) := u8_xor_nat r v (by omega) (by omega)
          generalize r ^^^ v = u at *
          have ia := fun W => run_idx (P := Tryd.prog) (sz := 7) Tryd.underlying120 (by kernel_rfl) g 0 i hi .i64 W
          have ib := fun W => run_idx (P := Tryd.prog) (sz := 1) Tryd.underlying119 (by kernel_rfl) g (0 + 7 * i) k hlt .i64 W
          simp only [Nat.zero_add, Nat.one_mul] at ia ib
          have d1 : decide ((0 : Int) ≤ (m : Int)) = true := by simp
          have d2 : decide ((m : Int) < (n : Int)) = true := by simp; omega
          go_wp2_with fail
          go_quiet (fail)
          go_wp2
          go_roundw
          case rel => exact ⟨k + 1, u, q + _, by omega, hb, by go_num, rfl, HS.out.symm, by rw [HW.out, World.drewN_drewN]⟩
          case measure => simp [intOf] <;> omega
        · have HZ : Hid (Cv.bt l t i (k + 1) = r) := by
            unfold Hid
            rw [HS.out, HP.out, Bm.getD_ge _ _ _ (by rw [← HN.out]; omega), Nat.mul_zero, Nat.xor_zero]
          clear HS hb
          have d1 : decide ((0 : Int) ≤ (m : Int)) = true := by simp
          have d2 : decide ((m : Int) < (n : Int)) = false := by simp; omega
          go_wp2
          go_roundw
          case rel => exact ⟨k + 1, r, q, by omega, hr1, by go_num, rfl, HZ.out.symm, HW.out⟩
          case measure => simp [intOf] <;> omega
      · have HZ : Hid (Cv.bt l t i (k + 1) = r) := by
          unfold Hid
          rw [HS.out, show Cv.pv l t k = 0 by unfold Cv.pv; rw [if_neg hkt], Nat.mul_zero, Nat.xor_zero]
        clear HS hb
        have d1 : decide ((0 : Int) ≤ (t : Int) - (k : Int)) = false := by simp; omega
        have d2 : decide ((k : Int) ≤ (t : Int)) = false := by simp; omega
        have d3 : decide (k ≤ t) = false := by simp; omega
        go_wp2
        go_roundw
        case rel => exact ⟨k + 1, r, q, by omega, hr1, by go_num, rfl, HZ.out.symm, HW.out⟩
        case measure => simp [intOf] <;> omega
    · go_wp2
      go_ret
      refine ⟨ret_int' ?_, by rw [HW.out]; exact bel.trans (below_drawn q)⟩
      rw [HR.out, show k = 7 by omega]
      rfl
end Go.Proofs.YtibddlldgmidlabDoor
