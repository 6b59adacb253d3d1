/-
  Layer 12: the statements' first test; the walk of DistanceLeast.
-/
import Derived.Test.YtknfpdlomgllhaaDoorQf
import Derived.Test.YtknfpdlomgllhaaDoorMg
import Derived.Test.YtknfpdlomgllhaaDoorPc
namespace Go.Proofs.YtknfpdlomgllhaaDoor
open Go.RowKit
set_option maxRecDepth 100000
set_option linter.unusedVariables false
set_option linter.unusedSimpArgs false

theorem Taps.lowB {w w' : World} {B : Nat} (h : Taps w) (hb : Below B w w') (hB : 6 < B) : Taps w' :=
  ⟨(hb.cell (p := ⟨6, 0, none⟩) hB).trans h.c0, (hb.cell (p := ⟨6, 1, none⟩) hB).trans h.c1, (hb.cell (p := ⟨6, 2, none⟩) hB).trans h.c2, (hb.cell (p := ⟨6, 3, none⟩) hB).trans h.c3⟩
theorem ones_le : ∀ y ∈ [1, 1, 1, 1], y ≤ 7 := by decide
theorem zeros_le : ∀ y ∈ [0, 0, 0, 0], y ≤ 7 := by decide
theorem wof_ones (n : Nat) (h : Cv.Lst (wof [1, 1, 1, 1]) n) : 20 ≤ n := by
  refine (h.congr (u := fun _ => 1) fun v hv => ?_).ones
  have : v = 0 ∨ v = 1 ∨ v = 2 ∨ v = 3 := by omega
  rcases this with rfl | rfl | rfl | rfl <;> rfl
theorem wof_none (n : Nat) (h : Cv.Lst (wof [0, 0, 0, 0]) n) : n = 0 := by
  refine (h.congr (u := fun _ => 0) fun v hv => ?_).none
  have : v = 0 ∨ v = 1 ∨ v = 2 ∨ v = 3 := by omega
  rcases this with rfl | rfl | rfl | rfl <;> rfl
set_option maxHeartbeats 400000 in
/-- The statements' first test. -/
theorem apartC (w : World) (hT : Taps w) : Calls Tryd.prog 11 #[] w fun e w' => e = .returned (.bool true) ∧ Below w.heap.size w w' := by
  have C1 := Lib.hid (leastYes [1, 1, 1, 1] w rfl ones_le hT)
  have C2 := Lib.hid (fun W (hT : Taps W) => leastYes [0, 0, 0, 0] W rfl zeros_le hT)
  rw [show W4 (nw [1, 1, 1, 1]) = #[.int .i64 1, .int .i64 1, .int .i64 1, .int .i64 1] from rfl] at C1
  rw [show W4 (nw [0, 0, 0, 0]) = #[.int .i64 0, .int .i64 0, .int .i64 0, .int .i64 0] from rfl] at C2
  have HB := Lib.hid (fun n h => @Lst_bound7 [1, 1, 1, 1] ones_le n h)
  go_enter Tryd.func11, Tryd.ntmps11
  go_wp2_with fail
  refine C1.out.mono ?_
  rintro e w1 ⟨n, rfl, hn, hb1⟩
  have h20 := wof_ones n hn
  have hnb := HB.out n hn
  clear hn
  go_wp2_with fail
  refine (C2.out w1 (hT.after hb1)).mono ?_
  rintro e w2 ⟨m, rfl, hm, hb2⟩
  obtain rfl := wof_none m hm
  clear hm
  have d1 : decide ((12 : Int) ≤ (n : Int)) = true := by simp; omega
  have d2 : decide (12 ≤ n) = true := by simp; omega
  go_wp2
  go_ret
  exact ⟨rfl, Below.then_ hb1 hb2⟩

/-- Numbers that are weights. -/
theorem inW_nat (zs : List Int) (h : inW zs = true) : ∃ ws : List Nat, zs = nw ws ∧ ∀ y ∈ ws, y ≤ 7 := by
  refine ⟨zs.map Int.toNat, ?_, fun y hy => ?_⟩
  · unfold nw
    rw [List.map_map]
    refine (List.map_id zs).symm.trans (List.map_congr_left fun z hz => ?_)
    have := List.all_eq_true.1 h z hz
    simp at this
    show z = ((z.toNat : Nat) : Int)
    omega
  · obtain ⟨z, hz, rfl⟩ := List.mem_map.1 hy
    have := List.all_eq_true.1 h z hz
    simp at this
    omega
end Go.Proofs.YtknfpdlomgllhaaDoor
