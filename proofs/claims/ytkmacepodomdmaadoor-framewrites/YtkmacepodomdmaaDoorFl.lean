/-
  The package's errors: the door's own heap meets the condition; what it gives the walks.
-/
import Derived.Test.YtkmacepodomdmaaDoorRows
import Derived.Test.YtkmacepodomdmaaDoorFn
import Derived.Lib.LaidTab
import Derived.LaidMore
import Derived.LaidHandle
import Derived.Stop.LaidTwo
import Derived.Stop.Joined
import Derived.ProofKit
namespace Go.Proofs.YtkmacepodomdmaaDoor
open Go.RowKit
set_option maxRecDepth 100000

theorem gE0 : Tryd.prog.globalNamed "shuttle/frame.errKind" = some 0 := by kernel_rfl
theorem tE0 : (Tryd.prog.globals[0]?).map (·.type) = some 80 := by kernel_rfl
theorem gE1 : Tryd.prog.globalNamed "shuttle/frame.errShort" = some 1 := by kernel_rfl
theorem tE1 : (Tryd.prog.globals[1]?).map (·.type) = some 80 := by kernel_rfl
theorem gE2 : Tryd.prog.globalNamed "shuttle/frame.errCheck" = some 2 := by kernel_rfl
theorem tE2 : (Tryd.prog.globals[2]?).map (·.type) = some 80 := by kernel_rfl
theorem gE3 : Tryd.prog.globalNamed "shuttle/frame.errNought" = some 3 := by kernel_rfl
theorem tE3 : (Tryd.prog.globals[3]?).map (·.type) = some 80 := by kernel_rfl
theorem gE4 : Tryd.prog.globalNamed "shuttle/frame.errLong" = some 4 := by kernel_rfl
theorem tE4 : (Tryd.prog.globals[4]?).map (·.type) = some 80 := by kernel_rfl
theorem gE5 : Tryd.prog.globalNamed "errors.errorType" = some 5 := by kernel_rfl
theorem starE : "*" ++ "errors.errorString" = "*errors.errorString" := by decide
theorem rowE (u : TypeId) (h : Tryd.prog.typeName? 3 u = some "*errors.errorString") : u = 296 :=
  typeName_ptr_named (nm := "errors.errorString") (by rw [starE]; kernel_rfl) (by kernel_rfl) (by decide) u (by rw [starE]; exact h)
theorem cellsES : Tryd.prog.cellsOf 316 = 1 := by kernel_rfl
theorem cells9 : Tryd.prog.cellsOf 9 = 1 := by kernel_rfl
/-- The door's own heap meets the condition. -/
theorem door_met (os : Os) (args : Array Value) : laidMetH Tryd.prog [("errors.errorType", Rows.laid_errors_errorType), ("shuttle/frame.errKind", Rows.laid_shuttle_frame_errKind), ("shuttle/frame.errShort", Rows.laid_shuttle_frame_errShort), ("shuttle/frame.errCheck", Rows.laid_shuttle_frame_errCheck), ("shuttle/frame.errNought", Rows.laid_shuttle_frame_errNought), ("shuttle/frame.errLong", Rows.laid_shuttle_frame_errLong)] ((World.doorLaid Tryd.prog 400 os).forCall (fun _ _ => 0) ⟨#[], args, []⟩).memory :=
  laidMetH_of_parts3 (fuel := 8) (laidMet_of_run' 8 (by kernel_rfl) (by kernel_rfl)) (by kernel_rfl) (by kernel_rfl)
theorem rtE : (Tryd.prog.cutTypes.find? (·.1 == "internal/reflectlite.rtype")).map (·.2) = some 221 := by kernel_rfl
theorem oneE : ((List.range 327).filter fun t => Tryd.prog.rowNamed t [101, 114, 114, 111, 114]) = [80] := by kernel_rfl
set_option maxHeartbeats 1000000 in
/-- What the condition gives the walks. -/
theorem of_laid {W : World} (h : laidMetH Tryd.prog [("errors.errorType", Rows.laid_errors_errorType), ("shuttle/frame.errKind", Rows.laid_shuttle_frame_errKind), ("shuttle/frame.errShort", Rows.laid_shuttle_frame_errShort), ("shuttle/frame.errCheck", Rows.laid_shuttle_frame_errCheck), ("shuttle/frame.errNought", Rows.laid_shuttle_frame_errNought), ("shuttle/frame.errLong", Rows.laid_shuttle_frame_errLong)] W) : ∃ a, ErrsAt W a := by
  have h' : laidMet Tryd.prog [("shuttle/frame.errKind", Rows.laid_shuttle_frame_errKind), ("shuttle/frame.errShort", Rows.laid_shuttle_frame_errShort), ("shuttle/frame.errCheck", Rows.laid_shuttle_frame_errCheck), ("shuttle/frame.errNought", Rows.laid_shuttle_frame_errNought), ("shuttle/frame.errLong", Rows.laid_shuttle_frame_errLong)] W ∧ handlesMet Tryd.prog [("errors.errorType", Rows.laid_errors_errorType)] W := h
  have hh : W.cell? ⟨5, 0, none⟩ = some (.iface 221 (.agg #[.pointer (some ⟨7, 80, none⟩)])) := by
    obtain ⟨name, u, ty, e1, e2, e3, e4, e5⟩ := h'.2 _ (List.mem_singleton.2 rfl)
    have en : name = [101, 114, 114, 111, 114] := (Option.some.inj e1).symm
    subst en
    obtain rfl := Option.some.inj (rtE.symm.trans e2)
    have hm : ty ∈ (List.range 327).filter fun t => Tryd.prog.rowNamed t [101, 114, 114, 111, 114] := List.mem_filter.2 ⟨List.mem_range.2 (by rw [← typesN]; exact e3), e4⟩
    rw [oneE] at hm
    obtain rfl := List.mem_singleton.1 hm
    have hq : typeHandle Tryd.prog 80 = .pointer (some ⟨7, 80, none⟩) := by kernel_rfl
    rw [hq] at e5
    simpa using World.var?_cell gE5 e5 0
  obtain ⟨ps, ⟨g0, t0, cs0, f0, p0, q0, hg0, ht0, hv0, hd0, ⟨g1, t1, cs1, f1, p1, q1, hg1, ht1, hv1, hd1, ⟨g2, t2, cs2, f2, p2, q2, hg2, ht2, hv2, hd2, ⟨g3, t3, cs3, f3, p3, q3, hg3, ht3, hv3, hd3, ⟨g4, t4, cs4, f4, p4, q4, hg4, ht4, hv4, hd4, _, e4⟩, e3⟩, e2⟩, e1⟩, e0⟩, hnd, hrows⟩ := h'.1
  obtain rfl := Option.some.inj (gE0.symm.trans hg0)
  obtain rfl := Option.some.inj (tE0.symm.trans ht0)
  obtain rfl := Option.some.inj (gE1.symm.trans hg1)
  obtain rfl := Option.some.inj (tE1.symm.trans ht1)
  obtain rfl := Option.some.inj (gE2.symm.trans hg2)
  obtain rfl := Option.some.inj (tE2.symm.trans ht2)
  obtain rfl := Option.some.inj (gE3.symm.trans hg3)
  obtain rfl := Option.some.inj (tE3.symm.trans ht3)
  obtain rfl := Option.some.inj (gE4.symm.trans hg4)
  obtain rfl := Option.some.inj (tE4.symm.trans ht4)
  subst e4
  subst e3
  subst e2
  subst e1
  subst e0
  obtain ⟨l0⟩ := cs0
  have ok0 : ∀ u v, l0 = [.iface u v] → Value.okWide Tryd.prog W .any 0 u v := fun u v e => by
    subst e
    exact (hrows 0 0 (by simp [MemPlace.row])).2 u v (by simpa using World.var?_cell hg0 hv0 0)
  obtain ⟨l1⟩ := cs1
  have ok1 : ∀ u v, l1 = [.iface u v] → Value.okWide Tryd.prog W .any 0 u v := fun u v e => by
    subst e
    exact (hrows 1 0 (by simp [MemPlace.row])).2 u v (by simpa using World.var?_cell hg1 hv1 0)
  obtain ⟨l2⟩ := cs2
  have ok2 : ∀ u v, l2 = [.iface u v] → Value.okWide Tryd.prog W .any 0 u v := fun u v e => by
    subst e
    exact (hrows 2 0 (by simp [MemPlace.row])).2 u v (by simpa using World.var?_cell hg2 hv2 0)
  obtain ⟨l3⟩ := cs3
  have ok3 : ∀ u v, l3 = [.iface u v] → Value.okWide Tryd.prog W .any 0 u v := fun u v e => by
    subst e
    exact (hrows 3 0 (by simp [MemPlace.row])).2 u v (by simpa using World.var?_cell hg3 hv3 0)
  obtain ⟨l4⟩ := cs4
  have ok4 : ∀ u v, l4 = [.iface u v] → Value.okWide Tryd.prog W .any 0 u v := fun u v e => by
    subst e
    exact (hrows 4 0 (by simp [MemPlace.row])).2 u v (by simpa using World.var?_cell hg4 hv4 0)
  obtain ⟨a0, s0, rfl, hc0, hs0, hz0, rfl⟩ := errorString_of_trod Tryd.underlying80 rowE Tryd.underlying296 Tryd.underlying316 rfl rfl Tryd.underlying9 cellsES cells9 hd0 ok0
  obtain ⟨a1, s1, rfl, hc1, hs1, hz1, rfl⟩ := errorString_of_trod Tryd.underlying80 rowE Tryd.underlying296 Tryd.underlying316 rfl rfl Tryd.underlying9 cellsES cells9 hd1 ok1
  obtain ⟨a2, s2, rfl, hc2, hs2, hz2, rfl⟩ := errorString_of_trod Tryd.underlying80 rowE Tryd.underlying296 Tryd.underlying316 rfl rfl Tryd.underlying9 cellsES cells9 hd2 ok2
  obtain ⟨a3, s3, rfl, hc3, hs3, hz3, rfl⟩ := errorString_of_trod Tryd.underlying80 rowE Tryd.underlying296 Tryd.underlying316 rfl rfl Tryd.underlying9 cellsES cells9 hd3 ok3
  obtain ⟨a4, s4, rfl, hc4, hs4, hz4, rfl⟩ := errorString_of_trod Tryd.underlying80 rowE Tryd.underlying296 Tryd.underlying316 rfl rfl Tryd.underlying9 cellsES cells9 hd4 ok4
  obtain ⟨c0, u0, hb0⟩ := (hrows a0.block a0.off (by simp [MemPlace.row])).1
  obtain ⟨c1, u1, hb1⟩ := (hrows a1.block a1.off (by simp [MemPlace.row])).1
  obtain ⟨c2, u2, hb2⟩ := (hrows a2.block a2.off (by simp [MemPlace.row])).1
  obtain ⟨c3, u3, hb3⟩ := (hrows a3.block a3.off (by simp [MemPlace.row])).1
  obtain ⟨c4, u4, hb4⟩ := (hrows a4.block a4.off (by simp [MemPlace.row])).1
  have n01 : a0 ≠ a1 := by rintro rfl; simp [MemPlace.row] at hnd
  have n02 : a0 ≠ a2 := by rintro rfl; simp [MemPlace.row] at hnd
  have n03 : a0 ≠ a3 := by rintro rfl; simp [MemPlace.row] at hnd
  have n04 : a0 ≠ a4 := by rintro rfl; simp [MemPlace.row] at hnd
  have n12 : a1 ≠ a2 := by rintro rfl; simp [MemPlace.row] at hnd
  have n13 : a1 ≠ a3 := by rintro rfl; simp [MemPlace.row] at hnd
  have n14 : a1 ≠ a4 := by rintro rfl; simp [MemPlace.row] at hnd
  have n23 : a2 ≠ a3 := by rintro rfl; simp [MemPlace.row] at hnd
  have n24 : a2 ≠ a4 := by rintro rfl; simp [MemPlace.row] at hnd
  have n34 : a3 ≠ a4 := by rintro rfl; simp [MemPlace.row] at hnd
  have v0 : W.cell? ⟨0, 0, none⟩ = some (.iface 296 (.pointer (some a0))) := by simpa using World.var?_cell gE0 hv0 0
  have v1 : W.cell? ⟨1, 0, none⟩ = some (.iface 296 (.pointer (some a1))) := by simpa using World.var?_cell gE1 hv1 0
  have v2 : W.cell? ⟨2, 0, none⟩ = some (.iface 296 (.pointer (some a2))) := by simpa using World.var?_cell gE2 hv2 0
  have v3 : W.cell? ⟨3, 0, none⟩ = some (.iface 296 (.pointer (some a3))) := by simpa using World.var?_cell gE3 hv3 0
  have v4 : W.cell? ⟨4, 0, none⟩ = some (.iface 296 (.pointer (some a4))) := by simpa using World.var?_cell gE4 hv4 0
  refine ⟨fun i => match i with | 0 => a0 | 1 => a1 | 2 => a2 | 3 => a3 | _ => a4, ?_, hh, ?_, ?_, ?_⟩
  · exact World.block_lt_of_cell? W _ hh
  · intro i hi
    match i, hi with
    | 0, _ => exact v0
    | 1, _ => exact v1
    | 2, _ => exact v2
    | 3, _ => exact v3
    | 4, _ => exact v4
  · intro i hi
    match i, hi with
    | 0, _ => exact ⟨c0, u0, hb0⟩
    | 1, _ => exact ⟨c1, u1, hb1⟩
    | 2, _ => exact ⟨c2, u2, hb2⟩
    | 3, _ => exact ⟨c3, u3, hb3⟩
    | 4, _ => exact ⟨c4, u4, hb4⟩
  · intro i j hi hj hne
    match i, j, hi, hj, hne with
    | 0, 1, _, _, _ => exact n01
    | 0, 2, _, _, _ => exact n02
    | 0, 3, _, _, _ => exact n03
    | 0, 4, _, _, _ => exact n04
    | 0, 0, _, _, h => exact absurd rfl h
    | 1, 0, _, _, _ => exact Ne.symm n01
    | 1, 2, _, _, _ => exact n12
    | 1, 3, _, _, _ => exact n13
    | 1, 4, _, _, _ => exact n14
    | 1, 1, _, _, h => exact absurd rfl h
    | 2, 0, _, _, _ => exact Ne.symm n02
    | 2, 1, _, _, _ => exact Ne.symm n12
    | 2, 3, _, _, _ => exact n23
    | 2, 4, _, _, _ => exact n24
    | 2, 2, _, _, h => exact absurd rfl h
    | 3, 0, _, _, _ => exact Ne.symm n03
    | 3, 1, _, _, _ => exact Ne.symm n13
    | 3, 2, _, _, _ => exact Ne.symm n23
    | 3, 4, _, _, _ => exact n34
    | 3, 3, _, _, h => exact absurd rfl h
    | 4, 0, _, _, _ => exact Ne.symm n04
    | 4, 1, _, _, _ => exact Ne.symm n14
    | 4, 2, _, _, _ => exact Ne.symm n24
    | 4, 3, _, _, _ => exact Ne.symm n34
    | 4, 4, _, _, h => exact absurd rfl h
end Go.Proofs.YtkmacepodomdmaaDoor
