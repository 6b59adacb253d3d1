/-
  CombineAdds: in every row of versions, also raw ones, the numbers and counts are told, and what is decoded; of none nothing is. No condition.
-/
import Derived.Test.YtknfpdlomgllhaaDoorRows
import Derived.WalkKit
import Derived.Test.YtknfpdlomgllhaaDoorMz
import Derived.Test.YtknfpdlomgllhaaDoorMem
import Derived.Test.YtknfpdlomgllhaaDoorBk
import Derived.Test.YtknfpdlomgllhaaDoorRr
import Derived.Test.YtknfpdlomgllhaaDoorKz
import Derived.Test.YtknfpdlomgllhaaDoorTz
import Derived.Test.YtknfpdlomgllhaaDoorTa
import Derived.Test.YtknfpdlomgllhaaDoorMc
import Derived.Test.YtknfpdlomgllhaaDoorMg
import Derived.Test.YtknfpdlomgllhaaDoorMh
import Derived.Test.YtknfpdlomgllhaaDoorVa
import Derived.Test.YtknfpdlomgllhaaDoorSz
import Derived.Test.YtknfpdlomgllhaaDoorVb
import Derived.Test.YtknfpdlomgllhaaDoorVc
import Derived.Test.YtknfpdlomgllhaaDoorVd
import Derived.Test.YtknfpdlomgllhaaDoorVe
import Derived.Test.YtknfpdlomgllhaaDoorVf
import Derived.Test.YtknfpdlomgllhaaDoorVg
import Derived.Test.YtknfpdlomgllhaaDoorVh
import Derived.Test.YtknfpdlomgllhaaDoorVi
import Derived.Test.YtknfpdlomgllhaaDoorPa
import Derived.Test.YtknfpdlomgllhaaDoorPb
import Derived.Test.YtknfpdlomgllhaaDoorPi
import Derived.Test.YtknfpdlomgllhaaDoorNa
import Derived.Test.YtknfpdlomgllhaaDoorUa
import Derived.Test.YtknfpdlomgllhaaDoorUb
import Derived.Test.YtknfpdlomgllhaaDoorHp
import Derived.Test.YtknfpdlomgllhaaDoorHk
import Derived.Test.YtknfpdlomgllhaaDoorHq
import Derived.Test.YtknfpdlomgllhaaDoorRt
import Derived.Test.YtknfpdlomgllhaaDoorRc
import Derived.Test.YtknfpdlomgllhaaDoorUc
import Derived.Test.YtknfpdlomgllhaaDoorUd
import Derived.Test.YtknfpdlomgllhaaDoorArg
import Derived.Test.YtknfpdlomgllhaaDoorUe
import Derived.Test.YtknfpdlomgllhaaDoorOw
import Derived.Test.YtknfpdlomgllhaaDoorSx
import Derived.Test.YtknfpdlomgllhaaDoorMo
import Derived.Test.YtknfpdlomgllhaaDoorMq
import Derived.Test.YtknfpdlomgllhaaDoorUj
import Derived.Test.YtknfpdlomgllhaaDoorHr
import Derived.Test.YtknfpdlomgllhaaDoorTs
import Derived.Test.YtknfpdlomgllhaaDoorVs
import Derived.Test.YtknfpdlomgllhaaDoorVt
import Derived.Test.YtknfpdlomgllhaaDoorHs
import Derived.Test.YtknfpdlomgllhaaDoorLd
import Derived.ProofKit
import Derived.OpenShut
import Derived.ShutString
import Derived.ChangeOld
import Derived.Below
import Derived.Test.YtknfpdlomgllhaaDoorCards
import Derived.Test.YtknfpdlomgllhaaDoorTie
import Derived.LaidMore
import Derived.Stop.Joined
import Derived.SevenTiedAt
namespace Go.Proofs.YtknfpdlomgllhaaDoor.combineAdds
open Go.ChangeShapes Go.WideShapes Go.ChangeAt Go.RowKit
set_option linter.unusedVariables false

theorem own : ownKnob Tryd.prog.godebug = none := by kernel_rfl
theorem laidOut : laidOutB Tryd.prog = true := by kernel_rfl

/-- The walk. -/
theorem walk (a0 : Int) (a1 : Option Addr) (len1 cap1 : Nat) (z1 : List Int) (a2 : Option Addr) (len2 cap2 : Nat) (z2 : Nat → CE) (w : World) (w0 : (Lit.int .i64 a0).wf = true) (w1 : Came .u8 w a1 len1 cap1 z1) (w2 : CRow w w.heap.size a2 len2 z2 ∧ len2 ≤ cap2 ∧ cap2 ≤ 9223372036854775807) (hT : Taps w) :
    Calls Tryd.prog 4 #[.int .i64 a0, .slice a1 len1 cap1, .slice a2 len2 cap2] w fun e w' => e = .returned (.bool true) ∧ Below w.heap.size w w' := by
    obtain ⟨xs, h1, b1, hl1, hc1, _⟩ := came8 w1
    exact walkCombineAdds a0 (wf_i64 w0) a1 len1 cap1 xs a2 len2 cap2 z2 w h1 b1 (by omega) w2.1 (by have := w2.2; omega) hT

set_option maxRecDepth 100000 in
theorem lifted (os : Os) (started : os.Started) (H : Type) (enc : TypeId × Value → H) :
    ReturnsInHanded {} Tryd.checked os 4 .any (fun w args => (Rows.combineAddsSpec.pre enc Tryd.prog Tryd.f4 [] false w args ∧ laidMetH Tryd.prog Rows.combineAddsRow.laid w) ∧ sizedMet enc Tryd.prog Tryd.f4 (OpenSpec.ofChange Rows.combineAddsSpec) false w args)
      (Rows.combineAddsSpec.post enc Tryd.prog Tryd.f4 false true false false) := by
  refine returnsInHanded_of_change_and (C := Tryd.checked) (X := fun w _ => laidMetH Tryd.prog Rows.combineAddsRow.laid w) (fun _ _ _ hh h => h.of_heap hh) own started (by kernel_rfl) Tryd.func4
    (ChangeSpec.witness_shaped (enc := enc) (C := Tryd.checked) (os := os) (X := fun w _ => laidMetH Tryd.prog Rows.combineAddsRow.laid w) false (World.doorLaid Tryd.prog 400 os) #[.int .i64 0, .slice none 0 0, .slice none 0 0] 8 rfl (World.shaped_of_RefB (by kernel_rfl) (by kernel_rfl)) (by kernel_rfl) (by kernel_rfl) (by kernel_rfl) (door_met os _)) ?_
  intro W base args ds gs before hval0 hW _ _ hL _
  have hval : ∀ (j : Nat) t v, Tryd.f4.params[j]? = some t → args[j]? = some v → Value.okWide Tryd.prog W .any base t v := hval0
  have hW' := hW
  obtain ⟨p, q, hA0, hV, rfl, hfz, hnd⟩ := hW
  have hA : DataW.TrodAll enc Tryd.prog W 0 (fun _ => true) true Tryd.f4.params.toList args.toList ds p := hA0
  rw [Tryd.params4] at hA hval
  obtain ⟨v0, vs0, d0, ds0, p0, q0, hargs, rfl, rfl, h0, r0⟩ := trodAll_cons hA
  obtain ⟨v1, vs1, d1, ds1, p1, q1, rfl, rfl, rfl, h1, r1⟩ := trodAll_cons r0
  obtain ⟨v2, vs2, d2, ds2, p2, q2, rfl, rfl, rfl, h2, r2⟩ := trodAll_cons r1
  obtain ⟨rfl, rfl, rfl⟩ := trodAll_nil r2
  obtain rfl : args = #[v0, v1, v2] := by cases args; simp_all
  obtain ⟨rfl, rfl⟩ := trodVars_none hV
  obtain ⟨a0, rfl, rfl, rfl, w0⟩ := open_int Tryd.underlying3 (hval 0 3 v0 rfl rfl) h0
  obtain ⟨a1, len1, cap1, rfl⟩ := okWide_slice Tryd.underlying23 (hval 1 23 v1 rfl rfl)
  have k1 := h1
  have lt1 : ∀ x ∈ p1, x.block < W.heap.size := by obtain ⟨m, hm⟩ := k1; exact DataW.trod_lt m _ _ _ hm
  obtain ⟨z1, w1⟩ : ∃ zs, Came .u8 W a1 len1 cap1 zs := by
    obtain ⟨fuel, hf⟩ := h1
    rcases open_ints Tryd.underlying23 Tryd.underlying5 (by kernel_rfl) hf with ⟨hcs, _⟩ | ⟨x, l, c, zs, hcs, _, hl, hm, hz, _, hcell, hwz⟩
    · simp [Value.cells] at hcs
      obtain ⟨rfl, rfl, rfl⟩ := hcs
      exact ⟨[], .inl ⟨rfl, rfl, rfl, rfl⟩⟩
    · simp [Value.cells] at hcs
      obtain ⟨rfl, rfl, rfl⟩ := hcs
      exact ⟨zs, .inr ⟨_, rfl, hl, hm, by simpa using hz, hcell, hwz⟩⟩
  obtain ⟨a2, len2, cap2, rfl⟩ := okWide_slice Tryd.underlying33 (hval 2 33 v2 rfl rfl)
  have k2 := h2
  have lt2 : ∀ x ∈ p2, x.block < W.heap.size := by obtain ⟨m, hm⟩ := k2; exact DataW.trod_lt m _ _ _ hm
  obtain ⟨z2, w2⟩ : ∃ es : Nat → CE, CRow W W.heap.size a2 len2 es ∧ len2 ≤ cap2 ∧ cap2 ≤ 9223372036854775807 := by
    obtain ⟨fuel, hf⟩ := h2
    exact cameRows hf
  clear hA0 hval0
  refine (walk a0 a1 len1 cap1 z1 a2 len2 cap2 z2 W w0 w1 w2 (of_laid hL)).mono fun e W' ⟨he, bel⟩ => ?_
  subst he
  exact ⟨_, rfl, _, _, _, [], _, [], hW', trodAll_mk1 (shut_bool Tryd.underlying4 _), (trodAll_cons_mk (shut_int Tryd.underlying3 w0) (trodAll_cons_mk (Below.trod laidOut (by kernel_rfl) (of_decide_eq_true (by kernel_rfl)) k1 bel lt1) (trodAll_cons_mk (Below.trod laidOut (by kernel_rfl) (of_decide_eq_true (by kernel_rfl)) k2 bel lt2) trodAll_mk0))), rfl, bel.frame _, fun h => by cases h⟩

theorem over : Rows.combineAddsRow.holds Tryd.pinned (OpenSpec.ofChange Rows.combineAddsSpec) :=
  OpenClaim.holds_of_wide 4 Tryd.f4 rfl rfl rfl rfl rfl rfl rfl ⟨rfl, rfl, rfl, rfl, rfl⟩ rfl rfl rfl rfl rfl (by kernel_rfl) Tryd.func4 (by kernel_rfl)
    (of_decide_eq_true (by kernel_rfl)) (by unfold Func.isWrapper; first | (rw [if_pos (by decide +kernel)]; kernel_rfl) | (rw [if_neg (by decide +kernel)]; exact ⟨rfl, rfl⟩))
    (fun os started H enc _ => lifted os started H enc)
end Go.Proofs.YtknfpdlomgllhaaDoor.combineAdds

namespace Go.Proofs.YtknfpdlomgllhaaDoor
/-- THE STATEMENT: the card. -/
theorem combineAdds_holds : Rows.CombineAddsCardSaid :=
  Claim7.holds_tied_plain_at .later [] [.data] true (true, "6463cbf49d19eab84cef9ff5a40c72b307b75409afaa918e56e64394aebf788d") true
    combineAdds.over (fun _ h => by cases h) (by kernel_rfl) (fun _ h => by cases h) combineAdds_row_tie rfl ⟨rfl, rfl⟩ (by kernel_rfl) rfl
    (fun f fn hf hfn => by
      obtain rfl : f = 4 := Option.some.inj ((show Tryd.prog.funcNamed "shuttle/shuttlelaw13.CombineAdds" = some 4 by kernel_rfl).symm.trans hf) |>.symm
      obtain rfl : fn = Tryd.f4 := (Option.some.inj (Tryd.func4.symm.trans hfn)).symm
      exact ⟨by kernel_rfl, fun j t ht => by
        rw [Tryd.params4] at ht
        have hm : t ∈ [3, 23, 33] := by simpa using Array.mem_of_getElem? ht
        have hall : ([3, 23, 33].all fun u => !Tryd.prog.wantsStandIn u) = true := by kernel_rfl
        exact (show Tryd.prog.wantsStandIn t = false by simpa using List.all_eq_true.1 hall t hm)⟩)
    (by kernel_rfl)
#print axioms combineAdds_holds
end Go.Proofs.YtknfpdlomgllhaaDoor
