/-
  ShuttleBursts: of a list that was shuffled some bits side by side are turned, no more than there are whole rows: taken back, no two turned ones are side by side, if there are three columns or more; for all inputs, no conditions.
-/
import Derived.Test.YtoiibjblaafgpabRows
import Derived.WalkKit
import Derived.Test.YtoiibjblaafgpabBm
import Derived.Test.YtoiibjblaafgpabMem
import Derived.Test.YtoiibjblaafgpabArg
import Derived.Test.YtoiibjblaafgpabAr
import Derived.Test.YtoiibjblaafgpabSha
import Derived.Test.YtoiibjblaafgpabShg
import Derived.Test.YtoiibjblaafgpabBk
import Derived.Test.YtoiibjblaafgpabMc
import Derived.Test.YtoiibjblaafgpabShb
import Derived.Test.YtoiibjblaafgpabShc
import Derived.Test.YtoiibjblaafgpabShe
import Derived.Test.YtoiibjblaafgpabPoly
import Derived.Test.YtoiibjblaafgpabBn
import Derived.Test.YtoiibjblaafgpabCm
import Derived.Test.YtoiibjblaafgpabRs
import Derived.Test.YtoiibjblaafgpabShh
import Derived.ProofKit
import Derived.OpenShut
import Derived.ShutString
import Derived.ChangeOld
import Derived.Below
namespace Go.Proofs.Ytoiibjblaafgpab.shuttleBursts
open Go.ChangeShapes Go.WideShapes Go.ChangeAt Go.RowKit
set_option linter.unusedVariables false

theorem own : ownKnob Try.prog.godebug = none := by kernel_rfl
theorem laidOut : laidOutB Try.prog = true := by kernel_rfl

/-- The walk. -/
theorem walk (a0 : Option Addr) (len0 cap0 : Nat) (z0 : List Int) (a1 : Int) (z2 : List Int) (w : World) (w0 : Came .u8 w a0 len0 cap0 z0) (w1 : (Lit.int .i64 a1).wf = true) (w2 : z2.length = 2) :
    Calls Try.prog 7 #[.slice a0 len0 cap0, .int .i64 a1, .agg (W4 z2)] w fun e w' => e = .returned (.bool true) ∧ Below w.heap.size w w' := by
  obtain ⟨xs, hr, hb, hnc, hc, hnone⟩ := came8 w0
  exact shuttleBursts a0 len0 cap0 xs a1 z2 w hr hb hnc hc hnone w2

set_option maxRecDepth 100000 in
theorem lifted (os : Os) (started : os.Started) (H : Type) (enc : TypeId × Value → H) :
    ReturnsInHanded {} Try.checked os 7 .any (Rows.shuttleBurstsSpec.pre6 enc Try.prog Try.f7 Rows.shuttleBurstsRow.domain false) (Rows.shuttleBurstsSpec.post enc Try.prog Try.f7 false true false false) := by
  refine returnsInHanded_of_change (C := Try.checked) own started (by kernel_rfl) Try.func7
    (ChangeSpec.witness6 (enc := enc) (C := Try.checked) false ⟨#[], #[.slice none 0 0, .int .i64 0, .agg #[.int .i64 0, .int .i64 0]], []⟩ 8 (by kernel_rfl) (by kernel_rfl) (by kernel_rfl) (by kernel_rfl)) ?_
  intro W base args ds gs before hval0 hW hcnd _
  have hval : ∀ (j : Nat) t v, Try.f7.params[j]? = some t → args[j]? = some v → Value.okWide Try.prog W .any base t v := hval0
  have hW' := hW
  obtain ⟨p, q, hA0, hV, rfl, hfz, hnd⟩ := hW
  have hA : DataW.TrodAll enc Try.prog W 0 (fun _ => true) true Try.f7.params.toList args.toList ds p := hA0
  rw [Try.params7] at hA hval
  obtain ⟨v0, vs0, d0, ds0, p0, q0, hargs, rfl, rfl, h0, r0⟩ := trodAll_cons hA
  obtain ⟨v1, vs1, d1, ds1, p1, q1, rfl, rfl, rfl, h1, r1⟩ := trodAll_cons r0
  obtain ⟨v2, vs2, d2, ds2, p2, q2, rfl, rfl, rfl, h2, r2⟩ := trodAll_cons r1
  obtain ⟨rfl, rfl, rfl⟩ := trodAll_nil r2
  obtain rfl : args = #[v0, v1, v2] := by cases args; simp_all
  obtain ⟨rfl, rfl⟩ := trodVars_none hV
  obtain ⟨a0, len0, cap0, rfl⟩ := okWide_slice Try.underlying22 (hval 0 22 v0 rfl rfl)
  have k0 := h0
  have lt0 : ∀ x ∈ p0, x.block < W.heap.size := by obtain ⟨m, hm⟩ := k0; exact DataW.trod_lt m _ _ _ hm
  obtain ⟨z0, w0⟩ : ∃ zs, Came .u8 W a0 len0 cap0 zs := by
    obtain ⟨fuel, hf⟩ := h0
    rcases open_ints Try.underlying22 Try.underlying5 (by kernel_rfl) hf with ⟨hcs, _⟩ | ⟨x, l, c, zs, hcs, _, hl, hm, hz, _, hcell, hwz⟩
    · simp [Value.cells] at hcs
      obtain ⟨rfl, rfl, rfl⟩ := hcs
      exact ⟨[], .inl ⟨rfl, rfl, rfl, rfl⟩⟩
    · simp [Value.cells] at hcs
      obtain ⟨rfl, rfl, rfl⟩ := hcs
      exact ⟨zs, .inr ⟨_, rfl, hl, hm, by simpa using hz, hcell, hwz⟩⟩
  obtain ⟨a1, rfl, rfl, rfl, w1⟩ := open_int Try.underlying3 (hval 1 3 v1 rfl rfl) h1
  obtain ⟨c2, rfl, s2⟩ := okWide_row Try.underlying40 (hval 2 40 v2 rfl rfl)
  have k2 := h2
  have lt2 : ∀ x ∈ p2, x.block < W.heap.size := by obtain ⟨m, hm⟩ := k2; exact DataW.trod_lt m _ _ _ hm
  obtain ⟨z2, w2, e2⟩ : ∃ zs : List Int, zs.length = 2 ∧ c2 = W4 zs := by
    obtain ⟨fuel, hf⟩ := h2
    obtain ⟨zs, h1, h2, _⟩ := cameRow Try.underlying40 Try.underlying3 (by kernel_rfl) (s2.trans (by kernel_rfl)) hf
    exact ⟨zs, h1, h2⟩
  subst e2
  clear hA0 hval0
  refine (walk a0 len0 cap0 z0 a1 z2 W w0 w1 w2).mono fun e W' ⟨he, bel⟩ => ?_
  subst he
  exact ⟨_, rfl, _, _, _, [], _, [], hW', trodAll_mk1 (shut_bool Try.underlying4 _), (trodAll_cons_mk (Below.trod laidOut (by kernel_rfl) (of_decide_eq_true (by kernel_rfl)) k0 bel lt0) (trodAll_cons_mk (shut_int Try.underlying3 w1) (trodAll_cons_mk (Below.trod laidOut (by kernel_rfl) (of_decide_eq_true (by kernel_rfl)) k2 bel lt2) trodAll_mk0))), rfl, bel.frame _, fun h => by cases h⟩

theorem over : Rows.shuttleBurstsRow.holds Try.pinned (OpenSpec.ofChange Rows.shuttleBurstsSpec) :=
  OpenClaim.holds_of_wide 7 Try.f7 rfl rfl rfl rfl rfl rfl rfl ⟨rfl, rfl, rfl, rfl, rfl⟩ rfl rfl rfl rfl rfl (by kernel_rfl) Try.func7 (by kernel_rfl)
    (of_decide_eq_true (by kernel_rfl)) (by unfold Func.isWrapper; first | (rw [if_pos (by decide +kernel)]; kernel_rfl) | (rw [if_neg (by decide +kernel)]; exact ⟨rfl, rfl⟩))
    (fun os started H enc _ => lifted os started H enc)
end Go.Proofs.Ytoiibjblaafgpab.shuttleBursts

namespace Go.Proofs.Ytoiibjblaafgpab
/-- THE STATEMENT. -/
theorem shuttleBursts_holds : Rows.ShuttleBurstsSaid := shuttleBursts.over
#print axioms shuttleBursts_holds
end Go.Proofs.Ytoiibjblaafgpab
