/-
  For every map and every number and count that is asked, AckmapHas answers true: Has and Missing tell what the reference tells. No conditions.
-/
import Derived.Test.YtboloaglakehkaaRows
import Derived.WalkKit
import Derived.Test.YtboloaglakehkaaBm
import Derived.Test.YtboloaglakehkaaMem
import Derived.Test.YtboloaglakehkaaZa
import Derived.Test.YtboloaglakehkaaBk
import Derived.Test.YtboloaglakehkaaZc
import Derived.Test.YtboloaglakehkaaMc
import Derived.Test.YtboloaglakehkaaMg
import Derived.Test.YtboloaglakehkaaMh
import Derived.Test.YtboloaglakehkaaZd
import Derived.Test.YtboloaglakehkaaZe
import Derived.Test.YtboloaglakehkaaZf
import Derived.Test.YtboloaglakehkaaSq
import Derived.ProofKit
import Derived.OpenShut
import Derived.ShutString
import Derived.ChangeOld
import Derived.Below
namespace Go.Proofs.Ytboloaglakehkaa.ackmapHas
open Go.ChangeShapes Go.WideShapes Go.ChangeAt Go.RowKit
set_option linter.unusedVariables false

theorem own : ownKnob Try.prog.godebug = none := by kernel_rfl
theorem laidOut : laidOutB Try.prog = true := by kernel_rfl

/-- The walk. -/
theorem walk (a0 : Int) (a1 : Int) (a2 b2 : Int) (w : World) (w0 : (Lit.int .u16 a0).wf = true) (w1 : (Lit.int .u32 a1).wf = true) (w2 : (Lit.int .u16 a2).wf = true ∧ (Lit.int .i64 b2).wf = true) :
    Calls Try.prog 7 #[.int .u16 a0, .int .u32 a1, .agg #[.int .u16 a2, .int .i64 b2]] w fun e w' => e = .returned (.bool true) ∧ Below w.heap.size w w' := by
  have h0 := bounds_u16 w0
  have h1 := bounds_u32 w1
  have h2 := bounds_u16 w2.1
  have h3 := bounds_i64 w2.2
  obtain ⟨m, rfl⟩ : ∃ m : Nat, a1 = (m : Int) := ⟨a1.toNat, by omega⟩
  exact ackmapHas a0 m a2 b2 w (by omega) (by omega) (by omega) h3

set_option maxRecDepth 100000 in
theorem lifted (os : Os) (started : os.Started) (H : Type) (enc : TypeId × Value → H) :
    ReturnsInHanded {} Try.checked os 7 .any (Rows.ackmapHasSpec.pre6 enc Try.prog Try.f7 Rows.ackmapHasRow.domain false) (Rows.ackmapHasSpec.post enc Try.prog Try.f7 false true false false) := by
  refine returnsInHanded_of_change (C := Try.checked) own started (by kernel_rfl) Try.func7
    (ChangeSpec.witness6 (enc := enc) (C := Try.checked) false ⟨#[], #[.int .u16 0, .int .u32 0, .agg #[.int .u16 0, .int .i64 0]], []⟩ 8 (by kernel_rfl) (by kernel_rfl) (by kernel_rfl) (by kernel_rfl)) ?_
  intro W base args ds gs before hval0 hW hcnd _
  have hval : ∀ (j : Nat) t v, Try.f7.params[j]? = some t → args[j]? = some v → Value.okWide Try.prog W .any base t v := hval0
  have hW' := hW
  obtain ⟨p, q, hA0, hV, rfl, hfz, hnd⟩ := hW
  have hA : DataW.TrodAll enc Try.prog W 0 (fun _ => true) true Try.f7.params.toList args.toList ds p := hA0
  rw [Try.params7] at hA hval
  obtain ⟨v0, vs0, d0, ds0, p0, q0, hargs, rfl, rfl, h0, r0⟩ := trodAll_cons hA
  obtain ⟨v1, vs1, d1, ds1, p1, q1, rfl, rfl, rfl, h1, r1⟩ := trodAll_cons r0
  obtain ⟨v2, vs2, d2, ds2, p2, q2, rfl, rfl, rfl, h2, r2⟩ := trodAll_cons r1
  obtain ⟨rfl, rfl, rfl⟩ := trodAll_nil r2
  obtain rfl : args = #[v0, v1, v2] := by cases args; simp_all
  obtain ⟨rfl, rfl⟩ := trodVars_none hV
  obtain ⟨a0, rfl, rfl, rfl, w0⟩ := open_int Try.underlying22 (hval 0 22 v0 rfl rfl) h0
  obtain ⟨a1, rfl, rfl, rfl, w1⟩ := open_int Try.underlying37 (hval 1 37 v1 rfl rfl) h1
  obtain ⟨c2, rfl, s2⟩ := okWide_st Try.underlying46 (hval 2 46 v2 rfl rfl)
  have k2 := h2
  have lt2 : ∀ x ∈ p2, x.block < W.heap.size := by obtain ⟨m, hm⟩ := k2; exact DataW.trod_lt m _ _ _ hm
  obtain ⟨a2, b2, e2, w2⟩ : ∃ a n : Int, c2 = #[.int .u16 a, .int .i64 n] ∧ ((Lit.int .u16 a).wf = true ∧ (Lit.int .i64 n).wf = true) := by
    obtain ⟨fuel, hf⟩ := h2
    exact cameAsk s2 hf
  subst e2
  clear hA0 hval0
  refine (walk a0 a1 a2 b2 W w0 w1 w2).mono fun e W' ⟨he, bel⟩ => ?_
  subst he
  exact ⟨_, rfl, _, _, _, [], _, [], hW', trodAll_mk1 (shut_bool Try.underlying4 _), (trodAll_cons_mk (shut_int Try.underlying22 w0) (trodAll_cons_mk (shut_int Try.underlying37 w1) (trodAll_cons_mk (Below.trod laidOut (by kernel_rfl) (of_decide_eq_true (by kernel_rfl)) k2 bel lt2) trodAll_mk0))), rfl, bel.frame _, fun h => by cases h⟩

theorem over : Rows.ackmapHasRow.holds Try.pinned (OpenSpec.ofChange Rows.ackmapHasSpec) :=
  OpenClaim.holds_of_wide 7 Try.f7 rfl rfl rfl rfl rfl rfl rfl ⟨rfl, rfl, rfl, rfl, rfl⟩ rfl rfl rfl rfl rfl (by kernel_rfl) Try.func7 (by kernel_rfl)
    (of_decide_eq_true (by kernel_rfl)) (by unfold Func.isWrapper; first | (rw [if_pos (by decide +kernel)]; kernel_rfl) | (rw [if_neg (by decide +kernel)]; exact ⟨rfl, rfl⟩))
    (fun os started H enc _ => lifted os started H enc)
end Go.Proofs.Ytboloaglakehkaa.ackmapHas

namespace Go.Proofs.Ytboloaglakehkaa
/-- THE STATEMENT. -/
theorem ackmapHas_holds : Rows.AckmapHasSaid := ackmapHas.over
#print axioms ackmapHas_holds
end Go.Proofs.Ytboloaglakehkaa
