/-
  WheelActs: in every row of calls a wheel answers what the chapter says (no condition); of none nothing is told.
-/
import Derived.Test.YtkmacepodomdmaaRows
import Derived.WalkKit
import Derived.Test.YtkmacepodomdmaaBm
import Derived.Test.YtkmacepodomdmaaMem
import Derived.Test.YtkmacepodomdmaaJk
import Derived.Test.YtkmacepodomdmaaBk
import Derived.Test.YtkmacepodomdmaaMr
import Derived.Test.YtkmacepodomdmaaMo
import Derived.Test.YtkmacepodomdmaaMc
import Derived.Test.YtkmacepodomdmaaMg
import Derived.Test.YtkmacepodomdmaaMh
import Derived.Test.YtkmacepodomdmaaKr
import Derived.Test.YtkmacepodomdmaaJr
import Derived.Test.YtkmacepodomdmaaJs
import Derived.Test.YtkmacepodomdmaaJt
import Derived.Test.YtkmacepodomdmaaJu
import Derived.Test.YtkmacepodomdmaaMq
import Derived.Test.YtkmacepodomdmaaJv
import Derived.Test.YtkmacepodomdmaaNu
import Derived.Test.YtkmacepodomdmaaJl
import Derived.Test.YtkmacepodomdmaaJm
import Derived.Test.YtkmacepodomdmaaJn
import Derived.Test.YtkmacepodomdmaaJo
import Derived.Test.YtkmacepodomdmaaArg
import Derived.Test.YtkmacepodomdmaaSq
import Derived.Test.YtkmacepodomdmaaRw
import Derived.Test.YtkmacepodomdmaaJw
import Derived.Test.YtkmacepodomdmaaJx
import Derived.Test.YtkmacepodomdmaaOa
import Derived.Test.YtkmacepodomdmaaOb
import Derived.Test.YtkmacepodomdmaaOc
import Derived.Test.YtkmacepodomdmaaOn
import Derived.Test.YtkmacepodomdmaaOd
import Derived.Test.YtkmacepodomdmaaOe
import Derived.Test.YtkmacepodomdmaaOg
import Derived.Test.YtkmacepodomdmaaOf
import Derived.Test.YtkmacepodomdmaaOh
import Derived.Test.YtkmacepodomdmaaOi
import Derived.Test.YtkmacepodomdmaaOj
import Derived.ProofKit
import Derived.OpenShut
import Derived.ShutString
import Derived.ChangeOld
import Derived.Below
namespace Go.Proofs.Ytkmacepodomdmaa.wheelActs
open Go.ChangeShapes Go.WideShapes Go.ChangeAt Go.RowKit
set_option linter.unusedVariables false

theorem own : ownKnob Try.prog.godebug = none := by kernel_rfl
theorem laidOut : laidOutB Try.prog = true := by kernel_rfl

/-- The walk. -/
theorem walk (a0 : Option Addr) (len0 cap0 : Nat) (z0 : Nat → A19) (w : World) (w0 : A19Row w w.heap.size a0 len0 z0 ∧ len0 ≤ cap0 ∧ cap0 ≤ 9223372036854775807) :
    Calls Try.prog 4 #[.slice a0 len0 cap0] w fun e w' => e = .returned (.bool true) ∧ Below w.heap.size w w' := by
  exact wheelActs sortOk a0 len0 cap0 z0 w w0.1 (by have := w0.2; omega)

set_option maxRecDepth 100000 in
theorem lifted (os : Os) (started : os.Started) (H : Type) (enc : TypeId × Value → H) :
    ReturnsInHanded {} Try.checked os 4 .any (Rows.wheelActsSpec.pre6 enc Try.prog Try.f4 Rows.wheelActsRow.domain false) (Rows.wheelActsSpec.post enc Try.prog Try.f4 false true false false) := by
  refine returnsInHanded_of_change (C := Try.checked) own started (by kernel_rfl) Try.func4
    (ChangeSpec.witness6 (enc := enc) (C := Try.checked) false ⟨#[], #[.slice none 0 0], []⟩ 8 (by kernel_rfl) (by kernel_rfl) (by kernel_rfl) (by kernel_rfl)) ?_
  intro W base args ds gs before hval0 hW hcnd _
  have hval : ∀ (j : Nat) t v, Try.f4.params[j]? = some t → args[j]? = some v → Value.okWide Try.prog W .any base t v := hval0
  have hW' := hW
  obtain ⟨p, q, hA0, hV, rfl, hfz, hnd⟩ := hW
  have hA : DataW.TrodAll enc Try.prog W 0 (fun _ => true) true Try.f4.params.toList args.toList ds p := hA0
  rw [Try.params4] at hA hval
  obtain ⟨v0, vs0, d0, ds0, p0, q0, hargs, rfl, rfl, h0, r0⟩ := trodAll_cons hA
  obtain ⟨rfl, rfl, rfl⟩ := trodAll_nil r0
  obtain rfl : args = #[v0] := by cases args; simp_all
  obtain ⟨rfl, rfl⟩ := trodVars_none hV
  obtain ⟨a0, len0, cap0, rfl⟩ := okWide_slice Try.underlying50 (hval 0 50 v0 rfl rfl)
  have k0 := h0
  have lt0 : ∀ x ∈ p0, x.block < W.heap.size := by obtain ⟨m, hm⟩ := k0; exact DataW.trod_lt m _ _ _ hm
  obtain ⟨z0, w0⟩ : ∃ es : Nat → A19, A19Row W W.heap.size a0 len0 es ∧ len0 ≤ cap0 ∧ cap0 ≤ 9223372036854775807 := by
    obtain ⟨fuel, hf⟩ := h0
    exact cameRows19 hf
  clear hA0 hval0
  refine (walk a0 len0 cap0 z0 W w0).mono fun e W' ⟨he, bel⟩ => ?_
  subst he
  exact ⟨_, rfl, _, _, _, [], _, [], hW', trodAll_mk1 (shut_bool Try.underlying4 _), (trodAll_cons_mk (Below.trod laidOut (by kernel_rfl) (of_decide_eq_true (by kernel_rfl)) k0 bel lt0) trodAll_mk0), rfl, bel.frame _, fun h => by cases h⟩

theorem over : Rows.wheelActsRow.holds Try.pinned (OpenSpec.ofChange Rows.wheelActsSpec) :=
  OpenClaim.holds_of_wide 4 Try.f4 rfl rfl rfl rfl rfl rfl rfl ⟨rfl, rfl, rfl, rfl, rfl⟩ rfl rfl rfl rfl rfl (by kernel_rfl) Try.func4 (by kernel_rfl)
    (of_decide_eq_true (by kernel_rfl)) (by unfold Func.isWrapper; first | (rw [if_pos (by decide +kernel)]; kernel_rfl) | (rw [if_neg (by decide +kernel)]; exact ⟨rfl, rfl⟩))
    (fun os started H enc _ => lifted os started H enc)
end Go.Proofs.Ytkmacepodomdmaa.wheelActs

namespace Go.Proofs.Ytkmacepodomdmaa
/-- THE STATEMENT. -/
theorem wheelActs_holds : Rows.WheelActsSaid := wheelActs.over
#print axioms wheelActs_holds
end Go.Proofs.Ytkmacepodomdmaa
