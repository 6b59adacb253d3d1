/-
  P28.1, P28.3: the acts on a queue.
-/
import Derived.Test.YtoiibjblaafgpaaRows
import Derived.WalkKit
import Derived.Test.YtoiibjblaafgpaaBm
import Derived.Test.YtoiibjblaafgpaaMem
import Derived.Test.YtoiibjblaafgpaaBk
import Derived.Test.YtoiibjblaafgpaaMc
import Derived.Test.YtoiibjblaafgpaaMo
import Derived.Test.YtoiibjblaafgpaaKr
import Derived.Test.YtoiibjblaafgpaaPia
import Derived.Test.YtoiibjblaafgpaaMg
import Derived.Test.YtoiibjblaafgpaaMh
import Derived.Test.YtoiibjblaafgpaaFia
import Derived.Test.YtoiibjblaafgpaaFib
import Derived.Test.YtoiibjblaafgpaaFic
import Derived.Test.YtoiibjblaafgpaaFid
import Derived.Test.YtoiibjblaafgpaaFig
import Derived.Test.YtoiibjblaafgpaaFih
import Derived.Test.YtoiibjblaafgpaaArg
import Derived.Test.YtoiibjblaafgpaaSq
import Derived.Test.YtoiibjblaafgpaaRw
import Derived.Test.YtoiibjblaafgpaaFie
import Derived.Test.YtoiibjblaafgpaaFii
import Derived.Test.YtoiibjblaafgpaaFij
import Derived.ProofKit
import Derived.OpenShut
import Derived.ShutString
import Derived.ChangeOld
import Derived.Below
namespace Go.Proofs.Ytoiibjblaafgpaa.fifoActs
open Go.ChangeShapes Go.WideShapes Go.ChangeAt Go.RowKit
set_option linter.unusedVariables false

theorem own : ownKnob Try.prog.godebug = none := by kernel_rfl
theorem laidOut : laidOutB Try.prog = true := by kernel_rfl

/-- The walk. -/
theorem walk (a0 : Int) (a1 : Option Addr) (len1 cap1 : Nat) (z1 : Nat → A28) (w : World) (w0 : (Lit.int .i64 a0).wf = true) (w1 : A28Row w w.heap.size a1 len1 z1 ∧ len1 ≤ cap1 ∧ cap1 ≤ 9223372036854775807) :
    Calls Try.prog 4 #[.int .i64 a0, .slice a1 len1 cap1] w fun e w' => e = .returned (.bool true) ∧ Below w.heap.size w w' := by
  obtain ⟨hr, hl, hc⟩ := w1
  exact fifoActs a0 a1 len1 cap1 z1 w hr (by omega)

set_option maxRecDepth 100000 in
theorem lifted (os : Os) (started : os.Started) (H : Type) (enc : TypeId × Value → H) :
    ReturnsInHanded {} Try.checked os 4 .any (Rows.fifoActsSpec.pre6 enc Try.prog Try.f4 Rows.fifoActsRow.domain false) (Rows.fifoActsSpec.post enc Try.prog Try.f4 false true false false) := by
  refine returnsInHanded_of_change (C := Try.checked) own started (by kernel_rfl) Try.func4
    (ChangeSpec.witness6 (enc := enc) (C := Try.checked) false ⟨#[], #[.int .i64 0, .slice none 0 0], []⟩ 8 (by kernel_rfl) (by kernel_rfl) (by kernel_rfl) (by kernel_rfl)) ?_
  intro W base args ds gs before hval0 hW hcnd _
  have hval : ∀ (j : Nat) t v, Try.f4.params[j]? = some t → args[j]? = some v → Value.okWide Try.prog W .any base t v := hval0
  have hW' := hW
  obtain ⟨p, q, hA0, hV, rfl, hfz, hnd⟩ := hW
  have hA : DataW.TrodAll enc Try.prog W 0 (fun _ => true) true Try.f4.params.toList args.toList ds p := hA0
  rw [Try.params4] at hA hval
  obtain ⟨v0, vs0, d0, ds0, p0, q0, hargs, rfl, rfl, h0, r0⟩ := trodAll_cons hA
  obtain ⟨v1, vs1, d1, ds1, p1, q1, rfl, rfl, rfl, h1, r1⟩ := trodAll_cons r0
  obtain ⟨rfl, rfl, rfl⟩ := trodAll_nil r1
  obtain rfl : args = #[v0, v1] := by cases args; simp_all
  obtain ⟨rfl, rfl⟩ := trodVars_none hV
  obtain ⟨a0, rfl, rfl, rfl, w0⟩ := open_int Try.underlying3 (hval 0 3 v0 rfl rfl) h0
  obtain ⟨a1, len1, cap1, rfl⟩ := okWide_slice Try.underlying51 (hval 1 51 v1 rfl rfl)
  have k1 := h1
  have lt1 : ∀ x ∈ p1, x.block < W.heap.size := by obtain ⟨m, hm⟩ := k1; exact DataW.trod_lt m _ _ _ hm
  obtain ⟨z1, w1⟩ : ∃ es : Nat → A28, A28Row W W.heap.size a1 len1 es ∧ len1 ≤ cap1 ∧ cap1 ≤ 9223372036854775807 := by
    obtain ⟨fuel, hf⟩ := h1
    exact cameRows28 hf
  clear hA0 hval0
  refine (walk a0 a1 len1 cap1 z1 W w0 w1).mono fun e W' ⟨he, bel⟩ => ?_
  subst he
  exact ⟨_, rfl, _, _, _, [], _, [], hW', trodAll_mk1 (shut_bool Try.underlying4 _), (trodAll_cons_mk (shut_int Try.underlying3 w0) (trodAll_cons_mk (Below.trod laidOut (by kernel_rfl) (of_decide_eq_true (by kernel_rfl)) k1 bel lt1) trodAll_mk0)), rfl, bel.frame _, fun h => by cases h⟩

theorem over : Rows.fifoActsRow.holds Try.pinned (OpenSpec.ofChange Rows.fifoActsSpec) :=
  OpenClaim.holds_of_wide 4 Try.f4 rfl rfl rfl rfl rfl rfl rfl ⟨rfl, rfl, rfl, rfl, rfl⟩ rfl rfl rfl rfl rfl (by kernel_rfl) Try.func4 (by kernel_rfl)
    (of_decide_eq_true (by kernel_rfl)) (by unfold Func.isWrapper; first | (rw [if_pos (by decide +kernel)]; kernel_rfl) | (rw [if_neg (by decide +kernel)]; exact ⟨rfl, rfl⟩))
    (fun os started H enc _ => lifted os started H enc)
end Go.Proofs.Ytoiibjblaafgpaa.fifoActs

namespace Go.Proofs.Ytoiibjblaafgpaa
/-- THE STATEMENT. -/
theorem fifoActs_holds : Rows.FifoActsSaid := fifoActs.over
#print axioms fifoActs_holds
end Go.Proofs.Ytoiibjblaafgpaa
