/-
  WheelOnce: a number that is set is due just once, so many ticks behind; set again, by the last one alone: of all numbers and rows of ticks, no condition.
-/
import Derived.Test.YtcmnmjpjoelhkaaRows
import Derived.WalkKit
import Derived.Test.YtcmnmjpjoelhkaaBm
import Derived.Test.YtcmnmjpjoelhkaaMem
import Derived.Test.YtcmnmjpjoelhkaaJk
import Derived.Test.YtcmnmjpjoelhkaaNu
import Derived.Test.YtcmnmjpjoelhkaaBk
import Derived.Test.YtcmnmjpjoelhkaaKr
import Derived.Test.YtcmnmjpjoelhkaaMc
import Derived.Test.YtcmnmjpjoelhkaaJl
import Derived.Test.YtcmnmjpjoelhkaaJm
import Derived.Test.YtcmnmjpjoelhkaaMo
import Derived.Test.YtcmnmjpjoelhkaaJn
import Derived.Test.YtcmnmjpjoelhkaaJo
import Derived.Test.YtcmnmjpjoelhkaaJp
import Derived.Test.YtcmnmjpjoelhkaaOa
import Derived.Test.YtcmnmjpjoelhkaaOb
import Derived.Test.YtcmnmjpjoelhkaaOc
import Derived.Test.YtcmnmjpjoelhkaaOn
import Derived.Test.YtcmnmjpjoelhkaaOd
import Derived.Test.YtcmnmjpjoelhkaaOe
import Derived.Test.YtcmnmjpjoelhkaaOg
import Derived.Test.YtcmnmjpjoelhkaaOf
import Derived.Test.YtcmnmjpjoelhkaaOh
import Derived.Test.YtcmnmjpjoelhkaaOi
import Derived.Test.YtcmnmjpjoelhkaaOj
import Derived.Test.YtcmnmjpjoelhkaaArg
import Derived.ProofKit
import Derived.OpenShut
import Derived.ShutString
import Derived.ChangeOld
import Derived.Below
namespace Go.Proofs.Ytcmnmjpjoelhkaa.wheelOnce
open Go.ChangeShapes Go.WideShapes Go.ChangeAt Go.RowKit
set_option linter.unusedVariables false

theorem own : ownKnob Try.prog.godebug = none := by kernel_rfl
theorem laidOut : laidOutB Try.prog = true := by kernel_rfl

/-- The walk. -/
theorem walk (a0 : Int) (a1 : Option Addr) (len1 cap1 : Nat) (z1 : List Int) (w : World) (w0 : (Lit.int .u16 a0).wf = true) (w1 : Came .i64 w a1 len1 cap1 z1) :
    Calls Try.prog 5 #[.int .u16 a0, .slice a1 len1 cap1] w fun e w' => e = .returned (.bool true) ∧ Below w.heap.size w w' := by
    obtain ⟨zs, hz, hl, hc, _⟩ := came64 w1
    have ha : 0 ≤ a0 ∧ a0 < 65536 := by
      obtain ⟨m, e, hm⟩ := wf16_inv w0
      omega
    exact wheelOnce sortOk a0 a1 len1 cap1 zs w ha hz (by omega)

set_option maxRecDepth 100000 in
theorem lifted (os : Os) (started : os.Started) (H : Type) (enc : TypeId × Value → H) :
    ReturnsInHanded {} Try.checked os 5 .any (Rows.wheelOnceSpec.pre6 enc Try.prog Try.f5 Rows.wheelOnceRow.domain false) (Rows.wheelOnceSpec.post enc Try.prog Try.f5 false true false false) := by
  refine returnsInHanded_of_change (C := Try.checked) own started (by kernel_rfl) Try.func5
    (ChangeSpec.witness6 (enc := enc) (C := Try.checked) false ⟨#[], #[.int .u16 0, .slice none 0 0], []⟩ 8 (by kernel_rfl) (by kernel_rfl) (by kernel_rfl) (by kernel_rfl)) ?_
  intro W base args ds gs before hval0 hW hcnd _
  have hval : ∀ (j : Nat) t v, Try.f5.params[j]? = some t → args[j]? = some v → Value.okWide Try.prog W .any base t v := hval0
  have hW' := hW
  obtain ⟨p, q, hA0, hV, rfl, hfz, hnd⟩ := hW
  have hA : DataW.TrodAll enc Try.prog W 0 (fun _ => true) true Try.f5.params.toList args.toList ds p := hA0
  rw [Try.params5] at hA hval
  obtain ⟨v0, vs0, d0, ds0, p0, q0, hargs, rfl, rfl, h0, r0⟩ := trodAll_cons hA
  obtain ⟨v1, vs1, d1, ds1, p1, q1, rfl, rfl, rfl, h1, r1⟩ := trodAll_cons r0
  obtain ⟨rfl, rfl, rfl⟩ := trodAll_nil r1
  obtain rfl : args = #[v0, v1] := by cases args; simp_all
  obtain ⟨rfl, rfl⟩ := trodVars_none hV
  obtain ⟨a0, rfl, rfl, rfl, w0⟩ := open_int Try.underlying22 (hval 0 22 v0 rfl rfl) h0
  obtain ⟨a1, len1, cap1, rfl⟩ := okWide_slice Try.underlying39 (hval 1 39 v1 rfl rfl)
  have k1 := h1
  have lt1 : ∀ x ∈ p1, x.block < W.heap.size := by obtain ⟨m, hm⟩ := k1; exact DataW.trod_lt m _ _ _ hm
  obtain ⟨z1, w1⟩ : ∃ zs, Came .i64 W a1 len1 cap1 zs := by
    obtain ⟨fuel, hf⟩ := h1
    rcases open_ints Try.underlying39 Try.underlying3 (by kernel_rfl) hf with ⟨hcs, _⟩ | ⟨x, l, c, zs, hcs, _, hl, hm, hz, _, hcell, hwz⟩
    · simp [Value.cells] at hcs
      obtain ⟨rfl, rfl, rfl⟩ := hcs
      exact ⟨[], .inl ⟨rfl, rfl, rfl, rfl⟩⟩
    · simp [Value.cells] at hcs
      obtain ⟨rfl, rfl, rfl⟩ := hcs
      exact ⟨zs, .inr ⟨_, rfl, hl, hm, by simpa using hz, hcell, hwz⟩⟩
  clear hA0 hval0
  refine (walk a0 a1 len1 cap1 z1 W w0 w1).mono fun e W' ⟨he, bel⟩ => ?_
  subst he
  exact ⟨_, rfl, _, _, _, [], _, [], hW', trodAll_mk1 (shut_bool Try.underlying4 _), (trodAll_cons_mk (shut_int Try.underlying22 w0) (trodAll_cons_mk (Below.trod laidOut (by kernel_rfl) (of_decide_eq_true (by kernel_rfl)) k1 bel lt1) trodAll_mk0)), rfl, bel.frame _, fun h => by cases h⟩

theorem over : Rows.wheelOnceRow.holds Try.pinned (OpenSpec.ofChange Rows.wheelOnceSpec) :=
  OpenClaim.holds_of_wide 5 Try.f5 rfl rfl rfl rfl rfl rfl rfl ⟨rfl, rfl, rfl, rfl, rfl⟩ rfl rfl rfl rfl rfl (by kernel_rfl) Try.func5 (by kernel_rfl)
    (of_decide_eq_true (by kernel_rfl)) (by unfold Func.isWrapper; first | (rw [if_pos (by decide +kernel)]; kernel_rfl) | (rw [if_neg (by decide +kernel)]; exact ⟨rfl, rfl⟩))
    (fun os started H enc _ => lifted os started H enc)
end Go.Proofs.Ytcmnmjpjoelhkaa.wheelOnce

namespace Go.Proofs.Ytcmnmjpjoelhkaa
/-- THE STATEMENT. -/
theorem wheelOnce_holds : Rows.WheelOnceSaid := wheelOnce.over
#print axioms wheelOnce_holds
end Go.Proofs.Ytcmnmjpjoelhkaa
