/-
  The Go function BitioPuts returns true for every list of numbers with their widths: a number that fits its width is put, and taken again as it was; one that doesn't is refused. No condition.
-/
import Derived.Test.YtcddbcknjcedfaaRows
import Derived.WalkKit
import Derived.Test.YtcddbcknjcedfaaPoly
import Derived.Test.YtcddbcknjcedfaaLen
import Derived.Test.YtcddbcknjcedfaaGfa
import Derived.Test.YtcddbcknjcedfaaGfb
import Derived.Test.YtcddbcknjcedfaaGfc
import Derived.Test.YtcddbcknjcedfaaMem
import Derived.Test.YtcddbcknjcedfaaBm
import Derived.Test.YtcddbcknjcedfaaBa
import Derived.Test.YtcddbcknjcedfaaBn
import Derived.Test.YtcddbcknjcedfaaBb
import Derived.Test.YtcddbcknjcedfaaBc
import Derived.Test.YtcddbcknjcedfaaBd
import Derived.Test.YtcddbcknjcedfaaBe
import Derived.Test.YtcddbcknjcedfaaRm
import Derived.Test.YtcddbcknjcedfaaGfd
import Derived.Test.YtcddbcknjcedfaaBf
import Derived.Test.YtcddbcknjcedfaaWm
import Derived.Test.YtcddbcknjcedfaaWa
import Derived.Test.YtcddbcknjcedfaaWb
import Derived.Test.YtcddbcknjcedfaaWc
import Derived.Test.YtcddbcknjcedfaaRa
import Derived.Test.YtcddbcknjcedfaaRb
import Derived.Test.YtcddbcknjcedfaaPm
import Derived.Test.YtcddbcknjcedfaaPw
import Derived.Test.YtcddbcknjcedfaaArg
import Derived.ProofKit
import Derived.OpenShut
import Derived.ShutString
import Derived.ChangeOld
import Derived.Below
import Derived.Deep.SlicePairs
namespace Go.Proofs.Ytcddbcknjcedfaa.bitioPuts
open Go.ChangeShapes Go.WideShapes Go.ChangeAt Go.RowKit
open Go.ChangeMaps (open_string shut_string)
set_option linter.unusedVariables false

theorem own : ownKnob Try.prog.godebug = none := by kernel_rfl
theorem laidOut : laidOutB Try.prog = true := by kernel_rfl

theorem cells47 : Try.prog.cellsOf 47 = 2 := by kernel_rfl
theorem cells3 : Try.prog.cellsOf 3 = 1 := by kernel_rfl

/-- What is told of the numbers with their widths that came in. -/
theorem came {H : Type} {enc : TypeId × Value → H} {W : World} {fuel len cap : Nat} {a : Option Addr} {x : DataW H × List MemPlace} {spare : Nat → Bool} {held : Bool} (h : DataW.trod enc Try.prog W 0 spare held fuel 38 [.slice a len cap] = some x) :
    ∃ zs : List (Int × Int), RdN W W.heap.size a len zs ∧ (∀ p ∈ zs, (-9223372036854775808 ≤ p.1 ∧ p.1 ≤ 9223372036854775807) ∧ (-9223372036854775808 ≤ p.2 ∧ p.2 ≤ 9223372036854775807)) ∧ len ≤ cap ∧ cap ≤ 9223372036854775807 := by
  rcases Deep.open_slice_pairs Try.underlying38 Try.underlying47 cells47 rfl rfl cells3 cells3 h with ⟨hcs, _⟩ | ⟨x, l, c, m, n, V0, V1, D0, D1, P0, P1, hcs, _, hl, hm, hmm, _, hx⟩
  · simp at hcs
    obtain ⟨rfl, rfl, rfl⟩ := hcs
    exact ⟨[], ⟨rfl, fun h => absurd h (by omega)⟩, by simp, by omega, by omega⟩
  · simp at hcs
    obtain ⟨rfl, rfl, rfl⟩ := hcs
    have hlm : len ≤ m := by rw [hmm]; split <;> omega
    have each : ∀ i, i < len → ∃ q : Int × Int, W.cell? (x.add (i * 2)) = some (.int .i64 q.1) ∧ W.cell? (x.add (i * 2 + 1)) = some (.int .i64 q.2) ∧ (Lit.int .i64 q.1).wf = true ∧ (Lit.int .i64 q.2).wf = true := by
      intro i hi
      obtain ⟨c1, c2, t1, t2⟩ := hx i (by omega)
      obtain ⟨y1, e1, _, f1⟩ := DataW.trod_int Try.underlying3 t1
      obtain ⟨y2, e2, _, f2⟩ := DataW.trod_int Try.underlying3 t2
      simp at e1 e2
      exact ⟨(y1, y2), by rw [c1, e1], by rw [c2, e2], f1, f2⟩
    obtain ⟨q, hq⟩ := Deep.choose_lt each
    refine ⟨(List.range len).map q, ⟨by simp, fun hn => ?_⟩, ?_, hl, by unfold maxLen at hm; omega⟩
    · obtain ⟨b, off, spot⟩ := x
      have hc := (hq 0 hn).1
      have hspot : spot = none := by simpa [Addr.add] using World.cell?_spot hc
      subst hspot
      have e : ∀ i, (⟨b, off, none⟩ : Addr).add i = ⟨b, off + i, none⟩ := fun i => Addr.add_lit ..
      rw [e] at hc
      refine ⟨b, off, rfl, World.block_lt_of_cell? W _ hc, fun i hi => ?_⟩
      have h1 := hq i hi
      rw [e, e] at h1
      have eg : ((List.range len).map q).getD i (0, 0) = q i := by simp [List.getD, hi]
      rw [eg, Nat.add_assoc]
      exact ⟨h1.1, h1.2.1⟩
    · intro p hp
      obtain ⟨i, hi, rfl⟩ := List.mem_map.1 hp
      have h1 := hq i (List.mem_range.1 hi)
      exact ⟨bounds_i64 h1.2.2.1, bounds_i64 h1.2.2.2⟩

/-! ### THE ROW's STEP: WRITTEN OUT: LEAVE IT -/
set_option maxRecDepth 100000 in
theorem lifted (os : Os) (started : os.Started) (H : Type) (enc : TypeId × Value → H) :
    ReturnsInHanded {} Try.checked os 7 .any (Rows.bitioPutsSpec.pre6 enc Try.prog Try.f7 Rows.bitioPutsRow.domain false) (Rows.bitioPutsSpec.post enc Try.prog Try.f7 false true false false) := by
  refine returnsInHanded_of_change (C := Try.checked) own started (by kernel_rfl) Try.func7
    (ChangeSpec.witness6 (enc := enc) (C := Try.checked) false ⟨#[], #[.slice none 0 0], []⟩ 8 (by kernel_rfl) (by kernel_rfl) (by kernel_rfl) (by kernel_rfl)) ?_
  intro W base args ds gs before hval0 hW hcnd _
  have hval : ∀ (j : Nat) t v, Try.f7.params[j]? = some t → args[j]? = some v → Value.okWide Try.prog W .any base t v := hval0
  have hW' := hW
  obtain ⟨p, q, hA0, hV, rfl, hfz, hnd⟩ := hW
  have hA : DataW.TrodAll enc Try.prog W 0 (fun _ => true) true Try.f7.params.toList args.toList ds p := hA0
  rw [Try.params7] at hA hval
  obtain ⟨v0, vs0, d0, ds0, p0, q0, hargs, rfl, rfl, h0, r0⟩ := trodAll_cons hA
  obtain ⟨rfl, rfl, rfl⟩ := trodAll_nil r0
  obtain rfl : args = #[v0] := by cases args; simp_all
  obtain ⟨rfl, rfl⟩ := trodVars_none hV
  obtain ⟨a0, len0, cap0, rfl⟩ := okWide_slice Try.underlying38 (hval 0 38 v0 rfl rfl)
  have k0 := h0
  have lt0 : ∀ x ∈ p0, x.block < W.heap.size := by obtain ⟨m, hm⟩ := k0; exact DataW.trod_lt m _ _ _ hm
  obtain ⟨zs, r1, b1, l1, m1⟩ : ∃ zs : List (Int × Int), RdN W W.heap.size a0 len0 zs ∧ (∀ p ∈ zs, (-9223372036854775808 ≤ p.1 ∧ p.1 ≤ 9223372036854775807) ∧ (-9223372036854775808 ≤ p.2 ∧ p.2 ≤ 9223372036854775807)) ∧ len0 ≤ cap0 ∧ cap0 ≤ 9223372036854775807 := by
    obtain ⟨fuel, hf⟩ := h0
    exact came hf
  clear hA0 hval0
  refine (walk7 a0 len0 cap0 zs W r1 b1 l1 m1).mono fun e W' ⟨he, bel⟩ => ?_
  subst he
  exact ⟨_, rfl, _, _, _, [], _, [], hW', trodAll_mk1 (shut_bool Try.underlying4 _), (trodAll_cons_mk (Below.trod laidOut (by kernel_rfl) (of_decide_eq_true (by kernel_rfl)) k0 bel lt0) trodAll_mk0), rfl, bel.frame _, fun h => by cases h⟩

theorem over : Rows.bitioPutsRow.holds Try.pinned (OpenSpec.ofChange Rows.bitioPutsSpec) :=
  OpenClaim.holds_of_wide 7 Try.f7 rfl rfl rfl rfl rfl rfl rfl ⟨rfl, rfl, rfl, rfl, rfl⟩ rfl rfl rfl rfl rfl (by kernel_rfl) Try.func7 (by kernel_rfl)
    (of_decide_eq_true (by kernel_rfl)) (by unfold Func.isWrapper; first | (rw [if_pos (by decide +kernel)]; kernel_rfl) | (rw [if_neg (by decide +kernel)]; exact ⟨rfl, rfl⟩))
    (fun os started H enc _ => lifted os started H enc)

/-- ████ THE STATEMENT ████ -/
theorem proved : Rows.BitioPutsSaid := over
end Go.Proofs.Ytcddbcknjcedfaa.bitioPuts

namespace Go.Proofs.Ytcddbcknjcedfaa
/-- THE STATEMENT. -/
theorem bitioPuts_holds : Rows.BitioPutsSaid := bitioPuts.proved
#print axioms bitioPuts_holds
end Go.Proofs.Ytcddbcknjcedfaa
