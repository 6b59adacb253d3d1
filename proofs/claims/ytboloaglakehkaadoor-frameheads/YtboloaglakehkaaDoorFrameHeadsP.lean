/-
  For every frame, place and bits to turn, FrameHeads answers true: a head of which up to sixteen bits side by side are turned is not right. The package-level errors hold what the program lays into them.
-/
import Derived.Test.YtboloaglakehkaaDoorRows
import Derived.WalkKit
import Derived.Test.YtboloaglakehkaaDoorBm
import Derived.Test.YtboloaglakehkaaDoorMem
import Derived.Test.YtboloaglakehkaaDoorZa
import Derived.Test.YtboloaglakehkaaDoorPoly
import Derived.Test.YtboloaglakehkaaDoorBn
import Derived.Test.YtboloaglakehkaaDoorCm
import Derived.Test.YtboloaglakehkaaDoorCn
import Derived.Test.YtboloaglakehkaaDoorXb
import Derived.Test.YtboloaglakehkaaDoorRr
import Derived.Test.YtboloaglakehkaaDoorRs
import Derived.Test.YtboloaglakehkaaDoorXa
import Derived.Test.YtboloaglakehkaaDoorXc
import Derived.Test.YtboloaglakehkaaDoorBk
import Derived.Test.YtboloaglakehkaaDoorZc
import Derived.Test.YtboloaglakehkaaDoorMc
import Derived.Test.YtboloaglakehkaaDoorMg
import Derived.Test.YtboloaglakehkaaDoorMh
import Derived.Test.YtboloaglakehkaaDoorZd
import Derived.Test.YtboloaglakehkaaDoorFa
import Derived.Test.YtboloaglakehkaaDoorFb
import Derived.Test.YtboloaglakehkaaDoorFe
import Derived.Test.YtboloaglakehkaaDoorFf
import Derived.Test.YtboloaglakehkaaDoorFg
import Derived.Test.YtboloaglakehkaaDoorFn
import Derived.Test.YtboloaglakehkaaDoorFc
import Derived.Test.YtboloaglakehkaaDoorFd
import Derived.Test.YtboloaglakehkaaDoorFh
import Derived.Test.YtboloaglakehkaaDoorFi
import Derived.Test.YtboloaglakehkaaDoorFm
import Derived.Test.YtboloaglakehkaaDoorFq
import Derived.Test.YtboloaglakehkaaDoorFj
import Derived.Test.YtboloaglakehkaaDoorFu
import Derived.Test.YtboloaglakehkaaDoorFw
import Derived.Test.YtboloaglakehkaaDoorFt
import Derived.Test.YtboloaglakehkaaDoorFx
import Derived.Test.YtboloaglakehkaaDoorFl
import Derived.Test.YtboloaglakehkaaDoorArg
import Derived.Test.YtboloaglakehkaaDoorSq
import Derived.ProofKit
import Derived.OpenShut
import Derived.ShutString
import Derived.ChangeOld
import Derived.Below
import Derived.Test.YtboloaglakehkaaDoorCards
import Derived.Test.YtboloaglakehkaaDoorTie
import Derived.LaidMore
import Derived.Stop.Joined
import Derived.SevenTiedAt
namespace Go.Proofs.YtboloaglakehkaaDoor.frameHeads
open Go.ChangeShapes Go.WideShapes Go.ChangeAt Go.RowKit
set_option linter.unusedVariables false

theorem own : ownKnob Tryd.prog.godebug = none := by kernel_rfl
theorem laidOut : laidOutB Tryd.prog = true := by kernel_rfl

/-- The walk. -/
theorem walk (a0 b0 c0 d0 : Int) (s0 : Option Addr) (len0 cap0 : Nat) (z0 : List Int) (e0 f0 : Int) (a1 : Int) (a2 : Int) (w : World) (w0 : Came .u8 w s0 len0 cap0 z0 ∧ (Lit.int .i64 c0).wf = true ∧ (Lit.int .u32 f0).wf = true) (w1 : (Lit.int .i64 a1).wf = true) (w2 : (Lit.int .u16 a2).wf = true) (hE : ∃ a, ErrsAt w a) :
    Calls Tryd.prog 5 #[.agg #[.int .i64 a0, .int .i64 b0, .int .i64 c0, .int .i64 d0, .slice s0 len0 cap0, .int .i64 e0, .int .u32 f0], .int .i64 a1, .int .u16 a2] w fun e w' => e = .returned (.bool true) ∧ Below w.heap.size w w' := by
  obtain ⟨hc0, hv, hm⟩ := w0
  obtain ⟨bs, r0, hb, hl, hc, hnn⟩ := came8 hc0
  have h2 := bounds_i64 hv
  have h3 := bounds_u32 hm
  have h4 := bounds_u16 w2
  obtain ⟨m, rfl⟩ : ∃ m : Nat, f0 = (m : Int) := ⟨f0.toNat, by omega⟩
  obtain ⟨t, rfl⟩ : ∃ m : Nat, a2 = (m : Int) := ⟨a2.toNat, by omega⟩
  obtain ⟨a, hA⟩ := hE
  exact frameHeads a0 b0 c0 d0 s0 len0 cap0 e0 m bs a1 t a w r0 hb hl hc hnn h2 (by omega) (by omega) hA

set_option maxRecDepth 100000 in
theorem lifted (os : Os) (started : os.Started) (H : Type) (enc : TypeId × Value → H) :
    ReturnsInHanded {} Tryd.checked os 5 .any (fun w args => (Rows.frameHeadsSpec.pre enc Tryd.prog Tryd.f5 [] false w args ∧ laidMetH Tryd.prog Rows.frameHeadsRow.laid w) ∧ sizedMet enc Tryd.prog Tryd.f5 (OpenSpec.ofChange Rows.frameHeadsSpec) false w args)
      (Rows.frameHeadsSpec.post enc Tryd.prog Tryd.f5 false true false false) := by
  refine returnsInHanded_of_change_and (C := Tryd.checked) (X := fun w _ => laidMetH Tryd.prog Rows.frameHeadsRow.laid w) (fun _ _ _ hh h => h.of_heap hh) own started (by kernel_rfl) Tryd.func5
    (ChangeSpec.witness_shaped (enc := enc) (C := Tryd.checked) (os := os) (X := fun w _ => laidMetH Tryd.prog Rows.frameHeadsRow.laid w) false (World.doorLaid Tryd.prog 400 os) #[.agg #[.int .i64 0, .int .i64 0, .int .i64 0, .int .i64 0, .slice none 0 0, .int .i64 0, .int .u32 0], .int .i64 0, .int .u16 0] 8 rfl (World.shaped_of_RefB (by kernel_rfl) (by kernel_rfl)) (by kernel_rfl) (by kernel_rfl) (by kernel_rfl) (door_met os _)) ?_
  intro W base args ds gs before hval0 hW _ _ hL _
  have hval : ∀ (j : Nat) t v, Tryd.f5.params[j]? = some t → args[j]? = some v → Value.okWide Tryd.prog W .any base t v := hval0
  have hW' := hW
  obtain ⟨p, q, hA0, hV, rfl, hfz, hnd⟩ := hW
  have hA : DataW.TrodAll enc Tryd.prog W 0 (fun _ => true) true Tryd.f5.params.toList args.toList ds p := hA0
  rw [Tryd.params5] at hA hval
  obtain ⟨v0, vs0, d0, ds0, p0, q0, hargs, rfl, rfl, h0, r0⟩ := trodAll_cons hA
  obtain ⟨v1, vs1, d1, ds1, p1, q1, rfl, rfl, rfl, h1, r1⟩ := trodAll_cons r0
  obtain ⟨v2, vs2, d2, ds2, p2, q2, rfl, rfl, rfl, h2, r2⟩ := trodAll_cons r1
  obtain ⟨rfl, rfl, rfl⟩ := trodAll_nil r2
  obtain rfl : args = #[v0, v1, v2] := by cases args; simp_all
  obtain ⟨rfl, rfl⟩ := trodVars_none hV
  obtain ⟨y0, rfl, x0⟩ := okWide_st Tryd.underlying25 (hval 0 25 v0 rfl rfl)
  have k0 := h0
  have lt0 : ∀ x ∈ p0, x.block < W.heap.size := by obtain ⟨m, hm⟩ := k0; exact DataW.trod_lt m _ _ _ hm
  obtain ⟨a0, b0, c0, d0, s0, len0, cap0, z0, e0, f0, u0, w0⟩ : ∃ (k q v l : Int) (a : Option Addr) (len cap : Nat) (zs : List Int) (b m : Int), y0 = #[.int .i64 k, .int .i64 q, .int .i64 v, .int .i64 l, .slice a len cap, .int .i64 b, .int .u32 m] ∧ (Came .u8 W a len cap zs ∧ (Lit.int .i64 v).wf = true ∧ (Lit.int .u32 m).wf = true) := by
    obtain ⟨fuel, hf⟩ := h0
    exact cameFrame x0 hf
  subst u0
  obtain ⟨a1, rfl, rfl, rfl, w1⟩ := open_int Tryd.underlying3 (hval 1 3 v1 rfl rfl) h1
  obtain ⟨a2, rfl, rfl, rfl, w2⟩ := open_int Tryd.underlying27 (hval 2 27 v2 rfl rfl) h2
  clear hA0 hval0
  refine (walk a0 b0 c0 d0 s0 len0 cap0 z0 e0 f0 a1 a2 W w0 w1 w2 (of_laid hL)).mono fun e W' ⟨he, bel⟩ => ?_
  subst he
  exact ⟨_, rfl, _, _, _, [], _, [], hW', trodAll_mk1 (shut_bool Tryd.underlying4 _), (trodAll_cons_mk (Below.trod laidOut (by kernel_rfl) (of_decide_eq_true (by kernel_rfl)) k0 bel lt0) (trodAll_cons_mk (shut_int Tryd.underlying3 w1) (trodAll_cons_mk (shut_int Tryd.underlying27 w2) trodAll_mk0))), rfl, bel.frame _, fun h => by cases h⟩

theorem over : Rows.frameHeadsRow.holds Tryd.pinned (OpenSpec.ofChange Rows.frameHeadsSpec) :=
  OpenClaim.holds_of_wide 5 Tryd.f5 rfl rfl rfl rfl rfl rfl rfl ⟨rfl, rfl, rfl, rfl, rfl⟩ rfl rfl rfl rfl rfl (by kernel_rfl) Tryd.func5 (by kernel_rfl)
    (of_decide_eq_true (by kernel_rfl)) (by unfold Func.isWrapper; first | (rw [if_pos (by decide +kernel)]; kernel_rfl) | (rw [if_neg (by decide +kernel)]; exact ⟨rfl, rfl⟩))
    (fun os started H enc _ => lifted os started H enc)
end Go.Proofs.YtboloaglakehkaaDoor.frameHeads

namespace Go.Proofs.YtboloaglakehkaaDoor
/-- THE STATEMENT: the card. -/
theorem frameHeads_holds : Rows.FrameHeadsCardSaid :=
  Claim7.holds_tied_plain_at .later [] [.handle, .sentinel, .sentinel, .sentinel, .sentinel, .sentinel] true (true, "f3f43532ce6035f4b677cdf91434cfde04625d4a820ccbe2ec673df834dc3089") true
    frameHeads.over (fun _ h => by cases h) (by kernel_rfl) (fun _ h => by cases h) frameHeads_row_tie rfl ⟨rfl, rfl⟩ (by kernel_rfl) rfl
    (fun f fn hf hfn => by
      obtain rfl : f = 5 := Option.some.inj ((show Tryd.prog.funcNamed "shuttle/shuttlelaw16.FrameHeads" = some 5 by kernel_rfl).symm.trans hf) |>.symm
      obtain rfl : fn = Tryd.f5 := (Option.some.inj (Tryd.func5.symm.trans hfn)).symm
      exact ⟨by kernel_rfl, fun j t ht => by
        rw [Tryd.params5] at ht
        have hm : t ∈ [25, 3, 27] := by simpa using Array.mem_of_getElem? ht
        have hall : ([25, 3, 27].all fun u => !Tryd.prog.wantsStandIn u) = true := by kernel_rfl
        exact (show Tryd.prog.wantsStandIn t = false by simpa using List.all_eq_true.1 hall t hm)⟩)
    (by kernel_rfl)
#print axioms frameHeads_holds
end Go.Proofs.YtboloaglakehkaaDoor
