/-
  FrameReads: of all bytes the frame is told, or why there is none; what is read has just its bytes (no condition beyond the package variables as the start-up code laid them).
-/
import Derived.Test.YtkmacepodomdmaaDoorRows
import Derived.WalkKit
import Derived.Test.YtkmacepodomdmaaDoorBm
import Derived.Test.YtkmacepodomdmaaDoorMem
import Derived.Test.YtkmacepodomdmaaDoorZa
import Derived.Test.YtkmacepodomdmaaDoorPoly
import Derived.Test.YtkmacepodomdmaaDoorBn
import Derived.Test.YtkmacepodomdmaaDoorCm
import Derived.Test.YtkmacepodomdmaaDoorCn
import Derived.Test.YtkmacepodomdmaaDoorXb
import Derived.Test.YtkmacepodomdmaaDoorRr
import Derived.Test.YtkmacepodomdmaaDoorRs
import Derived.Test.YtkmacepodomdmaaDoorXa
import Derived.Test.YtkmacepodomdmaaDoorXc
import Derived.Test.YtkmacepodomdmaaDoorBk
import Derived.Test.YtkmacepodomdmaaDoorZc
import Derived.Test.YtkmacepodomdmaaDoorNu
import Derived.Test.YtkmacepodomdmaaDoorMc
import Derived.Test.YtkmacepodomdmaaDoorMg
import Derived.Test.YtkmacepodomdmaaDoorMh
import Derived.Test.YtkmacepodomdmaaDoorZd
import Derived.Test.YtkmacepodomdmaaDoorFa
import Derived.Test.YtkmacepodomdmaaDoorFb
import Derived.Test.YtkmacepodomdmaaDoorFe
import Derived.Test.YtkmacepodomdmaaDoorFf
import Derived.Test.YtkmacepodomdmaaDoorFg
import Derived.Test.YtkmacepodomdmaaDoorFn
import Derived.Test.YtkmacepodomdmaaDoorFc
import Derived.Test.YtkmacepodomdmaaDoorFd
import Derived.Test.YtkmacepodomdmaaDoorFh
import Derived.Test.YtkmacepodomdmaaDoorFi
import Derived.Test.YtkmacepodomdmaaDoorFm
import Derived.Test.YtkmacepodomdmaaDoorFq
import Derived.Test.YtkmacepodomdmaaDoorFj
import Derived.Test.YtkmacepodomdmaaDoorFu
import Derived.Test.YtkmacepodomdmaaDoorFt
import Derived.Test.YtkmacepodomdmaaDoorGh
import Derived.Test.YtkmacepodomdmaaDoorGa
import Derived.Test.YtkmacepodomdmaaDoorRc
import Derived.Test.YtkmacepodomdmaaDoorGb
import Derived.Test.YtkmacepodomdmaaDoorGc
import Derived.Test.YtkmacepodomdmaaDoorGd
import Derived.Test.YtkmacepodomdmaaDoorGe
import Derived.Test.YtkmacepodomdmaaDoorGf
import Derived.Test.YtkmacepodomdmaaDoorGi
import Derived.Test.YtkmacepodomdmaaDoorGk
import Derived.Test.YtkmacepodomdmaaDoorGj
import Derived.Test.YtkmacepodomdmaaDoorFl
import Derived.Test.YtkmacepodomdmaaDoorArg
import Derived.ProofKit
import Derived.OpenShut
import Derived.ShutString
import Derived.ChangeOld
import Derived.Below
import Derived.Test.YtkmacepodomdmaaDoorCards
import Derived.Test.YtkmacepodomdmaaDoorTie
import Derived.LaidMore
import Derived.Stop.Joined
import Derived.SevenTiedAt
namespace Go.Proofs.YtkmacepodomdmaaDoor.frameReads
open Go.ChangeShapes Go.WideShapes Go.ChangeAt Go.RowKit
set_option linter.unusedVariables false

theorem own : ownKnob Tryd.prog.godebug = none := by kernel_rfl
theorem laidOut : laidOutB Tryd.prog = true := by kernel_rfl

/-- The walk. -/
theorem walk (a0 : Option Addr) (len0 cap0 : Nat) (z0 : List Int) (w : World) (w0 : Came .u8 w a0 len0 cap0 z0) (hE : ∃ a, ErrsAt w a) :
    Calls Tryd.prog 4 #[.slice a0 len0 cap0] w fun e w' => e = .returned (.bool true) ∧ Below w.heap.size w w' := by
  obtain ⟨a, hE⟩ := hE
  obtain ⟨bs, r, r256, hl, hc, hn⟩ := came8 w0
  exact frameReads a0 len0 cap0 bs a w r r256 hl hc hn hE

set_option maxRecDepth 100000 in
theorem lifted (os : Os) (started : os.Started) (H : Type) (enc : TypeId × Value → H) :
    ReturnsInHanded {} Tryd.checked os 4 .any (fun w args => (Rows.frameReadsSpec.pre enc Tryd.prog Tryd.f4 [] false w args ∧ laidMetH Tryd.prog Rows.frameReadsRow.laid w) ∧ sizedMet enc Tryd.prog Tryd.f4 (OpenSpec.ofChange Rows.frameReadsSpec) false w args)
      (Rows.frameReadsSpec.post enc Tryd.prog Tryd.f4 false true false false) := by
  refine returnsInHanded_of_change_and (C := Tryd.checked) (X := fun w _ => laidMetH Tryd.prog Rows.frameReadsRow.laid w) (fun _ _ _ hh h => h.of_heap hh) own started (by kernel_rfl) Tryd.func4
    (ChangeSpec.witness_shaped (enc := enc) (C := Tryd.checked) (os := os) (X := fun w _ => laidMetH Tryd.prog Rows.frameReadsRow.laid w) false (World.doorLaid Tryd.prog 400 os) #[.slice none 0 0] 8 rfl (World.shaped_of_RefB (by kernel_rfl) (by kernel_rfl)) (by kernel_rfl) (by kernel_rfl) (by kernel_rfl) (door_met os _)) ?_
  intro W base args ds gs before hval0 hW _ _ hL _
  have hval : ∀ (j : Nat) t v, Tryd.f4.params[j]? = some t → args[j]? = some v → Value.okWide Tryd.prog W .any base t v := hval0
  have hW' := hW
  obtain ⟨p, q, hA0, hV, rfl, hfz, hnd⟩ := hW
  have hA : DataW.TrodAll enc Tryd.prog W 0 (fun _ => true) true Tryd.f4.params.toList args.toList ds p := hA0
  rw [Tryd.params4] at hA hval
  obtain ⟨v0, vs0, d0, ds0, p0, q0, hargs, rfl, rfl, h0, r0⟩ := trodAll_cons hA
  obtain ⟨rfl, rfl, rfl⟩ := trodAll_nil r0
  obtain rfl : args = #[v0] := by cases args; simp_all
  obtain ⟨rfl, rfl⟩ := trodVars_none hV
  obtain ⟨a0, len0, cap0, rfl⟩ := okWide_slice Tryd.underlying22 (hval 0 22 v0 rfl rfl)
  have k0 := h0
  have lt0 : ∀ x ∈ p0, x.block < W.heap.size := by obtain ⟨m, hm⟩ := k0; exact DataW.trod_lt m _ _ _ hm
  obtain ⟨z0, w0⟩ : ∃ zs, Came .u8 W a0 len0 cap0 zs := by
    obtain ⟨fuel, hf⟩ := h0
    rcases open_ints Tryd.underlying22 Tryd.underlying5 (by kernel_rfl) hf with ⟨hcs, _⟩ | ⟨x, l, c, zs, hcs, _, hl, hm, hz, _, hcell, hwz⟩
    · simp [Value.cells] at hcs
      obtain ⟨rfl, rfl, rfl⟩ := hcs
      exact ⟨[], .inl ⟨rfl, rfl, rfl, rfl⟩⟩
    · simp [Value.cells] at hcs
      obtain ⟨rfl, rfl, rfl⟩ := hcs
      exact ⟨zs, .inr ⟨_, rfl, hl, hm, by simpa using hz, hcell, hwz⟩⟩
  clear hA0 hval0
  refine (walk a0 len0 cap0 z0 W w0 (of_laid hL)).mono fun e W' ⟨he, bel⟩ => ?_
  subst he
  exact ⟨_, rfl, _, _, _, [], _, [], hW', trodAll_mk1 (shut_bool Tryd.underlying4 _), (trodAll_cons_mk (Below.trod laidOut (by kernel_rfl) (of_decide_eq_true (by kernel_rfl)) k0 bel lt0) trodAll_mk0), rfl, bel.frame _, fun h => by cases h⟩

theorem over : Rows.frameReadsRow.holds Tryd.pinned (OpenSpec.ofChange Rows.frameReadsSpec) :=
  OpenClaim.holds_of_wide 4 Tryd.f4 rfl rfl rfl rfl rfl rfl rfl ⟨rfl, rfl, rfl, rfl, rfl⟩ rfl rfl rfl rfl rfl (by kernel_rfl) Tryd.func4 (by kernel_rfl)
    (of_decide_eq_true (by kernel_rfl)) (by unfold Func.isWrapper; first | (rw [if_pos (by decide +kernel)]; kernel_rfl) | (rw [if_neg (by decide +kernel)]; exact ⟨rfl, rfl⟩))
    (fun os started H enc _ => lifted os started H enc)
end Go.Proofs.YtkmacepodomdmaaDoor.frameReads

namespace Go.Proofs.YtkmacepodomdmaaDoor
/-- THE STATEMENT: the card. -/
theorem frameReads_holds : Rows.FrameReadsCardSaid :=
  Claim7.holds_tied_plain_at .later [] [.handle, .sentinel, .sentinel, .sentinel, .sentinel, .sentinel] true (true, "d6a012151fec5f3ad2492196efb9ae391feb8c7809995e5977f23c263d82e400") true
    frameReads.over (fun _ h => by cases h) (by kernel_rfl) (fun _ h => by cases h) frameReads_row_tie rfl ⟨rfl, rfl⟩ (by kernel_rfl) rfl
    (fun f fn hf hfn => by
      obtain rfl : f = 4 := Option.some.inj ((show Tryd.prog.funcNamed "shuttle/shuttlelaw16.FrameReads" = some 4 by kernel_rfl).symm.trans hf) |>.symm
      obtain rfl : fn = Tryd.f4 := (Option.some.inj (Tryd.func4.symm.trans hfn)).symm
      exact ⟨by kernel_rfl, fun j t ht => by
        rw [Tryd.params4] at ht
        have hm : t ∈ [22] := by simpa using Array.mem_of_getElem? ht
        have hall : ([22].all fun u => !Tryd.prog.wantsStandIn u) = true := by kernel_rfl
        exact (show Tryd.prog.wantsStandIn t = false by simpa using List.all_eq_true.1 hall t hm)⟩)
    (by kernel_rfl)
#print axioms frameReads_holds
end Go.Proofs.YtkmacepodomdmaaDoor
