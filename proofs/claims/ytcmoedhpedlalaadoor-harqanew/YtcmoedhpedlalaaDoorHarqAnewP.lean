/-
  HarqAnew holds of all messages, counts and versions: versions of a message of another length begin it anew, and so does the seventeenth.
-/
import Derived.Test.YtcmoedhpedlalaaDoorRows
import Derived.WalkKit
import Derived.Test.YtcmoedhpedlalaaDoorMz
import Derived.Test.YtcmoedhpedlalaaDoorMem
import Derived.Test.YtcmoedhpedlalaaDoorBk
import Derived.Test.YtcmoedhpedlalaaDoorRr
import Derived.Test.YtcmoedhpedlalaaDoorKz
import Derived.Test.YtcmoedhpedlalaaDoorTz
import Derived.Test.YtcmoedhpedlalaaDoorTa
import Derived.Test.YtcmoedhpedlalaaDoorMc
import Derived.Test.YtcmoedhpedlalaaDoorMg
import Derived.Test.YtcmoedhpedlalaaDoorMh
import Derived.Test.YtcmoedhpedlalaaDoorVa
import Derived.Test.YtcmoedhpedlalaaDoorSz
import Derived.Test.YtcmoedhpedlalaaDoorVb
import Derived.Test.YtcmoedhpedlalaaDoorVc
import Derived.Test.YtcmoedhpedlalaaDoorVd
import Derived.Test.YtcmoedhpedlalaaDoorVe
import Derived.Test.YtcmoedhpedlalaaDoorVf
import Derived.Test.YtcmoedhpedlalaaDoorVg
import Derived.Test.YtcmoedhpedlalaaDoorVh
import Derived.Test.YtcmoedhpedlalaaDoorVi
import Derived.Test.YtcmoedhpedlalaaDoorPa
import Derived.Test.YtcmoedhpedlalaaDoorPb
import Derived.Test.YtcmoedhpedlalaaDoorPi
import Derived.Test.YtcmoedhpedlalaaDoorNa
import Derived.Test.YtcmoedhpedlalaaDoorUa
import Derived.Test.YtcmoedhpedlalaaDoorUb
import Derived.Test.YtcmoedhpedlalaaDoorNb
import Derived.Test.YtcmoedhpedlalaaDoorKg
import Derived.Test.YtcmoedhpedlalaaDoorNf
import Derived.Test.YtcmoedhpedlalaaDoorNg
import Derived.Test.YtcmoedhpedlalaaDoorRs
import Derived.Test.YtcmoedhpedlalaaDoorYa
import Derived.Test.YtcmoedhpedlalaaDoorXa
import Derived.Test.YtcmoedhpedlalaaDoorHa
import Derived.Test.YtcmoedhpedlalaaDoorHb
import Derived.Test.YtcmoedhpedlalaaDoorHc
import Derived.Test.YtcmoedhpedlalaaDoorYb
import Derived.Test.YtcmoedhpedlalaaDoorYc
import Derived.Test.YtcmoedhpedlalaaDoorRt
import Derived.Test.YtcmoedhpedlalaaDoorRc
import Derived.Test.YtcmoedhpedlalaaDoorUc
import Derived.Test.YtcmoedhpedlalaaDoorUd
import Derived.Test.YtcmoedhpedlalaaDoorHd
import Derived.Test.YtcmoedhpedlalaaDoorArg
import Derived.Test.YtcmoedhpedlalaaDoorUe
import Derived.Test.YtcmoedhpedlalaaDoorHe
import Derived.Test.YtcmoedhpedlalaaDoorHf
import Derived.Test.YtcmoedhpedlalaaDoorHh
import Derived.Test.YtcmoedhpedlalaaDoorLd
import Derived.ProofKit
import Derived.OpenShut
import Derived.ShutString
import Derived.ChangeOld
import Derived.Below
import Derived.Test.YtcmoedhpedlalaaDoorCards
import Derived.Test.YtcmoedhpedlalaaDoorTie
import Derived.LaidMore
import Derived.Stop.Joined
import Derived.SevenTiedAt
namespace Go.Proofs.YtcmoedhpedlalaaDoor.harqAnew
open Go.ChangeShapes Go.WideShapes Go.ChangeAt Go.RowKit
set_option linter.unusedVariables false

theorem own : ownKnob Tryd.prog.godebug = none := by kernel_rfl
theorem laidOut : laidOutB Tryd.prog = true := by kernel_rfl

/-- The walk. -/
theorem walk (a0 : Option Addr) (len0 cap0 : Nat) (z0 : List Int) (a1 : Int) (a2 : Int) (w : World) (w0 : Came .u8 w a0 len0 cap0 z0) (w1 : (Lit.int .i64 a1).wf = true) (w2 : (Lit.int .i64 a2).wf = true) (hT : Taps w) :
    Calls Tryd.prog 7 #[.slice a0 len0 cap0, .int .i64 a1, .int .i64 a2] w fun e w' => e = .returned (.bool true) ∧ Below w.heap.size w w' := by
  obtain ⟨bs, hr, hb, hnc, hc, hno⟩ := came8 w0
  exact walkAnew7 a0 len0 cap0 bs a1 a2 w hr hb hnc hc hno hT

set_option maxRecDepth 100000 in
theorem lifted (os : Os) (started : os.Started) (H : Type) (enc : TypeId × Value → H) :
    ReturnsInHanded {} Tryd.checked os 7 .any (fun w args => (Rows.harqAnewSpec.pre enc Tryd.prog Tryd.f7 [] false w args ∧ laidMetH Tryd.prog Rows.harqAnewRow.laid w) ∧ sizedMet enc Tryd.prog Tryd.f7 (OpenSpec.ofChange Rows.harqAnewSpec) false w args)
      (Rows.harqAnewSpec.post enc Tryd.prog Tryd.f7 false true false false) := by
  refine returnsInHanded_of_change_and (C := Tryd.checked) (X := fun w _ => laidMetH Tryd.prog Rows.harqAnewRow.laid w) (fun _ _ _ hh h => h.of_heap hh) own started (by kernel_rfl) Tryd.func7
    (ChangeSpec.witness_shaped (enc := enc) (C := Tryd.checked) (os := os) (X := fun w _ => laidMetH Tryd.prog Rows.harqAnewRow.laid w) false (World.doorLaid Tryd.prog 400 os) #[.slice none 0 0, .int .i64 0, .int .i64 0] 8 rfl (World.shaped_of_RefB (by kernel_rfl) (by kernel_rfl)) (by kernel_rfl) (by kernel_rfl) (by kernel_rfl) (door_met os _)) ?_
  intro W base args ds gs before hval0 hW _ _ hL _
  have hval : ∀ (j : Nat) t v, Tryd.f7.params[j]? = some t → args[j]? = some v → Value.okWide Tryd.prog W .any base t v := hval0
  have hW' := hW
  obtain ⟨p, q, hA0, hV, rfl, hfz, hnd⟩ := hW
  have hA : DataW.TrodAll enc Tryd.prog W 0 (fun _ => true) true Tryd.f7.params.toList args.toList ds p := hA0
  rw [Tryd.params7] at hA hval
  obtain ⟨v0, vs0, d0, ds0, p0, q0, hargs, rfl, rfl, h0, r0⟩ := trodAll_cons hA
  obtain ⟨v1, vs1, d1, ds1, p1, q1, rfl, rfl, rfl, h1, r1⟩ := trodAll_cons r0
  obtain ⟨v2, vs2, d2, ds2, p2, q2, rfl, rfl, rfl, h2, r2⟩ := trodAll_cons r1
  obtain ⟨rfl, rfl, rfl⟩ := trodAll_nil r2
  obtain rfl : args = #[v0, v1, v2] := by cases args; simp_all
  obtain ⟨rfl, rfl⟩ := trodVars_none hV
  obtain ⟨a0, len0, cap0, rfl⟩ := okWide_slice Tryd.underlying22 (hval 0 22 v0 rfl rfl)
  have k0 := h0
  have lt0 : ∀ x ∈ p0, x.block < W.heap.size := by obtain ⟨m, hm⟩ := k0; exact DataW.trod_lt m _ _ _ hm
  obtain ⟨z0, w0⟩ : ∃ zs, Came .u8 W a0 len0 cap0 zs := by
    obtain ⟨fuel, hf⟩ := h0
    rcases open_ints Tryd.underlying22 Tryd.underlying5 (by kernel_rfl) hf with ⟨hcs, _⟩ | ⟨x, l, c, zs, hcs, _, hl, hm, hz, _, hcell, hwz⟩
    · simp [Value.cells] at hcs
      obtain ⟨rfl, rfl, rfl⟩ := hcs
      exact ⟨[], .inl ⟨rfl, rfl, rfl, rfl⟩⟩
    · simp [Value.cells] at hcs
      obtain ⟨rfl, rfl, rfl⟩ := hcs
      exact ⟨zs, .inr ⟨_, rfl, hl, hm, by simpa using hz, hcell, hwz⟩⟩
  obtain ⟨a1, rfl, rfl, rfl, w1⟩ := open_int Tryd.underlying3 (hval 1 3 v1 rfl rfl) h1
  obtain ⟨a2, rfl, rfl, rfl, w2⟩ := open_int Tryd.underlying3 (hval 2 3 v2 rfl rfl) h2
  clear hA0 hval0
  refine (walk a0 len0 cap0 z0 a1 a2 W w0 w1 w2 (of_laid hL)).mono fun e W' ⟨he, bel⟩ => ?_
  subst he
  exact ⟨_, rfl, _, _, _, [], _, [], hW', trodAll_mk1 (shut_bool Tryd.underlying4 _), (trodAll_cons_mk (Below.trod laidOut (by kernel_rfl) (of_decide_eq_true (by kernel_rfl)) k0 bel lt0) (trodAll_cons_mk (shut_int Tryd.underlying3 w1) (trodAll_cons_mk (shut_int Tryd.underlying3 w2) trodAll_mk0))), rfl, bel.frame _, fun h => by cases h⟩

theorem over : Rows.harqAnewRow.holds Tryd.pinned (OpenSpec.ofChange Rows.harqAnewSpec) :=
  OpenClaim.holds_of_wide 7 Tryd.f7 rfl rfl rfl rfl rfl rfl rfl ⟨rfl, rfl, rfl, rfl, rfl⟩ rfl rfl rfl rfl rfl (by kernel_rfl) Tryd.func7 (by kernel_rfl)
    (of_decide_eq_true (by kernel_rfl)) (by unfold Func.isWrapper; first | (rw [if_pos (by decide +kernel)]; kernel_rfl) | (rw [if_neg (by decide +kernel)]; exact ⟨rfl, rfl⟩))
    (fun os started H enc _ => lifted os started H enc)
end Go.Proofs.YtcmoedhpedlalaaDoor.harqAnew

namespace Go.Proofs.YtcmoedhpedlalaaDoor
/-- THE STATEMENT: the card. -/
theorem harqAnew_holds : Rows.HarqAnewCardSaid :=
  Claim7.holds_tied_plain_at .later [] [.data] true (true, "fed8296f3b15526545fb228baaa4b2b285125c07f58ff0499be33723997c8676") false
    harqAnew.over (fun _ h => by cases h) (by kernel_rfl) (fun _ h => by cases h) harqAnew_row_tie rfl ⟨rfl, rfl⟩ (by kernel_rfl) rfl
    (fun f fn hf hfn => by
      obtain rfl : f = 7 := Option.some.inj ((show Tryd.prog.funcNamed "shuttle/shuttlelaw17.HarqAnew" = some 7 by kernel_rfl).symm.trans hf) |>.symm
      obtain rfl : fn = Tryd.f7 := (Option.some.inj (Tryd.func7.symm.trans hfn)).symm
      exact ⟨by kernel_rfl, fun j t ht => by
        rw [Tryd.params7] at ht
        have hm : t ∈ [22, 3, 3] := by simpa using Array.mem_of_getElem? ht
        have hall : ([22, 3, 3].all fun u => !Tryd.prog.wantsStandIn u) = true := by kernel_rfl
        exact (show Tryd.prog.wantsStandIn t = false by simpa using List.all_eq_true.1 hall t hm)⟩)
    (by kernel_rfl)
#print axioms harqAnew_holds
end Go.Proofs.YtcmoedhpedlalaaDoor
