/-
  HarqOffers holds of all messages and rows of versions, of the message, of another one, and raw ones: it is told what is read, and when; of none nothing is.
-/
import Derived.Test.YtcmoedhpedlalaaDoorRows
import Derived.WalkKit
import Derived.Test.YtcmoedhpedlalaaDoorMz
import Derived.Test.YtcmoedhpedlalaaDoorMem
import Derived.Test.YtcmoedhpedlalaaDoorBk
import Derived.Test.YtcmoedhpedlalaaDoorRr
import Derived.Test.YtcmoedhpedlalaaDoorKz
import Derived.Test.YtcmoedhpedlalaaDoorTz
import Derived.Test.YtcmoedhpedlalaaDoorTa
import Derived.Test.YtcmoedhpedlalaaDoorMc
import Derived.Test.YtcmoedhpedlalaaDoorMg
import Derived.Test.YtcmoedhpedlalaaDoorMh
import Derived.Test.YtcmoedhpedlalaaDoorVa
import Derived.Test.YtcmoedhpedlalaaDoorSz
import Derived.Test.YtcmoedhpedlalaaDoorVb
import Derived.Test.YtcmoedhpedlalaaDoorVc
import Derived.Test.YtcmoedhpedlalaaDoorVd
import Derived.Test.YtcmoedhpedlalaaDoorVe
import Derived.Test.YtcmoedhpedlalaaDoorVf
import Derived.Test.YtcmoedhpedlalaaDoorVg
import Derived.Test.YtcmoedhpedlalaaDoorVh
import Derived.Test.YtcmoedhpedlalaaDoorVi
import Derived.Test.YtcmoedhpedlalaaDoorPa
import Derived.Test.YtcmoedhpedlalaaDoorPb
import Derived.Test.YtcmoedhpedlalaaDoorPi
import Derived.Test.YtcmoedhpedlalaaDoorNa
import Derived.Test.YtcmoedhpedlalaaDoorUa
import Derived.Test.YtcmoedhpedlalaaDoorUb
import Derived.Test.YtcmoedhpedlalaaDoorRt
import Derived.Test.YtcmoedhpedlalaaDoorRc
import Derived.Test.YtcmoedhpedlalaaDoorUc
import Derived.Test.YtcmoedhpedlalaaDoorUd
import Derived.Test.YtcmoedhpedlalaaDoorNb
import Derived.Test.YtcmoedhpedlalaaDoorKg
import Derived.Test.YtcmoedhpedlalaaDoorNf
import Derived.Test.YtcmoedhpedlalaaDoorNg
import Derived.Test.YtcmoedhpedlalaaDoorRs
import Derived.Test.YtcmoedhpedlalaaDoorYa
import Derived.Test.YtcmoedhpedlalaaDoorXa
import Derived.Test.YtcmoedhpedlalaaDoorHa
import Derived.Test.YtcmoedhpedlalaaDoorHb
import Derived.Test.YtcmoedhpedlalaaDoorHc
import Derived.Test.YtcmoedhpedlalaaDoorYb
import Derived.Test.YtcmoedhpedlalaaDoorYc
import Derived.Test.YtcmoedhpedlalaaDoorHd
import Derived.Test.YtcmoedhpedlalaaDoorHk
import Derived.Test.YtcmoedhpedlalaaDoorYe
import Derived.Test.YtcmoedhpedlalaaDoorMo
import Derived.Test.YtcmoedhpedlalaaDoorPe
import Derived.Test.YtcmoedhpedlalaaDoorTs
import Derived.Test.YtcmoedhpedlalaaDoorVs
import Derived.Test.YtcmoedhpedlalaaDoorVt
import Derived.Test.YtcmoedhpedlalaaDoorHl
import Derived.Test.YtcmoedhpedlalaaDoorHz
import Derived.Test.YtcmoedhpedlalaaDoorHn
import Derived.ProofKit
import Derived.OpenShut
import Derived.ShutString
import Derived.ChangeOld
import Derived.Below
import Derived.Test.YtcmoedhpedlalaaDoorCards
import Derived.Test.YtcmoedhpedlalaaDoorTie
import Derived.LaidMore
import Derived.Stop.Joined
import Derived.SevenTiedAt
namespace Go.Proofs.YtcmoedhpedlalaaDoor.harqOffers
open Go.ChangeShapes Go.WideShapes Go.ChangeAt Go.RowKit
set_option linter.unusedVariables false

theorem own : ownKnob Tryd.prog.godebug = none := by kernel_rfl
theorem laidOut : laidOutB Tryd.prog = true := by kernel_rfl

/-- The walk. -/
theorem walk (a0 : Option Addr) (len0 cap0 : Nat) (z0 : List Int) (a1 : Option Addr) (len1 cap1 : Nat) (z1 : List Int) (a2 : Option Addr) (len2 cap2 : Nat) (z2 : Nat → CH7) (w : World) (w0 : Came .u8 w a0 len0 cap0 z0) (w1 : Came .u8 w a1 len1 cap1 z1) (w2 : CH7Row w w.heap.size a2 len2 z2 ∧ len2 ≤ cap2 ∧ cap2 ≤ 9223372036854775807) (hT : Taps w) :
    Calls Tryd.prog 3 #[.slice a0 len0 cap0, .slice a1 len1 cap1, .slice a2 len2 cap2] w fun e w' => e = .returned (.bool true) ∧ Below w.heap.size w w' := by
  obtain ⟨bs, hr, hb, hnc, hc, hno⟩ := came8 w0
  obtain ⟨os, hr2, hb2, hnc2, hc2, hno2⟩ := came8 w1
  obtain ⟨hR, hl, hc1⟩ := w2
  exact walkOffers7 a0 a1 a2 len0 cap0 len1 cap1 len2 cap2 bs os z2 w hr hb hnc hc hno hr2 hb2 hnc2 hc2 hno2 hR (by omega) hT

set_option maxRecDepth 100000 in
theorem lifted (os : Os) (started : os.Started) (H : Type) (enc : TypeId × Value → H) :
    ReturnsInHanded {} Tryd.checked os 3 .any (fun w args => (Rows.harqOffersSpec.pre enc Tryd.prog Tryd.f3 [] false w args ∧ laidMetH Tryd.prog Rows.harqOffersRow.laid w) ∧ sizedMet enc Tryd.prog Tryd.f3 (OpenSpec.ofChange Rows.harqOffersSpec) false w args)
      (Rows.harqOffersSpec.post enc Tryd.prog Tryd.f3 false true false false) := by
  refine returnsInHanded_of_change_and (C := Tryd.checked) (X := fun w _ => laidMetH Tryd.prog Rows.harqOffersRow.laid w) (fun _ _ _ hh h => h.of_heap hh) own started (by kernel_rfl) Tryd.func3
    (ChangeSpec.witness_shaped (enc := enc) (C := Tryd.checked) (os := os) (X := fun w _ => laidMetH Tryd.prog Rows.harqOffersRow.laid w) false (World.doorLaid Tryd.prog 400 os) #[.slice none 0 0, .slice none 0 0, .slice none 0 0] 8 rfl (World.shaped_of_RefB (by kernel_rfl) (by kernel_rfl)) (by kernel_rfl) (by kernel_rfl) (by kernel_rfl) (door_met os _)) ?_
  intro W base args ds gs before hval0 hW _ _ hL _
  have hval : ∀ (j : Nat) t v, Tryd.f3.params[j]? = some t → args[j]? = some v → Value.okWide Tryd.prog W .any base t v := hval0
  have hW' := hW
  obtain ⟨p, q, hA0, hV, rfl, hfz, hnd⟩ := hW
  have hA : DataW.TrodAll enc Tryd.prog W 0 (fun _ => true) true Tryd.f3.params.toList args.toList ds p := hA0
  rw [Tryd.params3] at hA hval
  obtain ⟨v0, vs0, d0, ds0, p0, q0, hargs, rfl, rfl, h0, r0⟩ := trodAll_cons hA
  obtain ⟨v1, vs1, d1, ds1, p1, q1, rfl, rfl, rfl, h1, r1⟩ := trodAll_cons r0
  obtain ⟨v2, vs2, d2, ds2, p2, q2, rfl, rfl, rfl, h2, r2⟩ := trodAll_cons r1
  obtain ⟨rfl, rfl, rfl⟩ := trodAll_nil r2
  obtain rfl : args = #[v0, v1, v2] := by cases args; simp_all
  obtain ⟨rfl, rfl⟩ := trodVars_none hV
  obtain ⟨a0, len0, cap0, rfl⟩ := okWide_slice Tryd.underlying22 (hval 0 22 v0 rfl rfl)
  have k0 := h0
  have lt0 : ∀ x ∈ p0, x.block < W.heap.size := by obtain ⟨m, hm⟩ := k0; exact DataW.trod_lt m _ _ _ hm
  obtain ⟨z0, w0⟩ : ∃ zs, Came .u8 W a0 len0 cap0 zs := by
    obtain ⟨fuel, hf⟩ := h0
    rcases open_ints Tryd.underlying22 Tryd.underlying5 (by kernel_rfl) hf with ⟨hcs, _⟩ | ⟨x, l, c, zs, hcs, _, hl, hm, hz, _, hcell, hwz⟩
    · simp [Value.cells] at hcs
      obtain ⟨rfl, rfl, rfl⟩ := hcs
      exact ⟨[], .inl ⟨rfl, rfl, rfl, rfl⟩⟩
    · simp [Value.cells] at hcs
      obtain ⟨rfl, rfl, rfl⟩ := hcs
      exact ⟨zs, .inr ⟨_, rfl, hl, hm, by simpa using hz, hcell, hwz⟩⟩
  obtain ⟨a1, len1, cap1, rfl⟩ := okWide_slice Tryd.underlying22 (hval 1 22 v1 rfl rfl)
  have k1 := h1
  have lt1 : ∀ x ∈ p1, x.block < W.heap.size := by obtain ⟨m, hm⟩ := k1; exact DataW.trod_lt m _ _ _ hm
  obtain ⟨z1, w1⟩ : ∃ zs, Came .u8 W a1 len1 cap1 zs := by
    obtain ⟨fuel, hf⟩ := h1
    rcases open_ints Tryd.underlying22 Tryd.underlying5 (by kernel_rfl) hf with ⟨hcs, _⟩ | ⟨x, l, c, zs, hcs, _, hl, hm, hz, _, hcell, hwz⟩
    · simp [Value.cells] at hcs
      obtain ⟨rfl, rfl, rfl⟩ := hcs
      exact ⟨[], .inl ⟨rfl, rfl, rfl, rfl⟩⟩
    · simp [Value.cells] at hcs
      obtain ⟨rfl, rfl, rfl⟩ := hcs
      exact ⟨zs, .inr ⟨_, rfl, hl, hm, by simpa using hz, hcell, hwz⟩⟩
  obtain ⟨a2, len2, cap2, rfl⟩ := okWide_slice Tryd.underlying23 (hval 2 23 v2 rfl rfl)
  have k2 := h2
  have lt2 : ∀ x ∈ p2, x.block < W.heap.size := by obtain ⟨m, hm⟩ := k2; exact DataW.trod_lt m _ _ _ hm
  obtain ⟨z2, w2⟩ : ∃ es : Nat → CH7, CH7Row W W.heap.size a2 len2 es ∧ len2 ≤ cap2 ∧ cap2 ≤ 9223372036854775807 := by
    obtain ⟨fuel, hf⟩ := h2
    exact cameRows7 hf
  clear hA0 hval0
  refine (walk a0 len0 cap0 z0 a1 len1 cap1 z1 a2 len2 cap2 z2 W w0 w1 w2 (of_laid hL)).mono fun e W' ⟨he, bel⟩ => ?_
  subst he
  exact ⟨_, rfl, _, _, _, [], _, [], hW', trodAll_mk1 (shut_bool Tryd.underlying4 _), (trodAll_cons_mk (Below.trod laidOut (by kernel_rfl) (of_decide_eq_true (by kernel_rfl)) k0 bel lt0) (trodAll_cons_mk (Below.trod laidOut (by kernel_rfl) (of_decide_eq_true (by kernel_rfl)) k1 bel lt1) (trodAll_cons_mk (Below.trod laidOut (by kernel_rfl) (of_decide_eq_true (by kernel_rfl)) k2 bel lt2) trodAll_mk0))), rfl, bel.frame _, fun h => by cases h⟩

theorem over : Rows.harqOffersRow.holds Tryd.pinned (OpenSpec.ofChange Rows.harqOffersSpec) :=
  OpenClaim.holds_of_wide 3 Tryd.f3 rfl rfl rfl rfl rfl rfl rfl ⟨rfl, rfl, rfl, rfl, rfl⟩ rfl rfl rfl rfl rfl (by kernel_rfl) Tryd.func3 (by kernel_rfl)
    (of_decide_eq_true (by kernel_rfl)) (by unfold Func.isWrapper; first | (rw [if_pos (by decide +kernel)]; kernel_rfl) | (rw [if_neg (by decide +kernel)]; exact ⟨rfl, rfl⟩))
    (fun os started H enc _ => lifted os started H enc)
end Go.Proofs.YtcmoedhpedlalaaDoor.harqOffers

namespace Go.Proofs.YtcmoedhpedlalaaDoor
/-- THE STATEMENT: the card. -/
theorem harqOffers_holds : Rows.HarqOffersCardSaid :=
  Claim7.holds_tied_plain_at .later [] [.data] true (true, "fed8296f3b15526545fb228baaa4b2b285125c07f58ff0499be33723997c8676") false
    harqOffers.over (fun _ h => by cases h) (by kernel_rfl) (fun _ h => by cases h) harqOffers_row_tie rfl ⟨rfl, rfl⟩ (by kernel_rfl) rfl
    (fun f fn hf hfn => by
      obtain rfl : f = 3 := Option.some.inj ((show Tryd.prog.funcNamed "shuttle/shuttlelaw17.HarqOffers" = some 3 by kernel_rfl).symm.trans hf) |>.symm
      obtain rfl : fn = Tryd.f3 := (Option.some.inj (Tryd.func3.symm.trans hfn)).symm
      exact ⟨by kernel_rfl, fun j t ht => by
        rw [Tryd.params3] at ht
        have hm : t ∈ [22, 22, 23] := by simpa using Array.mem_of_getElem? ht
        have hall : ([22, 22, 23].all fun u => !Tryd.prog.wantsStandIn u) = true := by kernel_rfl
        exact (show Tryd.prog.wantsStandIn t = false by simpa using List.all_eq_true.1 hall t hm)⟩)
    (by kernel_rfl)
#print axioms harqOffers_holds
end Go.Proofs.YtcmoedhpedlalaaDoor
