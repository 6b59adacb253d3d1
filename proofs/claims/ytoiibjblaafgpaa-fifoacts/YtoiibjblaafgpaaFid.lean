/-
  Layer 28: a queue that a statement makes; the first test; the calls of none.
-/
import Derived.Test.YtoiibjblaafgpaaFic
import Derived.Lib.SlBytesConst
namespace Go.Proofs.Ytoiibjblaafgpaa
open Go.RowKit
set_option maxRecDepth 100000
set_option linter.unusedVariables false
set_option linter.unusedSimpArgs false
set_option maxRecDepth 100000

/-- A queue made since w0. -/
structure LQ (w0 w : World) (g most : Nat) (ms : List (List Nat)) (wt kp : Nat) : Prop where
  qs : ∃ P : Nat → Prop, QS w P g most ms wt kp ∧ ∀ k, P k → w0.heap.size ≤ k
  bel : Below w0.heap.size w0 w
theorem LQ.after {w0 w w' : World} {g most : Nat} {ms : List (List Nat)} {wt kp : Nat} (h : LQ w0 w g most ms wt kp) (hb : Below w.heap.size w w') : LQ w0 w' g most ms wt kp := by
  obtain ⟨P, h1, h2⟩ := h.qs
  exact ⟨⟨P, h1.after hb, h2⟩, h.bel.trans (hb.mono h.bel.size)⟩
theorem lqNew (w0 w : World) (most : Nat) (hm : 1 ≤ most ∧ most ≤ 64) (h : Below w0.heap.size w0 w) : Calls Try.prog 34 #[.int .i64 (most : Int)] w fun e w' => ∃ g, e = .returned (.tuple #[.pointer (some ⟨g, 0, none⟩), .int .i64 0]) ∧ LQ w0 w' g most [] 0 0 := by
  refine (fNew w most hm).mono ?_
  rintro e w' ⟨he, hs, hb⟩
  exact ⟨w.heap.size, he, ⟨⟨_, hs, fun k hk => by rw [hk]; exact h.size⟩, h.trans (hb.mono h.size)⟩⟩
theorem lqSend (w0 w : World) (g most : Nat) (ms : List (List Nat)) (wt kp : Nat) (A : Option Addr) (n0 c : Nat) (bs : List Nat) (h : LQ w0 w g most ms wt kp) (hr : Rd w w.heap.size A n0 (U8 bs)) (hnone : A = none → n0 = 0 ∧ c = 0) (hn : n0 ≤ 64) (hk : kp < most) (hm0 : most ≤ 1000) (hml : ms.length ≤ 100000) :
    Calls Try.prog 28 #[.pointer (some ⟨g, 0, none⟩), .slice A n0 c] w fun e w' => e = .returned (.int .i64 0) ∧ LQ w0 w' g most (ms ++ [bs]) wt (kp + 1) := by
  obtain ⟨P, h1, h2⟩ := h.qs
  refine (fSend w P g most ms wt kp A n0 c bs h1 hr hnone hn hk hm0 hml).mono ?_
  rintro e w' ⟨he, hkr, P', hq, hP⟩
  refine ⟨he, ⟨⟨P', hq, fun k hk => ?_⟩, h.bel.trans (hkr.below h2 h.bel.size)⟩⟩
  rcases hP k hk with c | c
  · exact h2 k c
  · exact Nat.le_trans h.bel.size c
theorem lqFull (w0 w : World) (g most : Nat) (ms : List (List Nat)) (wt kp : Nat) (A : Option Addr) (n0 c : Nat) (h : LQ w0 w g most ms wt kp) (hn : n0 ≤ 64) (hk : most ≤ kp) :
    Calls Try.prog 28 #[.pointer (some ⟨g, 0, none⟩), .slice A n0 c] w fun e w' => e = .returned (.int .i64 8) ∧ LQ w0 w' g most ms wt kp := by
  obtain ⟨P, h1, h2⟩ := h.qs
  refine (fSendFull w P g most ms wt kp A n0 c h1 hn hk).mono ?_
  rintro e w' ⟨he, hb⟩
  exact ⟨he, h.after hb⟩
theorem lqDeliver (w0 w : World) (g most : Nat) (ms : List (List Nat)) (wt kp : Nat) (h : LQ w0 w g most ms wt kp) (hw : wt < ms.length) (hl : ms.length ≤ 1000000) :
    Calls Try.prog 29 #[.pointer (some ⟨g, 0, none⟩)] w fun e w' => e = .returned (.int .i64 0) ∧ LQ w0 w' g most ms (wt + 1) kp := by
  obtain ⟨P, h1, h2⟩ := h.qs
  refine (fDeliver w P g most ms wt kp h1 hw hl).mono ?_
  rintro e w' ⟨he, hq, hkr⟩
  exact ⟨he, ⟨⟨P, hq, h2⟩, h.bel.trans (hkr.below h2 h.bel.size)⟩⟩
theorem lqDeliverNo (w0 w : World) (g most : Nat) (ms : List (List Nat)) (wt kp : Nat) (h : LQ w0 w g most ms wt kp) (hw : wt = ms.length) (hl : ms.length ≤ 1000000) :
    Calls Try.prog 29 #[.pointer (some ⟨g, 0, none⟩)] w fun e w' => e = .returned (.int .i64 9) ∧ LQ w0 w' g most ms wt kp := by
  obtain ⟨P, h1, h2⟩ := h.qs
  refine (fDeliverNo w P g most ms wt kp h1 hw hl).mono ?_
  rintro e w' ⟨he, hb⟩
  exact ⟨he, h.after hb⟩
theorem lqPoll (w0 w : World) (g most : Nat) (m : List Nat) (ms : List (List Nat)) (wt kp : Nat) (h : LQ w0 w g most (m :: ms) (wt + 1) kp) (hl : wt ≤ 1000000) :
    Calls Try.prog 26 #[.pointer (some ⟨g, 0, none⟩)] w fun e w' => LQ w0 w' g most ms wt kp ∧ ∃ B d, e = .returned (.tuple #[.slice B m.length d, .bool true]) ∧ Own w' 0 5 B m.length d (U8 m) := by
  obtain ⟨P, h1, h2⟩ := h.qs
  refine (fPoll w P g most m ms wt kp h1 hl).mono ?_
  rintro e w' ⟨hq, hkr, B, d, he, ho, hB⟩
  exact ⟨⟨⟨P, hq, h2⟩, h.bel.trans (hkr.below h2 h.bel.size)⟩, B, d, he, ho⟩
theorem lqPollNo (w0 w : World) (g most : Nat) (ms : List (List Nat)) (kp : Nat) (h : LQ w0 w g most ms 0 kp) :
    Calls Try.prog 26 #[.pointer (some ⟨g, 0, none⟩)] w fun e w' => e = .returned (.tuple #[.slice none 0 0, .bool false]) ∧ w = w' := by
  obtain ⟨P, h1, h2⟩ := h.qs
  exact fPollNo w P g most ms kp h1
theorem lqKept (w0 w : World) (g most : Nat) (ms : List (List Nat)) (wt kp : Nat) (h : LQ w0 w g most ms wt kp) : Calls Try.prog 31 #[.pointer (some ⟨g, 0, none⟩)] w fun e w' => e = .returned (.int .i64 (kp : Int)) ∧ w = w' := by
  obtain ⟨P, h1, h2⟩ := h.qs
  exact fKept w P g most ms wt kp h1
theorem lqUnder (w0 w : World) (g most : Nat) (ms : List (List Nat)) (wt kp : Nat) (h : LQ w0 w g most ms wt kp) (hw : wt ≤ ms.length) (hl : ms.length ≤ 1000000) : Calls Try.prog 32 #[.pointer (some ⟨g, 0, none⟩)] w fun e w' => e = .returned (.int .i64 ((ms.length - wt : Nat) : Int)) ∧ LQ w0 w' g most ms wt kp := by
  obtain ⟨P, h1, h2⟩ := h.qs
  refine (fUnder w P g most ms wt kp h1 hw hl).mono ?_
  rintro e w' ⟨he, j, rfl⟩
  exact ⟨he, h.after (below_drawn _)⟩
theorem lqAck (w0 w : World) (g most : Nat) (ms : List (List Nat)) (wt kp x : Nat) (h : LQ w0 w g most ms wt kp) (hw : wt ≤ ms.length) (hl : ms.length ≤ 1000000) (hk : kp ≤ 1000000) (hx : x + (ms.length - wt) ≤ kp) :
    Calls Try.prog 30 #[.pointer (some ⟨g, 0, none⟩), .int .i64 (x : Int)] w fun e w' => e = .returned (.int .i64 0) ∧ LQ w0 w' g most ms wt (kp - x) := by
  obtain ⟨P, h1, h2⟩ := h.qs
  refine (fAck w P g most ms wt kp x h1 hw hl hk hx).mono ?_
  rintro e w' ⟨he, hq, hkr⟩
  exact ⟨he, ⟨⟨P, hq, h2⟩, h.bel.trans (hkr.below h2 h.bel.size)⟩⟩
theorem sQa : str [97] = ⟨#[97]⟩ := by decide +kernel
set_option maxHeartbeats 2000000 in
/-- The first test. -/
theorem queuesC (w : World) : Calls Try.prog 27 #[] w fun e w' => e = .returned (.bool true) ∧ Below w.heap.size w w' := by
  have kc := fun (w : World) (C : Array Value) (n c : Nat) => Lib.run_convert_bytes_const (P := Try.prog) w 26 5 C n c Try.underlying26 Try.underlying5
  have CN := Lib.hid (lqNew w w 1 (by omega) (Below.refl _ _))
  have CS : Hid (∀ (W W' : World) (g a : Nat), LQ w W g 1 [] 0 0 → Below W.heap.size W W' → Rd W' W'.heap.size (some ⟨a, 0, none⟩) 1 (U8 [97]) → Calls Try.prog 28 #[.pointer (some ⟨g, 0, none⟩), .slice (some ⟨a, 0, none⟩) 1 1] W' fun e w' => e = .returned (.int .i64 0) ∧ LQ w w' g 1 [[97]] 0 1) :=
    fun W W' g a h hb hr => lqSend w W' g 1 [] 0 0 _ 1 1 [97] (h.after hb) hr (fun e => by cases e) (by omega) (by omega) (by omega) (by simp)
  have CF : Hid (∀ (W W' : World) (g a : Nat), LQ w W g 1 [[97]] 0 1 → Below W.heap.size W W' → Calls Try.prog 28 #[.pointer (some ⟨g, 0, none⟩), .slice (some ⟨a, 0, none⟩) 1 1] W' fun e w' => e = .returned (.int .i64 8) ∧ LQ w w' g 1 [[97]] 0 1) :=
    fun W W' g a h hb => lqFull w W' g 1 [[97]] 0 1 _ 1 1 (h.after hb) (by omega) (by omega)
  have CP0 := Lib.hid (fun W g (h : LQ w W g 1 [[97]] 0 1) => lqPollNo w W g 1 [[97]] 1 h)
  have CD := Lib.hid (fun W g (h : LQ w W g 1 [[97]] 0 1) => lqDeliver w W g 1 [[97]] 0 1 h (by simp) (by simp))
  have CP1 := Lib.hid (fun W g (h : LQ w W g 1 [[97]] 1 1) => lqPoll w W g 1 [97] [] 0 1 h (by omega))
  have CK := Lib.hid (fun W g (h : LQ w W g 1 [] 0 1) => lqKept w W g 1 [] 0 1 h)
  go_enter Try.func27, Try.ntmps27
  go_upto_region 2 with (go_at_call 34; refine CN.out.mono ?_; rintro e w1 ⟨g, rfl, h1⟩)
  go_wp2_with fail
  refine (CS.out w1 _ g w1.heap.size h1 ((Below.refl _ _).alloc (Nat.le_refl _) _) (rd_block w1 5 #[.int .u8 97] _ (U8 [97]) 1 rfl rfl)).mono ?_
  rintro e w2 ⟨rfl, h2⟩
  go_wp2_with fail
  refine (CF.out w2 _ g w2.heap.size h2 ((Below.refl _ _).alloc (Nat.le_refl _) _)).mono ?_
  rintro e w3 ⟨rfl, h3⟩
  go_wp2_with fail
  refine (CP0.out w3 g h3).mono ?_
  rintro e w4 ⟨rfl, rfl⟩
  go_wp2_with fail
  refine (CD.out w3 g h3).mono ?_
  rintro e w5 ⟨rfl, h5⟩
  go_wp2_with fail
  refine (CP1.out w5 g h5).mono ?_
  rintro e w6 ⟨h6, B, d, rfl, o6⟩
  have kx : (convert 26 9 (.slice B 1 d)).run Try.prog w6 = .ok (.string ⟨#[97]⟩) w6 := by
    have := o6.conv w6 (Below.refl _ _)
    rw [sQa] at this
    exact this
  go_wp2_with fail
  refine (CK.out w6 g h6).mono ?_
  rintro e w7 ⟨rfl, rfl⟩
  go_wp2
  go_ret
  exact ⟨rfl, h6.bel⟩
end Go.Proofs.Ytoiibjblaafgpaa
