/-
  Layer 19 (what is due at which tick): a wheel that a statement makes; the first test.
-/
import Derived.Test.YtkmacepodomdmaaJn
namespace Go.Proofs.Ytkmacepodomdmaa
open Go.RowKit
set_option maxRecDepth 100000
set_option linter.unusedVariables false
set_option linter.unusedSimpArgs false
set_option maxRecDepth 100000

theorem due_none {L : List (Nat × Nat)} {t : Nat} {l : List Nat} (h : Due L t l) (hn : ∀ a, (a, t) ∉ L) : l = [] := by
  cases l with
  | nil => rfl
  | cons x l => exact absurd ((h.mem x).1 List.mem_cons_self) (hn x)
theorem due_one {L : List (Nat × Nat)} {t a : Nat} {l : List Nat} (h : Due L t l) (hn : ∀ b, (b, t) ∈ L ↔ b = a) : l = [a] :=
  h.uniq ⟨by simp, fun b => by rw [hn]; simp⟩
/-- A wheel made since w0. -/
structure LW (w0 w : World) (gW now : Nat) (L : List (Nat × Nat)) : Prop where
  ws : ∃ P : Nat → Prop, WS w P gW now L ∧ ∀ k, P k → w0.heap.size ≤ k
  bel : Below w0.heap.size w0 w
theorem LW.after {w0 w w' : World} {gW now : Nat} {L : List (Nat × Nat)} (h : LW w0 w gW now L) (hb : Below w.heap.size w w') : LW w0 w' gW now L := by
  obtain ⟨P, h1, h2⟩ := h.ws
  exact ⟨⟨P, h1.after hb, h2⟩, h.bel.trans (hb.mono h.bel.size)⟩
theorem LW.draw {w0 w : World} {gW now : Nat} {L : List (Nat × Nat)} (h : LW w0 w gW now L) (q : Nat) : LW w0 (w.drewN q) gW now L := h.after (below_drawn q)
theorem LW.drew {w0 w : World} {gW now : Nat} {L : List (Nat × Nat)} (h : LW w0 w gW now L) : LW w0 w.drew gW now L := h.after (below_drawn 1)
theorem lwNew (w0 w : World) (h : Below w0.heap.size w0 w) : Calls Try.prog 29 #[] w fun e w' => ∃ gW, e = .returned (.pointer (some ⟨gW, 0, none⟩)) ∧ LW w0 w' gW 0 [] := by
  refine (wNew w).mono ?_
  rintro e w' ⟨he, hs, hb⟩
  exact ⟨w.heap.size, he, ⟨⟨_, hs, fun k hk => by rw [hk]; exact h.size⟩, h.trans (hb.mono h.size)⟩⟩
theorem lwSet (w0 w : World) (gW now a inn : Nat) (L : List (Nat × Nat)) (h : LW w0 w gW now L) (hin : 1 ≤ inn ∧ inn ≤ 1000) (ha : a < 65536) (hL : L.length ≤ 100000) (hn : now ≤ 1000000) :
    Calls Try.prog 24 #[.pointer (some ⟨gW, 0, none⟩), .int .u16 (a : Int), .int .i64 (inn : Int)] w fun e w' => e = .returned (.int .i64 0) ∧ LW w0 w' gW now (setL L a (now + inn)) := by
  obtain ⟨P, h1, h2⟩ := h.ws
  refine (wSet w P gW now a inn L h1 hin ha hL hn).mono ?_
  rintro e w' ⟨he, hk, P', hs, hp⟩
  exact ⟨he, ⟨⟨P', hs, fun k hk => by
    rcases hp k hk with c | c
    · exact h2 k c
    · exact Nat.le_trans h.bel.size c⟩, h.bel.trans (hk.below h2 h.bel.size)⟩⟩
theorem lwTick (HSort : SortOk) (w0 w : World) (gW now t : Nat) (L : List (Nat × Nat)) (h : LW w0 w gW now L) (ht : t = now + 1) (hL : L.length < 50) (hn : now ≤ 1000000) :
    Calls Try.prog 26 #[.pointer (some ⟨gW, 0, none⟩)] w fun e w' => ∃ A c l, e = .returned (.slice A l.length c) ∧ Due L t l ∧ Rd w' w'.heap.size A l.length (N16 l) ∧ LW w0 w' gW t (restL L t) := by
  obtain ⟨P, h1, h2⟩ := h.ws
  refine (wTick HSort w P gW now t L h1 ht hL hn).mono ?_
  rintro e w' ⟨A, c, l, he, hd, ho, hk, hs⟩
  exact ⟨A, c, l, he, hd, ho.rd, ⟨⟨P, hs, h2⟩, h.bel.trans (hk.below h2 h.bel.size)⟩⟩
theorem lwLen (w0 w : World) (gW now : Nat) (L : List (Nat × Nat)) (h : LW w0 w gW now L) :
    Calls Try.prog 28 #[.pointer (some ⟨gW, 0, none⟩)] w fun e w' => e = .returned (.int .i64 (L.length : Int)) ∧ w = w' := by
  obtain ⟨P, h1, h2⟩ := h.ws
  exact wLen w P gW now L h1
theorem lwNow (w0 w : World) (gW now : Nat) (L : List (Nat × Nat)) (h : LW w0 w gW now L) :
    Calls Try.prog 27 #[.pointer (some ⟨gW, 0, none⟩)] w fun e w' => e = .returned (.int .i64 (now : Int)) ∧ w = w' := by
  obtain ⟨P, h1, h2⟩ := h.ws
  exact wNow w P gW now L h1
theorem lwDrop (w0 w : World) (gW now a : Nat) (L : List (Nat × Nat)) (h : LW w0 w gW now L) (ha : a < 65536) (r : Int) (hr : r = if inL L a = true then 0 else 9) :
    Calls Try.prog 25 #[.pointer (some ⟨gW, 0, none⟩), .int .u16 (a : Int)] w fun e w' => e = .returned (.int .i64 r) ∧ LW w0 w' gW now (dropL L a) := by
  obtain ⟨P, h1, h2⟩ := h.ws
  refine (wDrop w P gW now a L h1 ha r hr).mono ?_
  rintro e w' ⟨he, hk, hs⟩
  exact ⟨he, ⟨⟨P, hs, h2⟩, h.bel.trans (hk.below h2 h.bel.size)⟩⟩

set_option maxHeartbeats 2000000 in
theorem wTurns (HSort : SortOk) (w : World) : Calls Try.prog 22 #[] w fun e w' => e = .returned (.bool true) ∧ Below w.heap.size w w' := by
  have HS := Lib.hid HSort
  clear HSort
  have CN := Lib.hid (lwNew w w (Below.refl _ _))
  have CS : Hid (∀ W gW, LW w W gW 0 [] → Calls Try.prog 24 #[.pointer (some ⟨gW, 0, none⟩), .int .u16 7, .int .i64 2] W fun e w' => e = .returned (.int .i64 0) ∧ LW w w' gW 0 [(7, 2)]) :=
    fun W gW h => lwSet w W gW 0 7 2 [] h (by omega) (by omega) (by simp) (by omega)
  go_enter Try.func22, Try.ntmps22
  go_wp2_with (first
    | (go_at_call 29; refine CN.out.mono ?_; rintro e w1 ⟨gW, rfl, hl1⟩)
    | (go_at_call 24; refine (CS.out _ _ hl1).mono ?_; rintro e w2 ⟨rfl, hl2⟩))
  refine (lwTick HS.out w w2 gW 0 1 _ hl2 rfl (by simp) (by omega)).mono ?_
  rintro e w3 ⟨A3, c3, l3, rfl, hd3, hr3, hl3⟩
  have e3 : l3 = [] := due_none hd3 (fun a => by simp)
  subst e3
  have hl3' : LW w w3 gW 1 [(7, 2)] := hl3
  go_wp2_with fail
  refine (lwTick HS.out w w3 gW 1 2 _ hl3' rfl (by simp) (by omega)).mono ?_
  rintro e w4 ⟨A4, c4, l4, rfl, hd4, hr4, hl4⟩
  have e4 : l4 = [7] := due_one hd4 (fun b => by simp)
  subst e4
  obtain ⟨b, off, hA, hlt, hcell⟩ := hr4.cell16 0 (by simp)
  subst hA
  have hc0 : w4.cell? ⟨b, off, none⟩ = some (.int .u16 7) := by simpa using hcell
  have CW := Lib.hid (lwNow w w4 gW 2 _ hl4)
  have HB := Lib.hid hl4.bel
  clear hd3 hr3 hl3 hl3' hd4 hr4 hl4 hcell hl1 hl2
  go_wp2_with (go_at_call 27; refine CW.out.mono ?_; rintro e w5 ⟨rfl, rfl⟩)
  go_ret
  exact ⟨rfl, HB.out⟩
end Go.Proofs.Ytkmacepodomdmaa
