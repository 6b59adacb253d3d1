/-
  Layer 16: reading: readRest.
-/
import Derived.Test.YtkmacepodomdmaaDoorFc
namespace Go.Proofs.YtkmacepodomdmaaDoor
open Go.RowKit
set_option maxRecDepth 100000
set_option linter.unusedVariables false
set_option linter.unusedSimpArgs false

/-- Why what stands behind a kind can't be read. -/
def restX (k : Nat) (xs : List Nat) : Er :=
  if k = 2 then (if num (xs.take 4) ≠ 0 then .sent 3 else .nil)
  else if num ((xs.drop 2).take 2) ≠ 0 then .sent 3
  else if 64 < num ((xs.drop 4).take 8) then .sent 4
  else if xs.length - 44 < 8 * (num ((xs.drop 4).take 8) + 4) + 6 then .told 2 else .nil
/-- What it says. -/
def restF (k : Nat) (xs : List Nat) (B : Value) : Array Value :=
  if k = 2 then FV 2 0 0 0 B (num ((xs.drop 4).take 16)) (num ((xs.drop 20).take 32))
  else FV 1 (num ((xs.drop 12).take 16)) (num (xs.take 2)) (num ((xs.drop 4).take 8)) B 0 0
def restB (k : Nat) (xs : List Nat) : List Nat := if k = 2 then [] else (xs.drop 44).take (8 * (num ((xs.drop 4).take 8) + 4) + 6)
def restL (k : Nat) (xs : List Nat) : List Nat := if k = 2 then xs.drop 68 else xs.drop (44 + (8 * (num ((xs.drop 4).take 8) + 4) + 6))
/-- What is known of a frame that was read, and of its error. -/
structure Good (w : World) (base g : Nat) (a : Nat → Addr) (k : Nat) (xs : List Nat) (F : Array Value) (v : Value) : Prop where
  er : ErV w a v (restX k xs)
  yes : restX k xs = .nil → ∃ A n c, F = restF k xs (.slice A n c) ∧ Own w base 5 A n c (U8 (restB k xs)) ∧ RdB w g g (restL k xs)
  no : restX k xs ≠ .nil → F = FV 0 0 0 0 (.slice none 0 0) 0 0
theorem restF_size (k : Nat) (xs : List Nat) (B : Value) : (restF k xs B).size = 7 := by unfold restF; split <;> rfl
theorem restF_all (k : Nat) (xs : List Nat) (A : Option Addr) (n c : Nat) : (restF k xs (.slice A n c)).all (·.oneCell') = true := by unfold restF; split <;> exact FV_all _ _ _ _ _ _ _ _ _
theorem Good.size {w : World} {base g k : Nat} {a : Nat → Addr} {xs : List Nat} {F : Array Value} {v : Value} (h : Good w base g a k xs F v) : F.size = 7 := by
  by_cases hx : restX k xs = .nil
  · obtain ⟨A, n, c, rfl, _⟩ := h.yes hx
    exact restF_size _ _ _
  · rw [h.no hx]; rfl
theorem Good.all {w : World} {base g k : Nat} {a : Nat → Addr} {xs : List Nat} {F : Array Value} {v : Value} (h : Good w base g a k xs F v) : F.all (·.oneCell') = true := by
  by_cases hx : restX k xs = .nil
  · obtain ⟨A, n, c, rfl, _⟩ := h.yes hx
    exact restF_all _ _ _ _ _
  · rw [h.no hx]; exact FV_all _ _ _ _ _ _ _ _ _
/-- A block of another type is written. -/
theorem ErV.upd {w w' : World} {a : Nat → Addr} {v : Value} {x : Er} {r : Nat} {cs ds : Array Value} (h : ErV w a v x) (hr : Blk w r 32 ds) (hu : Upd w w' r 32 cs) : ErV w' a v x := by
  have key : ∀ g (es : Array Value), Blk w g 132 es → g ≠ r := by
    intro g es hb e
    subst e
    unfold Blk at hb hr
    rw [hb] at hr
    injection hr with hr
    injection hr with _ ht
    exact absurd ht (by decide)
  cases x with
  | nil => exact h
  | told e => obtain ⟨g, s, h1, h2⟩ := h; exact ⟨g, s, h1, hu.blk h2 (key g _ h2)⟩
  | sent i => obtain ⟨hi, g, s, h1, h2⟩ := h; exact ⟨hi, g, s, h1, hu.blk h2 (key g _ h2)⟩
theorem Good.upd {w w' : World} {base g k r : Nat} {a : Nat → Addr} {xs : List Nat} {F : Array Value} {v : Value} {cs ds : Array Value} (h : Good w base g a k xs F v) (hr : Blk w r 32 ds) (hu : Upd w w' r 32 cs) (hb : r < base) (hg : g < r) : Good w' base g a k xs F v :=
  ⟨h.er.upd hr hu, fun hx => by
    obtain ⟨A, n, c, h1, h2, h3⟩ := h.yes hx
    exact ⟨A, n, c, h1, h2.upd hu hb, h3.below (hu.below (Nat.le_refl r)) (Nat.le_of_lt hg) hg⟩, h.no⟩
theorem Good.down {w : World} {base base' g k : Nat} {a : Nat → Addr} {xs : List Nat} {F : Array Value} {v : Value} (h : Good w base g a k xs F v) (hb : base' ≤ base) : Good w base' g a k xs F v :=
  ⟨h.er, fun hx => by
    obtain ⟨A, n, c, h1, h2, h3⟩ := h.yes hx
    exact ⟨A, n, c, h1, h2.down hb, h3⟩, h.no⟩
theorem Good.below {w w' : World} {base g k : Nat} {a : Nat → Addr} {xs : List Nat} {F : Array Value} {v : Value} (h : Good w base g a k xs F v) (hb : Below w.heap.size w w') : Good w' base g a k xs F v :=
  ⟨h.er.below hb, fun hx => by
    obtain ⟨A, n, c, h1, h2, h3⟩ := h.yes hx
    exact ⟨A, n, c, h1, h2.below hb (Nat.le_refl _), h3.below hb (Nat.le_of_lt h3.lt) h3.lt⟩, h.no⟩
/-- What reading the rest gives. -/
def RO (w : World) (g : Nat) (a : Nat → Addr) (k : Nat) (xs : List Nat) (e : Ending) (w' : World) : Prop := ∃ F v, e = .returned (.tuple #[.agg F, v]) ∧ Good w' w.heap.size g a k xs F v ∧ Fr w w' g none
theorem ro_no {w : World} {g : Nat} {a : Nat → Addr} {k : Nat} {xs : List Nat} {x : Er} {f : FuncId} {args : Array Value} (h : Calls Tryd.prog f args w (RR w g a (FV 0 0 0 0 (.slice none 0 0) 0 0) x)) (hx : restX k xs = x) (hn : x ≠ .nil) : Calls Tryd.prog f args w (RO w g a k xs) := by
  refine h.mono ?_
  rintro e w' ⟨v, he, hv, hf⟩
  exact ⟨_, v, he, ⟨by rw [hx]; exact hv, fun h => absurd (hx.symm.trans h) hn, fun _ => rfl⟩, hf⟩
theorem readAckC (g : Nat) (xs : List Nat) (a : Nat → Addr) (w : World) (h : RdB w g g xs) (hb : ∀ x ∈ xs, x ≤ 1) (hl : 68 ≤ xs.length) (hE : ErrsAt w a) (h5 : 5 < g) (hla : ∀ i, i < 5 → (a i).block < g) :
    Calls Tryd.prog 121 #[.pointer (some ⟨g, 0, none⟩)] w (RO w g a 2 xs) := by
  by_cases hz : num (xs.take 4) = 0
  · refine (readAckYes g xs a w h hb hl hz).mono ?_
    rintro e w' ⟨he, hf, hr⟩
    have hx : restX 2 xs = .nil := by unfold restX; rw [if_pos rfl, if_neg (by simpa using hz)]
    exact ⟨_, _, he, ⟨by rw [hx]; rfl, fun _ => ⟨none, 0, 0, rfl, Own.nil _ _ _, hr⟩, fun h => absurd hx h⟩, hf⟩
  · exact ro_no (readAckNo g xs a w h hb hl hz hE h5 hla) (by unfold restX; rw [if_pos rfl, if_pos hz]) (by simp)
theorem readDataC (g : Nat) (xs : List Nat) (a : Nat → Addr) (w : World) (h : RdB w g g xs) (hb : ∀ x ∈ xs, x ≤ 1) (hl : 44 ≤ xs.length) (hE : ErrsAt w a) (h5 : 5 < g) (hla : ∀ i, i < 5 → (a i).block < g) :
    Calls Tryd.prog 122 #[.pointer (some ⟨g, 0, none⟩)] w (RO w g a 1 xs) := by
  by_cases hz : num ((xs.drop 2).take 2) = 0
  · by_cases hle : num ((xs.drop 4).take 8) ≤ 64
    · by_cases hs : xs.length - 44 < 8 * (num ((xs.drop 4).take 8) + 4) + 6
      · exact ro_no (readDataShort g xs a w h hb hl hz hle hs) (by unfold restX; rw [if_neg (by omega), if_neg (by simpa using hz), if_neg (by omega), if_pos hs]) (by simp)
      · refine (readDataYes g xs w h hb hl hz hle (by omega)).mono ?_
        rintro e w' ⟨A, n, c, he, ho, hf, hr⟩
        have hx : restX 1 xs = .nil := by unfold restX; rw [if_neg (by omega), if_neg (by simpa using hz), if_neg (by omega), if_neg hs]
        exact ⟨_, _, he, ⟨by rw [hx]; rfl, fun _ => ⟨A, n, c, rfl, ho, hr⟩, fun h => absurd hx h⟩, hf⟩
    · exact ro_no (readDataLong g xs a w h hb hl hz (by omega) hE h5 hla) (by unfold restX; rw [if_neg (by omega), if_neg (by simpa using hz), if_pos (by omega)]) (by simp)
  · exact ro_no (readDataNo g xs a w h hb hl hz hE h5 hla) (by unfold restX; rw [if_neg (by omega), if_pos hz]) (by simp)
theorem infoF7 {F : Array Value} (h : F.size = 7) : (Tryd.prog.info? 32).map (·.size) = some F.size := by rw [h]; kernel_rfl
set_option maxHeartbeats 2000000 in
/-- frame.readRest. -/
theorem readRestC (g k : Nat) (xs : List Nat) (a : Nat → Addr) (w : World) (h : RdB w g g xs) (hb : ∀ x ∈ xs, x ≤ 1) (hk : k = 1 ∨ k = 2) (hl : (if k = 2 then 68 else 44) ≤ xs.length) (hE : ErrsAt w a) (h5 : 5 < g) (hla : ∀ i, i < 5 → (a i).block < g) :
    Calls Tryd.prog 81 #[.pointer (some ⟨g, 0, none⟩), .int .i64 (k : Int)] w (RO w g a k xs) := by
  have hgl := h.lt
  go_enter Tryd.func81, Tryd.ntmps81
  go_upto_region 1 with (refine at_alloc rfl 32 rfl _ zeroF ?_; intro w1 L1)
  have R1 := h.below L1.bel (Nat.le_of_lt hgl) hgl
  have q1 := L1.row
  have F1 := Fr.of L1.bel g
  have hE1 := hE.below L1.bel
  obtain ⟨r2, hr2⟩ : ∃ r, r = w.heap.size := ⟨_, rfl⟩
  have HRW : Hid (w.heap.size ≤ r2) := by unfold Hid; omega
  have HNG : Hid (r2 ≠ g) := by unfold Hid; omega
  have HGR : Hid (g < r2) := by unfold Hid; omega
  have HR1 : Hid (r2 < w1.heap.size) := by unfold Hid; rw [L1.size]; omega
  have HW1 : Hid (w.heap.size ≤ w1.heap.size) := by unfold Hid; rw [L1.size]; omega
  rw [← hr2] at q1 ⊢
  clear L1 hr2
  rcases hk with rfl | rfl
  · have C := Lib.hid (readDataC g xs a w1 R1 hb hl hE1 h5 hla)
    go_upto_region 3 with fail
    go_wp2_with (first | (go_at_call 122; refine C.out.mono ?_; rintro e w2 ⟨F, v, rfl, G2, f2⟩; have q2 := f2.blk q1 HNG.out) | (refine at_store rfl 32 _ _ rfl r2 F rfl rfl 32 _ q2 (infoF7 G2.size) (G2.size.symm ▸ rfl) G2.all ?_; intro w3 H3))
    refine bodyPost_ret (v := .tuple #[.agg F, v]) (results_row_tmp rfl _ _ r2 32 _ _ rfl _ rfl H3.row Tryd.underlying32 rfl (infoF7 G2.size)) rfl ?_
    exact ⟨F, v, rfl, (G2.upd q2 H3 HR1.out HGR.out).down HW1.out, (F1.trans f2).updN H3 HRW.out⟩
  · have C := Lib.hid (readAckC g xs a w1 R1 hb hl hE1 h5 hla)
    go_wp2_with (first | (go_at_call 121; refine C.out.mono ?_; rintro e w2 ⟨F, v, rfl, G2, f2⟩; have q2 := f2.blk q1 HNG.out) | (refine at_store rfl 32 _ _ rfl r2 F rfl rfl 32 _ q2 (infoF7 G2.size) (G2.size.symm ▸ rfl) G2.all ?_; intro w3 H3))
    refine bodyPost_ret (v := .tuple #[.agg F, v]) (results_row_tmp rfl _ _ r2 32 _ _ rfl _ rfl H3.row Tryd.underlying32 rfl (infoF7 G2.size)) rfl ?_
    exact ⟨F, v, rfl, (G2.upd q2 H3 HR1.out HGR.out).down HW1.out, (F1.trans f2).updN H3 HRW.out⟩
end Go.Proofs.YtkmacepodomdmaaDoor
