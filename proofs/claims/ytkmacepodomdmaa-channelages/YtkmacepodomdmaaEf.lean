/-
  Layer 26 (datagrams under way): a channel that a statement makes; the first test.
-/
import Derived.Test.YtkmacepodomdmaaEe
import Derived.Lib.SlBytesConst
namespace Go.Proofs.Ytkmacepodomdmaa
open Go.RowKit
set_option maxRecDepth 100000
set_option linter.unusedVariables false
set_option linter.unusedSimpArgs false
set_option maxRecDepth 100000

/-- A channel made since w0. -/
structure LC (w0 w : World) (gC age now : Nat) (L : List Fy) : Prop where
  ch : ∃ P : Nat → Prop, CH w P gC age now L ∧ ∀ k, P k → w0.heap.size ≤ k
  bel : Below w0.heap.size w0 w
theorem LC.after {w0 w w' : World} {gC age now : Nat} {L : List Fy} (h : LC w0 w gC age now L) (hb : Below w.heap.size w w') : LC w0 w' gC age now L := by
  obtain ⟨P, h1, h2⟩ := h.ch
  exact ⟨⟨P, h1.after hb, h2⟩, h.bel.trans (hb.mono h.bel.size)⟩
theorem lcNew (w0 w : World) (age : Nat) (ha : 1 ≤ age ∧ age ≤ 1000) (h : Below w0.heap.size w0 w) : Calls Try.prog 43 #[.int .i64 (age : Int)] w fun e w' => ∃ gC, e = .returned (.tuple #[.pointer (some ⟨gC, 0, none⟩), .int .i64 0]) ∧ LC w0 w' gC age 0 [] := by
  refine (chNew w age ha).mono ?_
  rintro e w' ⟨he, hs, hb⟩
  exact ⟨w.heap.size, he, ⟨⟨_, hs, fun k hk => by rw [hk]; exact h.size⟩, h.trans (hb.mono h.size)⟩⟩
theorem lcPut (w0 w : World) (gC age now : Nat) (L : List Fy) (A0 : Option Addr) (n0 c0 : Nat) (bs : List Nat) (h : LC w0 w gC age now L) (hf : L.length < 4096) (hr : Rd w w.heap.size A0 n0 (U8 bs)) (hnone : A0 = none → n0 = 0) :
    Calls Try.prog 34 #[.pointer (some ⟨gC, 0, none⟩), .slice A0 n0 c0] w fun e w' => e = .returned (.tuple #[]) ∧ LC w0 w' gC age now (L ++ [⟨str bs, str bs, now⟩]) := by
  obtain ⟨P, h1, h2⟩ := h.ch
  refine (chPut w P gC age now L A0 n0 c0 bs h1 hf hr hnone).mono ?_
  rintro e w' ⟨he, hk, P', hs, hp⟩
  exact ⟨he, ⟨⟨P', hs, fun k hk => by
    rcases hp k hk with c | c
    · exact h2 k c
    · exact Nat.le_trans h.bel.size c⟩, h.bel.trans (hk.below h2 h.bel.size)⟩⟩
theorem lcPutNo (w0 w : World) (gC age now : Nat) (L : List Fy) (A0 : Option Addr) (n0 c0 : Nat) (h : LC w0 w gC age now L) (hf : 4096 ≤ L.length) :
    Calls Try.prog 34 #[.pointer (some ⟨gC, 0, none⟩), .slice A0 n0 c0] w fun e w' => e = .returned (.tuple #[]) ∧ w = w' := by
  obtain ⟨P, h1, h2⟩ := h.ch
  exact chPutNo w P gC age now L A0 n0 c0 h1 hf
theorem lcStep (w0 w : World) (gC age now : Nat) (L : List Fy) (h : LC w0 w gC age now L) (hL : L.length ≤ 1000000) (ha : age ≤ 1000) (hn : now < 1000000) (hs : ∀ x ∈ L, x.since ≤ now) :
    Calls Try.prog 37 #[.pointer (some ⟨gC, 0, none⟩)] w fun e w' => e = .returned (.int .i64 ((L.length - (lives age (now + 1) L).length : Nat) : Int)) ∧ LC w0 w' gC age (now + 1) (lives age (now + 1) L) := by
  obtain ⟨P, h1, h2⟩ := h.ch
  refine (chStep w P gC age now L h1 hL ha hn hs).mono ?_
  rintro e w' ⟨he, hk, hc⟩
  exact ⟨he, ⟨⟨P, hc, h2⟩, h.bel.trans (hk.below h2 h.bel.size)⟩⟩
theorem lcTwice (w0 w : World) (gC age now : Nat) (L : List Fy) (k : Nat) (h : LC w0 w gC age now L) (hk : k < L.length) (hf : L.length < 4096) :
    Calls Try.prog 39 #[.pointer (some ⟨gC, 0, none⟩), .int .i64 (k : Int)] w fun e w' => e = .returned (.int .i64 0) ∧ LC w0 w' gC age now (L ++ [L[k]]) := by
  obtain ⟨P, h1, h2⟩ := h.ch
  refine (chTwice w P gC age now L k h1 hk hf).mono ?_
  rintro e w' ⟨he, hk, P', hs, hp⟩
  exact ⟨he, ⟨⟨P', hs, fun k hk => by
    rcases hp k hk with c | c
    · exact h2 k c
    · exact Nat.le_trans h.bel.size c⟩, h.bel.trans (hk.below h2 h.bel.size)⟩⟩
theorem lcTwiceFull (w0 w : World) (gC age now : Nat) (L : List Fy) (k : Nat) (h : LC w0 w gC age now L) (hk : k < L.length) (hf : 4096 ≤ L.length) :
    Calls Try.prog 39 #[.pointer (some ⟨gC, 0, none⟩), .int .i64 (k : Int)] w fun e w' => e = .returned (.int .i64 8) ∧ w = w' := by
  obtain ⟨P, h1, h2⟩ := h.ch
  exact chTwiceFull w P gC age now L k h1 hk hf
theorem lcLen (w0 w : World) (gC age now : Nat) (L : List Fy) (h : LC w0 w gC age now L) :
    Calls Try.prog 41 #[.pointer (some ⟨gC, 0, none⟩)] w fun e w' => e = .returned (.int .i64 (L.length : Int)) ∧ w = w' := by
  obtain ⟨P, h1, h2⟩ := h.ch
  exact chLen w P gC age now L h1
theorem lcTake (w0 w : World) (gC age now : Nat) (L : List Fy) (k : Nat) (h : LC w0 w gC age now L) (hk : k < L.length) (hL : L.length ≤ 1000000) :
    Calls Try.prog 35 #[.pointer (some ⟨gC, 0, none⟩), .int .i64 (k : Int)] w fun e w' =>
      ∃ A1 n1 c1 A2 n2 c2, e = .returned (.tuple #[.agg #[.slice A1 n1 c1, .slice A2 n2 c2, .int .i64 (L[k].since : Int)], .int .i64 0]) ∧ Rd w' w'.heap.size A1 n1 (U8 (byt L[k].b)) ∧ (A1 = none → n1 = 0) ∧ ∃ P : Nat → Prop, CH w' P gC age now (outK L k) ∧ (∀ k, P k → w0.heap.size ≤ k) ∧ (∀ j, blk A1 = some j → ¬ P j) ∧ Below w0.heap.size w0 w' := by
  obtain ⟨P, h1, h2⟩ := h.ch
  refine (chTake w P gC age now L k h1 hk hL).mono ?_
  rintro e w' ⟨A1, n1, c1, A2, n2, c2, he, r1, r2, e1, e2, hkr, hch, hn1, hn2⟩
  exact ⟨A1, n1, c1, A2, n2, c2, he, r1, e1, P, hch, h2, hn1, h.bel.trans (hkr.below h2 h.bel.size)⟩
theorem Rd.krB {w w' : World} {P : Nat → Prop} {A : Option Addr} {n : Nat} {xs : List Value} (h : Rd w w.heap.size A n xs) (hk : Kr w w' P) (hA : ∀ k, blk A = some k → ¬ P k) : Rd w' w'.heap.size A n xs :=
  ⟨h.len, fun hn => by
    obtain ⟨b, off, e, hlt, hc⟩ := h.at_ hn
    exact ⟨b, off, e, Nat.lt_of_lt_of_le hlt hk.size, fun i u hu => (World.cell?_of_block (a := ⟨b, off + i, none⟩) (hk.block b hlt (hA b (by rw [e]; rfl)))).trans (hc i u hu)⟩⟩
theorem sB : str [98] = ⟨#[98]⟩ := by decide +kernel
set_option maxHeartbeats 2000000 in
/-- The first test. -/
theorem fliesC (w : World) : Calls Try.prog 36 #[] w fun e w' => e = .returned (.bool true) ∧ Below w.heap.size w w' := by
  have kc := fun (w : World) (C : Array Value) (n c : Nat) => Lib.run_convert_bytes_const (P := Try.prog) w 69 5 C n c Try.underlying69 Try.underlying5
  have CN := Lib.hid (lcNew w w 2 (by omega) (Below.refl _ _))
  have CP : Hid (∀ (W W' : World) (gC g z : Nat) (L : List Fy), LC w W gC 2 0 L → L.length < 3 → z < 256 → Below W.heap.size W W' → Rd W' W'.heap.size (some ⟨g, 0, none⟩) 1 (U8 [z]) → Calls Try.prog 34 #[.pointer (some ⟨gC, 0, none⟩), .slice (some ⟨g, 0, none⟩) 1 1] W' fun e w' => e = .returned (.tuple #[]) ∧ LC w w' gC 2 0 (L ++ [⟨str [z], str [z], 0⟩])) :=
    fun W W' gC g z L h hl hz hb hr => lcPut w W' gC 2 0 L _ 1 1 [z] (h.after hb) (by omega) hr (fun e => by cases e)
  have CT : Hid (∀ (W : World) (gC : Nat) (x y : Fy), LC w W gC 2 0 [x, y] → Calls Try.prog 35 #[.pointer (some ⟨gC, 0, none⟩), .int .i64 1] W fun e w' =>
      ∃ A1 n1 c1 A2 n2 c2, e = .returned (.tuple #[.agg #[.slice A1 n1 c1, .slice A2 n2 c2, .int .i64 (y.since : Int)], .int .i64 0]) ∧ Rd w' w'.heap.size A1 n1 (U8 (byt y.b)) ∧ (A1 = none → n1 = 0) ∧ ∃ P : Nat → Prop, CH w' P gC 2 0 [x] ∧ (∀ k, P k → w.heap.size ≤ k) ∧ (∀ j, blk A1 = some j → ¬ P j) ∧ Below w.heap.size w w') :=
    fun W gC x y h => lcTake w W gC 2 0 [x, y] 1 h (by simp) (by simp)
  have CS1 : Hid (∀ (W : World) (P : Nat → Prop) (gC : Nat) (b : ByteArray), CH W P gC 2 0 [⟨b, b, 0⟩] → Calls Try.prog 37 #[.pointer (some ⟨gC, 0, none⟩)] W fun e w' => e = .returned (.int .i64 0) ∧ Kr W w' P ∧ CH w' P gC 2 1 [⟨b, b, 0⟩]) := fun W P gC b h => by
    have := chStep W P gC 2 0 [⟨b, b, 0⟩] h (by simp) (by omega) (by omega) (by intro x hx; simp at hx; rw [hx]; exact Nat.le_refl _)
    rw [show lives 2 (0 + 1) [(⟨b, b, 0⟩ : Fy)] = [⟨b, b, 0⟩] by simp [lives]] at this
    exact this
  have CS2 : Hid (∀ (W : World) (P : Nat → Prop) (gC : Nat) (b : ByteArray), CH W P gC 2 1 [⟨b, b, 0⟩] → Calls Try.prog 37 #[.pointer (some ⟨gC, 0, none⟩)] W fun e w' => e = .returned (.int .i64 1) ∧ Kr W w' P ∧ CH w' P gC 2 2 []) := fun W P gC b h => by
    have := chStep W P gC 2 1 [⟨b, b, 0⟩] h (by simp) (by omega) (by omega) (by intro x hx; simp at hx; rw [hx]; exact Nat.zero_le _)
    rw [show lives 2 (1 + 1) [(⟨b, b, 0⟩ : Fy)] = [] by simp [lives]] at this
    exact this
  have HSB := Lib.hid (show str (byt (str [98])) = ⟨#[98]⟩ by rw [str_byt]; exact sB)
  go_enter Try.func36, Try.ntmps36
  go_upto_region 2 with (go_at_call 43; refine CN.out.mono ?_; rintro e w1 ⟨gC, rfl, h1⟩)
  have H1 := Lib.hid h1
  clear h1 CN
  go_upto_region 3 with (go_at_call 34; refine (CP.out w1 _ gC w1.heap.size 97 [] H1.out (by simp) (by omega) ((Below.refl _ _).alloc (Nat.le_refl _) _) (rd_block w1 5 #[.int .u8 97] (1, 2) (U8 [97]) 1 rfl rfl)).mono ?_; rintro e w2 ⟨rfl, h2⟩)
  have H2 := Lib.hid h2
  clear h2 H1
  go_upto_region 4 with (go_at_call 34; refine (CP.out w2 _ gC w2.heap.size 98 _ H2.out (by simp) (by omega) ((Below.refl _ _).alloc (Nat.le_refl _) _) (rd_block w2 5 #[.int .u8 98] (1, 2) (U8 [98]) 1 rfl rfl)).mono ?_; rintro e w3 ⟨rfl, h3⟩)
  have H3 := Lib.hid h3
  clear h3 H2
  go_upto_region 5 with (first
    | (go_at_call 35; refine (CT.out w3 gC _ _ H3.out).mono ?_; rintro e w4 ⟨A1, n1, c1, A2, n2, c2, rfl, r1, e1, P, h4, hP, hA1, bw4⟩)
    | (refine at_alloc rfl 71 rfl _ zeroFlight ?_; intro w5 L5)
    | (refine at_store rfl 71 _ _ rfl w4.heap.size #[.slice A1 n1 c1, .slice A2 n2 c2, .int .i64 ((0 : Nat) : Int)] rfl rfl 71 _ L5.row (infoFlight _ _ _) rfl (by simp [Value.oneCell']) ?_; intro w6 H6))
  have b46 : Below w4.heap.size w4 w6 := L5.bel.trans (H6.below (Nat.le_refl _))
  have P6 := H6.row
  obtain ⟨g6, hg6⟩ : ∃ g, g = w4.heap.size := ⟨_, rfl⟩
  have HG6 := Lib.hid P6.lt
  rw [← hg6] at P6 HG6 ⊢
  have R6 : Rd w6 w6.heap.size A1 n1 (U8 (byt (str [98]))) := (r1.below b46).up b46.size
  have H6' := Lib.hid (h4.after b46)
  have HN6 : Hid (¬ P g6) := fun hp => by have := h4.lt g6 hp; omega
  have HA1 := Lib.hid hA1
  have HPL := Lib.hid hP
  have HB6 := Lib.hid (bw4.trans (b46.mono bw4.size))
  clear L5 H6 hg6 r1 h4 H3 CT CP hA1 hP bw4 b46
  go_upto_region 6 with (go_at_call 37; refine (CS1.out w6 P gC _ H6'.out).mono ?_; rintro e w7 ⟨rfl, K7, h7⟩)
  go_upto_region 7 with (go_at_call 37; refine (CS2.out w7 P gC _ h7).mono ?_; rintro e w8 ⟨rfl, K8, h8⟩)
  have P8 : Blk w8 g6 71 #[.slice A1 n1 c1, .slice A2 n2 c2, .int .i64 ((0 : Nat) : Int)] := by
    have P7 := (K7.block g6 P6.lt HN6.out).trans P6
    exact (K8.block g6 (Nat.lt_of_lt_of_le P6.lt K7.size) HN6.out).trans P7
  have R8 := (R6.krB K7 HA1.out).krB K8 HA1.out
  have kcv : (convert 69 9 (.slice A1 n1 c1)).run Try.prog w8 = .ok (.string ⟨#[98]⟩) w8 := by
    rw [← HSB.out]
    exact R8.conv e1 w8 (Below.refl _ _)
  have k8 : w8.cell? ⟨g6, 0, none⟩ = some (.slice A1 n1 c1) := (P8.cell 0).trans rfl
  have CL := Lib.hid (chLen w8 P gC 2 2 [] h8)
  have HB8 := Lib.hid ((HB6.out.trans (K7.below HPL.out HB6.out.size)).trans (K8.below HPL.out (Nat.le_trans HB6.out.size K7.size)))
  clear P8 R8 K7 K8 h7 h8 P6 R6 CS1 CS2
  go_wp2_with (go_at_call 41; refine CL.out.mono ?_; rintro e w9 ⟨rfl, rfl⟩)
  go_ret
  exact ⟨rfl, HB8.out⟩
end Go.Proofs.Ytkmacepodomdmaa
