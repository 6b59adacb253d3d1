/-
  Layer 28: an act that came in; a queue beside the reference's, and blocks of the law's own that neither writes; every call on both.
-/
import Derived.Test.YtoiibjblaafgpaaFih
import Derived.Test.YtoiibjblaafgpaaFie
import Derived.Test.YtoiibjblaafgpaaRw
import Derived.Test.YtoiibjblaafgpaaArg
namespace Go.Proofs.Ytoiibjblaafgpaa
open Go.RowKit Go.WideShapes Go.ChangeShapes
set_option maxRecDepth 100000
set_option linter.unusedVariables false
set_option linter.unusedSimpArgs false
set_option maxRecDepth 100000

/-- An act. -/
structure A28 where
  what : Int
  bA : Option Addr
  bn : Nat
  bc : Nat
  bs : List Nat
  k : Int
deriving Inhabited
def A28.cells (e : A28) : Array Value := #[.int .i64 e.what, .slice e.bA e.bn e.bc, .int .i64 e.k]
structure A28.Ok (w : World) (e : A28) : Prop where
  rb : Rd w w.heap.size e.bA e.bn (U8 e.bs)
  b256 : ∀ b ∈ e.bs, b < 256
  bnc : e.bn ≤ e.bc
  bcm : e.bc ≤ 9223372036854775807
  bno : e.bA = none → e.bn = 0 ∧ e.bc = 0
  kk : -9223372036854775808 ≤ e.k ∧ e.k ≤ 9223372036854775807
def A28Row (w : World) (B : Nat) (A : Option Addr) (n : Nat) (es : Nat → A28) : Prop := StRow 3 A28.cells w B A n es ∧ ∀ i, i < n → (es i).Ok w
theorem cameRows28 {H : Type} {enc : TypeId × Value → H} {W : World} {fuel len cap : Nat} {a : Option Addr} {x : DataW H × List MemPlace} (h : DataW.trod enc Try.prog W 0 (fun _ => true) true fuel 51 [.slice a len cap] = some x) :
    ∃ es : Nat → A28, A28Row W W.heap.size a len es ∧ len ≤ cap ∧ cap ≤ 9223372036854775807 := by
  refine cameRowsOf 3 A28.cells (A28.Ok W) Try.underlying51 (by kernel_rfl) (by omega) h ?_
  intro fuel cs r h hs
  have hu := Try.underlying65
  obtain ⟨k, k1, _⟩ := cameInt hu h 0 _ rfl rfl (by kernel_rfl) (by omega) .i64 Try.underlying3
  obtain ⟨u, fu, y, u1, u2⟩ := cameField hu h 1 _ rfl rfl (by kernel_rfl) (by omega)
  obtain ⟨z, z1, z2⟩ := cameInt hu h 2 _ rfl rfl (by kernel_rfl) (by omega) .i64 Try.underlying3
  obtain ⟨a1, len1, cap1, zs1, rfl, hc1⟩ : ∃ a len cap zs, u = .slice a len cap ∧ Came .u8 W a len cap zs := by
    rcases open_ints Try.underlying26 Try.underlying5 (by kernel_rfl) u2 with ⟨hcs, _⟩ | ⟨x, l, c, zs, hcs, _, hl, hm, hz, _, hcell, hwz⟩
    · simp at hcs
      exact ⟨none, 0, 0, [], hcs, .inl ⟨rfl, rfl, rfl, rfl⟩⟩
    · simp at hcs
      exact ⟨_, _, _, zs, hcs, .inr ⟨_, rfl, hl, hm, by simpa using hz, hcell, hwz⟩⟩
  obtain ⟨bs, r0, hb, hl, hc, hnn⟩ := came8 hc1
  refine ⟨⟨k, a1, len1, cap1, bs, z⟩, ?_, ⟨r0, hb, hl, hc, hnn, ?_⟩⟩
  · apply Array.ext_getElem?
    intro i
    match i with
    | 0 => rw [k1]; rfl
    | 1 => rw [u1]; rfl
    | 2 => rw [z1]; rfl
    | i + 3 => rw [Array.getElem?_eq_none (by simp [A28.cells])]; exact (Array.getElem?_eq_none (by omega)).symm
  · simp [Lit.wf, IntKind.min, IntKind.max, IntKind.bits, IntKind.signed] at z2
    show -9223372036854775808 ≤ z ∧ z ≤ 9223372036854775807
    omega
/-- Both, and blocks X that are neither's. -/
structure F3 (w0 w : World) (X : Nat → Prop) (gQ gR most : Nat) (ms : List (List Nat)) (wt kp : Nat) (L : List (List Nat)) (d p a : Nat) : Prop where
  ch : ∃ P Q : Nat → Prop, QS w P gQ most ms wt kp ∧ RQ w Q gR most L d p a ∧ (∀ k, P k → w0.heap.size ≤ k) ∧ (∀ k, Q k → w0.heap.size ≤ k) ∧ (∀ k, P k → ¬ Q k) ∧ ∀ k, X k → ¬ P k ∧ ¬ Q k
  lt : ∀ k, X k → k < w.heap.size
  bel : Below w0.heap.size w0 w
/-- The law's own blocks are as they were. -/
def SameF (w w' : World) (X : Nat → Prop) : Prop := w.heap.size ≤ w'.heap.size ∧ ∀ k, X k → w'.heap[k]? = w.heap[k]?
theorem SameF.rd {w w' : World} {X : Nat → Prop} {A : Option Addr} {n : Nat} {xs : List Value} (hs : SameF w w' X) (h : Rd w w.heap.size A n xs) (hA : ∀ k, 0 < n → blk A = some k → X k) : Rd w' w'.heap.size A n xs :=
  ⟨h.len, fun hn => by
    obtain ⟨b, off, e, hlt, hc⟩ := h.at_ hn
    exact ⟨b, off, e, Nat.lt_of_lt_of_le hlt hs.1, fun i u hu => (World.cell?_of_block (a := ⟨b, off + i, none⟩) (hs.2 b (hA b hn (by rw [e]; rfl)))).trans (hc i u hu)⟩⟩
theorem SameF.blk {w w' : World} {X : Nat → Prop} {g : Nat} {t : TypeId} {cs : Array Value} (hs : SameF w w' X) (h : Blk w g t cs) (hX : X g) : Blk w' g t cs := (hs.2 g hX).trans h
section
variable {w0 w w' : World} {X : Nat → Prop} {gQ gR most : Nat} {ms : List (List Nat)} {wt kp : Nat} {L : List (List Nat)} {d p a : Nat}
theorem F3.grow (h : F3 w0 w X gQ gR most ms wt kp L d p a) (hb : Below w.heap.size w w') : F3 w0 w' X gQ gR most ms wt kp L d p a := by
  obtain ⟨P, Q, h1, h2, h3, h4, h5, h6⟩ := h.ch
  exact ⟨⟨P, Q, h1.after hb, h2.after hb, h3, h4, h5, h6⟩, fun k hk => Nat.lt_of_lt_of_le (h.lt k hk) hb.size, h.bel.trans (hb.mono h.bel.size)⟩
theorem F3.same (h : F3 w0 w X gQ gR most ms wt kp L d p a) (hb : Below w.heap.size w w') : SameF w w' X := ⟨hb.size, fun k hk => hb.block k (h.lt k hk)⟩
theorem F3.more (h : F3 w0 w X gQ gR most ms wt kp L d p a) (hb : Below w.heap.size w w') (Y : Nat → Prop) (hY : ∀ k, Y k → w.heap.size ≤ k ∧ k < w'.heap.size) : F3 w0 w' (fun k => X k ∨ Y k) gQ gR most ms wt kp L d p a := by
  obtain ⟨P, Q, h1, h2, h3, h4, h5, h6⟩ := h.ch
  refine ⟨⟨P, Q, h1.after hb, h2.after hb, h3, h4, h5, fun k hk => ?_⟩, fun k hk => ?_, h.bel.trans (hb.mono h.bel.size)⟩
  · rcases hk with e | e
    · exact h6 k e
    · have := (hY k e).1
      exact ⟨fun hp => by have := h1.lt k hp; omega, fun hq => by have := h2.lt k hq; omega⟩
  · rcases hk with e | e
    · exact Nat.lt_of_lt_of_le (h.lt k e) hb.size
    · exact (hY k e).2
theorem F3.less {Y : Nat → Prop} (h : F3 w0 w X gQ gR most ms wt kp L d p a) (hy : ∀ k, Y k → X k) : F3 w0 w Y gQ gR most ms wt kp L d p a := by
  obtain ⟨P, Q, h1, h2, h3, h4, h5, h6⟩ := h.ch
  exact ⟨⟨P, Q, h1, h2, h3, h4, h5, fun k hk => h6 k (hy k hk)⟩, fun k hk => h.lt k (hy k hk), h.bel⟩
/-- The law's own blocks are written. -/
theorem F3.own (h : F3 w0 w X gQ gR most ms wt kp L d p a) (hk : Kr w w' X) (hX : ∀ k, X k → w0.heap.size ≤ k) : F3 w0 w' X gQ gR most ms wt kp L d p a := by
  obtain ⟨P, Q, h1, h2, h3, h4, h5, h6⟩ := h.ch
  exact ⟨⟨P, Q, h1.kr hk (fun k hp hx => (h6 k hx).1 hp), h2.kr hk (fun k hp hx => (h6 k hx).2 hp), h3, h4, h5, h6⟩, fun k hx => Nat.lt_of_lt_of_le (h.lt k hx) hk.size, h.bel.trans (hk.below hX h.bel.size)⟩
/-- A call of the queue. -/
theorem f3L {F : Nat} {args : Array Value} {ms2 : List (List Nat)} {wt2 kp2 : Nat} {E : Ending} (h : F3 w0 w X gQ gR most ms wt kp L d p a)
    (C : ∀ P, QS w P gQ most ms wt kp → Calls Try.prog F args w fun e w' => e = E ∧ Kr w w' P ∧ ∃ P' : Nat → Prop, QS w' P' gQ most ms2 wt2 kp2 ∧ ∀ k, P' k → P k ∨ w.heap.size ≤ k) :
    Calls Try.prog F args w fun e w' => e = E ∧ F3 w0 w' X gQ gR most ms2 wt2 kp2 L d p a ∧ SameF w w' X := by
  obtain ⟨P, Q, h1, h2, h3, h4, h5, h6⟩ := h.ch
  refine (C P h1).mono ?_
  rintro e w' ⟨he, hk, P', hc, hp⟩
  refine ⟨he, ⟨⟨P', Q, hc, h2.kr hk (fun k hq hp => h5 k hp hq), fun k hk' => ?_, h4, fun k hk' hq => ?_, fun k hx => ⟨fun hk' => ?_, (h6 k hx).2⟩⟩, fun k hx => Nat.lt_of_lt_of_le (h.lt k hx) hk.size, h.bel.trans (hk.below h3 h.bel.size)⟩, hk.size, fun k hx => hk.block k (h.lt k hx) (h6 k hx).1⟩
  · rcases hp k hk' with e | e
    · exact h3 k e
    · exact Nat.le_trans h.bel.size e
  · rcases hp k hk' with e | e
    · exact h5 k e hq
    · have := h2.lt k hq; omega
  · rcases hp k hk' with e | e
    · exact (h6 k hx).1 e
    · have := h.lt k hx; omega
/-- A call of the reference's. -/
theorem f3R {F : Nat} {args : Array Value} {L2 : List (List Nat)} {d2 p2 a2 : Nat} {E : Ending} (h : F3 w0 w X gQ gR most ms wt kp L d p a)
    (C : ∀ Q, RQ w Q gR most L d p a → Calls Try.prog F args w fun e w' => e = E ∧ Kr w w' Q ∧ ∃ Q' : Nat → Prop, RQ w' Q' gR most L2 d2 p2 a2 ∧ ∀ k, Q' k → Q k ∨ w.heap.size ≤ k) :
    Calls Try.prog F args w fun e w' => e = E ∧ F3 w0 w' X gQ gR most ms wt kp L2 d2 p2 a2 ∧ SameF w w' X := by
  obtain ⟨P, Q, h1, h2, h3, h4, h5, h6⟩ := h.ch
  refine (C Q h2).mono ?_
  rintro e w' ⟨he, hk, Q', hc, hp⟩
  refine ⟨he, ⟨⟨P, Q', h1.kr hk h5, hc, h3, fun k hk' => ?_, fun k hk' hq => ?_, fun k hx => ⟨(h6 k hx).1, fun hk' => ?_⟩⟩, fun k hx => Nat.lt_of_lt_of_le (h.lt k hx) hk.size, h.bel.trans (hk.below h4 h.bel.size)⟩, hk.size, fun k hx => hk.block k (h.lt k hx) (h6 k hx).2⟩
  · rcases hp k hk' with e | e
    · exact h4 k e
    · exact Nat.le_trans h.bel.size e
  · rcases hp k hq with e | e
    · exact h5 k hk' e
    · have := h1.lt k hk'; omega
  · rcases hp k hk' with e | e
    · exact (h6 k hx).2 e
    · have := h.lt k hx; omega
theorem f3Below {F : Nat} {args : Array Value} {E : Ending} (h : F3 w0 w X gQ gR most ms wt kp L d p a) (C : Calls Try.prog F args w fun e w' => e = E ∧ Below w.heap.size w w') :
    Calls Try.prog F args w fun e w' => e = E ∧ F3 w0 w' X gQ gR most ms wt kp L d p a ∧ SameF w w' X :=
  C.mono fun e w' ⟨he, hb⟩ => ⟨he, h.grow hb, h.same hb⟩
theorem f3Same {F : Nat} {args : Array Value} {E : Ending} (h : F3 w0 w X gQ gR most ms wt kp L d p a) (C : Calls Try.prog F args w fun e w' => e = E ∧ w = w') :
    Calls Try.prog F args w fun e w' => e = E ∧ F3 w0 w' X gQ gR most ms wt kp L d p a ∧ SameF w w' X :=
  C.mono fun e w' ⟨he, hb⟩ => by subst hb; exact ⟨he, h, Nat.le_refl _, fun k _ => rfl⟩
end
section
variable {w0 : World} {X : Nat → Prop} {gQ gR most : Nat} {L : List (List Nat)} {d p a : Nat}
/-- Deliver, on both. -/
theorem sDeliver (hp : p ≤ d) (hd : d ≤ L.length) (ha : a ≤ d) (hl : L.length ≤ 1000) : ∃ (r : Int) (d2 : Nat), p ≤ d2 ∧ d2 ≤ L.length ∧ a ≤ d2 ∧
    (∀ w kp d' a', F3 w0 w X gQ gR most (L.drop p) (d - p) kp L d' p a' → Calls Try.prog 29 #[.pointer (some ⟨gQ, 0, none⟩)] w fun e w' => e = .returned (.int .i64 r) ∧ F3 w0 w' X gQ gR most (L.drop p) (d2 - p) kp L d' p a' ∧ SameF w w' X) ∧
    (∀ w wt kp, F3 w0 w X gQ gR most (L.drop p) wt kp L d p a → Calls Try.prog 36 #[.pointer (some ⟨gR, 0, none⟩)] w fun e w' => e = .returned (.int .i64 r) ∧ F3 w0 w' X gQ gR most (L.drop p) wt kp L d2 p a ∧ SameF w w' X) := by
  have hlen : (L.drop p).length = L.length - p := List.length_drop
  by_cases hdl : d = L.length
  · refine ⟨9, d, hp, hd, ha, fun w kp d' a' h => ?_, fun w wt kp h => ?_⟩
    · obtain ⟨P, Q, h1, _⟩ := h.ch
      exact f3Below h (fDeliverNo w P gQ most _ _ kp h1 (by omega) (by omega))
    · obtain ⟨P, Q, _, h2, _⟩ := h.ch
      exact f3Below h (rDeliverNo w Q gR most L d p a h2 hdl)
  · refine ⟨0, d + 1, by omega, by omega, by omega, fun w kp d' a' h => ?_, fun w wt kp h => ?_⟩
    · rw [show d + 1 - p = d - p + 1 by omega]
      exact f3L h fun P hP => (fDeliver w P gQ most _ _ kp hP (by omega) (by omega)).mono fun e w' ⟨a, b, c⟩ => ⟨a, c, P, b, fun k hk => .inl hk⟩
    · exact f3R h fun Q hQ => (rDeliver w Q gR most L d p a hQ (by omega) (by omega)).mono fun e w' ⟨a, b, c⟩ => ⟨a, b, Q, c, fun k hk => .inl hk⟩
/-- Ack, on both, in whatever order. -/
theorem sAck (x : Int) (hp : p ≤ d) (hd : d ≤ L.length) (ha : a ≤ d) (hl : L.length ≤ 1000) : ∃ (r : Int) (a2 : Nat), a2 ≤ d ∧
    (∀ w a', F3 w0 w X gQ gR most (L.drop p) (d - p) (L.length - a) L d p a' → Calls Try.prog 30 #[.pointer (some ⟨gQ, 0, none⟩), .int .i64 x] w fun e w' => e = .returned (.int .i64 r) ∧ F3 w0 w' X gQ gR most (L.drop p) (d - p) (L.length - a2) L d p a' ∧ SameF w w' X) ∧
    (∀ w kp, F3 w0 w X gQ gR most (L.drop p) (d - p) kp L d p a → Calls Try.prog 38 #[.pointer (some ⟨gR, 0, none⟩), .int .i64 x] w fun e w' => e = .returned (.int .i64 r) ∧ F3 w0 w' X gQ gR most (L.drop p) (d - p) kp L d p a2 ∧ SameF w w' X) := by
  have hlen : (L.drop p).length = L.length - p := List.length_drop
  by_cases hx : x < 0
  · exact ⟨1, a, ha, fun w a' h => f3Same h (fAckArg w gQ x hx), fun w kp h => f3Same h (rAckArg w gR x hx)⟩
  · by_cases hx2 : (d : Int) < a + x
    · refine ⟨9, a, ha, fun w a' h => ?_, fun w kp h => ?_⟩
      · obtain ⟨P, Q, h1, _⟩ := h.ch
        exact f3Below h (fAckMiss w P gQ most _ _ _ x h1 (by omega) (by omega) (by omega) (by omega) (by omega) (by omega))
      · obtain ⟨P, Q, _, h2, _⟩ := h.ch
        exact f3Below h (rAckMiss w Q gR most L d p a x h2 (by omega) ha (by omega) hx2)
    · obtain ⟨y, rfl⟩ : ∃ y : Nat, x = (y : Int) := ⟨x.toNat, by omega⟩
      refine ⟨0, a + y, by omega, fun w a' h => ?_, fun w kp h => ?_⟩
      · rw [show L.length - (a + y) = L.length - a - y by omega]
        exact f3L h fun P hP => (fAck w P gQ most _ _ _ y hP (by omega) (by omega) (by omega) (by omega)).mono fun e w' ⟨a, b, c⟩ => ⟨a, c, P, b, fun k hk => .inl hk⟩
      · exact f3R h fun Q hQ => (rAck w Q gR most L d p a y hQ (by omega) (by omega)).mono fun e w' ⟨a, b, c⟩ => ⟨a, b, Q, c, fun k hk => .inl hk⟩
/-- Send, on both. -/
theorem sSend (A : Option Addr) (n0 c : Nat) (bs : List Nat) (hnone : A = none → n0 = 0 ∧ c = 0) (hp : p ≤ d) (hd : d ≤ L.length) (ha : a ≤ d) (hl : L.length ≤ 1000) (hm : most ≤ 1000) : ∃ (r : Int) (L2 : List (List Nat)), L.length ≤ L2.length ∧ L2.length ≤ L.length + 1 ∧
    (∀ w, F3 w0 w X gQ gR most (L.drop p) (d - p) (L.length - a) L d p a → Rd w w.heap.size A n0 (U8 bs) → Calls Try.prog 28 #[.pointer (some ⟨gQ, 0, none⟩), .slice A n0 c] w fun e w' => e = .returned (.int .i64 r) ∧ F3 w0 w' X gQ gR most (L2.drop p) (d - p) (L2.length - a) L d p a ∧ SameF w w' X) ∧
    (∀ w, F3 w0 w X gQ gR most (L2.drop p) (d - p) (L2.length - a) L d p a → Rd w w.heap.size A n0 (U8 bs) → Calls Try.prog 35 #[.pointer (some ⟨gR, 0, none⟩), .slice A n0 c] w fun e w' => e = .returned (.int .i64 r) ∧ F3 w0 w' X gQ gR most (L2.drop p) (d - p) (L2.length - a) L2 d p a ∧ SameF w w' X) := by
  have hlen : (L.drop p).length = L.length - p := List.length_drop
  by_cases hn : 64 < n0
  · exact ⟨7, L, Nat.le_refl _, by omega, fun w h hr => f3Same h (fSendLong w gQ A n0 c hn), fun w h hr => f3Same h (rSendLong w gR A n0 c hn)⟩
  · by_cases hk : most ≤ L.length - a
    · refine ⟨8, L, Nat.le_refl _, by omega, fun w h hr => ?_, fun w h hr => ?_⟩
      · obtain ⟨P, Q, h1, _⟩ := h.ch
        exact f3Below h (fSendFull w P gQ most _ _ _ A n0 c h1 (by omega) hk)
      · obtain ⟨P, Q, _, h2, _⟩ := h.ch
        exact f3Below h (rSendFull w Q gR most L d p a A n0 c h2 (by omega) (by omega) (by omega) hk)
    · refine ⟨0, L ++ [bs], by simp, by simp, fun w h hr => ?_, fun w h hr => ?_⟩
      · rw [List.drop_append_of_le_length (by omega), List.length_append, List.length_singleton, show L.length + 1 - a = L.length - a + 1 by omega]
        exact f3L h fun P hP => fSend w P gQ most _ _ _ A n0 c bs hP hr hnone (by omega) (by omega) hm (by omega)
      · exact f3R h fun Q hQ => rSend w Q gR most L d p a A n0 c bs hQ hr hnone (by omega) (by omega) (by omega) hm (by omega)
end
end Go.Proofs.Ytoiibjblaafgpaa
