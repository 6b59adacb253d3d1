/-
  Layer 19 (what is due at which tick): a wheel beside the reference's, call by call; rows of acts.
-/
import Derived.Test.YtkmacepodomdmaaJv
import Derived.Test.YtkmacepodomdmaaJt
import Derived.Test.YtkmacepodomdmaaJo
import Derived.Test.YtkmacepodomdmaaRw
namespace Go.Proofs.Ytkmacepodomdmaa
open Go.RowKit Go.WideShapes Go.ChangeShapes
set_option maxRecDepth 100000
set_option linter.unusedVariables false
set_option linter.unusedSimpArgs false
set_option maxRecDepth 100000

/-- An act. -/
structure A19 where
  what : Int
  a : Nat
  inn : Int
instance : Inhabited A19 := ⟨⟨0, 0, 0⟩⟩
def A19.cells (e : A19) : Array Value := #[.int .i64 e.what, .int .u16 (e.a : Int), .int .i64 e.inn]
def A19.ok (e : A19) : Prop := e.a < 65536 ∧ -9223372036854775808 ≤ e.inn ∧ e.inn ≤ 9223372036854775807
def A19Row (w : World) (B : Nat) (A : Option Addr) (n : Nat) (es : Nat → A19) : Prop := StRow 3 A19.cells w B A n es ∧ ∀ i, i < n → (es i).ok
theorem A19Row.below {w w' : World} {B : Nat} {A : Option Addr} {n : Nat} {es : Nat → A19} (h : A19Row w B A n es) (hb : Below B w w') : A19Row w' B A n es := ⟨h.1.below hb, h.2⟩
theorem cameRows19 {H : Type} {enc : TypeId × Value → H} {W : World} {fuel len cap : Nat} {a : Option Addr} {x : DataW H × List MemPlace} (h : DataW.trod enc Try.prog W 0 (fun _ => true) true fuel 50 [.slice a len cap] = some x) :
    ∃ es : Nat → A19, A19Row W W.heap.size a len es ∧ len ≤ cap ∧ cap ≤ 9223372036854775807 := by
  refine cameRowsOf 3 A19.cells A19.ok Try.underlying50 (by kernel_rfl) (by omega) h ?_
  intro fuel cs r h hs
  have hu := Try.underlying60
  obtain ⟨k, k1, _⟩ := cameInt hu h 0 _ rfl rfl (by kernel_rfl) (by omega) .i64 Try.underlying3
  obtain ⟨v, v1, v2⟩ := cameInt hu h 1 _ rfl rfl (by kernel_rfl) (by omega) .u16 Try.underlying22
  obtain ⟨z, z1, z2⟩ := cameInt hu h 2 _ rfl rfl (by kernel_rfl) (by omega) .i64 Try.underlying3
  obtain ⟨a, rfl, ha⟩ := wf16_inv v2
  refine ⟨⟨k, a, z⟩, ?_, ha, ?_⟩
  · apply Array.ext_getElem?
    intro i
    match i with
    | 0 => rw [k1]; rfl
    | 1 => rw [v1]; rfl
    | 2 => rw [z1]; rfl
    | i + 3 => rw [Array.getElem?_eq_none (by simp [A19.cells])]; exact (Array.getElem?_eq_none (by omega)).symm
  · simp [Lit.wf, IntKind.min, IntKind.max, IntKind.bits, IntKind.signed] at z2
    show -9223372036854775808 ≤ z ∧ z ≤ 9223372036854775807
    omega

theorem setL_nd {L : List (Nat × Nat)} (h : (L.map Prod.fst).Nodup) (a t : Nat) : ((setL L a t).map Prod.fst).Nodup := by
  have hno : a ∉ (dropL L a).map Prod.fst := by
    intro hm
    obtain ⟨p, hp, e⟩ := List.mem_map.1 hm
    have := (List.mem_filter.1 hp).2
    simp [e] at this
  unfold setL
  rw [List.map_append]
  exact List.nodup_append.2 ⟨nodup_filter_fst h _, by simp, fun x hx y hy => by
    have : y = a := by simpa using hy
    rw [this]; intro e; rw [e] at hx; exact hno hx⟩
theorem setL_num {L : List (Nat × Nat)} (h : ∀ p ∈ L, p.1 < 65536) {a : Nat} (t : Nat) (ha : a < 65536) : ∀ p ∈ setL L a t, p.1 < 65536 := by
  intro p hp
  rcases List.mem_append.1 hp with hp | hp
  · exact h p (List.mem_filter.1 hp).1
  · have : p = (a, t) := by simpa using hp
    rw [this]; exact ha
theorem setL_len (L : List (Nat × Nat)) (a t : Nat) : (setL L a t).length ≤ L.length + 1 := by
  unfold setL
  rw [List.length_append]
  have := List.length_filter_le (fun p : Nat × Nat => p.1 != a) L
  simp only [dropL, List.length_cons, List.length_nil]
  omega
theorem dropL_le (L : List (Nat × Nat)) (a : Nat) : (dropL L a).length ≤ L.length := List.length_filter_le _ _
theorem restL_le (L : List (Nat × Nat)) (t : Nat) : (restL L t).length ≤ L.length := List.length_filter_le _ _
theorem Rd.krA {w w' : World} {P : Nat → Prop} {A : Option Addr} {n : Nat} {xs : List Value} (h : Rd w w.heap.size A n xs) (hk : Kr w w' P) (hA : ∀ k, blk A = some k → ¬ P k) : Rd w' w'.heap.size A n xs :=
  ⟨h.len, fun hn => by
    obtain ⟨b, off, e, hlt, hc⟩ := h.at_ hn
    exact ⟨b, off, e, Nat.lt_of_lt_of_le hlt hk.size, fun i u hu => (World.cell?_of_block (a := ⟨b, off + i, none⟩) (hk.block b hlt (hA b (by rw [e]; rfl)))).trans (hc i u hu)⟩⟩

/-- Two states' blocks apart, both made since w0, and one more block beside them. -/
structure W2 (w0 w : World) (P Q : Nat → Prop) (t : TypeId) (O : Option (Nat × Array Value)) : Prop where
  lo : ∀ k, P k → w0.heap.size ≤ k
  ro : ∀ k, Q k → w0.heap.size ≤ k
  ap : ∀ k, P k → ¬ Q k
  ex : ∀ g cs, O = some (g, cs) → ¬ P g ∧ ¬ Q g ∧ Blk w g t cs
  lt : ∀ k, P k ∨ Q k → k < w.heap.size
  bel : Below w0.heap.size w0 w
theorem W2.after {w0 w w' : World} {P Q : Nat → Prop} {t : TypeId} {O : Option (Nat × Array Value)} (h : W2 w0 w P Q t O) (hb : Below w.heap.size w w') : W2 w0 w' P Q t O :=
  ⟨h.lo, h.ro, h.ap, fun g cs e => ⟨(h.ex g cs e).1, (h.ex g cs e).2.1, (h.ex g cs e).2.2.after hb⟩, fun k hk => Nat.lt_of_lt_of_le (h.lt k hk) hb.size, h.bel.trans (hb.mono h.bel.size)⟩
theorem W2.left {w0 w w' : World} {P P' Q : Nat → Prop} {t : TypeId} {O : Option (Nat × Array Value)} (h : W2 w0 w P Q t O) (hk : Kr w w' P) (hp : ∀ k, P' k → P k ∨ w.heap.size ≤ k) (hlt : ∀ k, P' k → k < w'.heap.size) : W2 w0 w' P' Q t O := by
  refine ⟨fun k c => ?_, h.ro, fun k c hq => ?_, fun g cs e => ?_, fun k c => ?_, h.bel.trans (hk.below h.lo h.bel.size)⟩
  · rcases hp k c with c | c
    · exact h.lo k c
    · exact Nat.le_trans h.bel.size c
  · rcases hp k c with c | c
    · exact h.ap k c hq
    · have := h.lt k (.inr hq); omega
  · obtain ⟨e1, e2, e3⟩ := h.ex g cs e
    refine ⟨fun c => ?_, e2, (hk.block g e3.lt e1).trans e3⟩
    rcases hp g c with c | c
    · exact e1 c
    · have := e3.lt; omega
  · rcases c with c | c
    · exact hlt k c
    · exact Nat.lt_of_lt_of_le (h.lt k (.inr c)) hk.size
theorem W2.swap {w0 w : World} {P Q : Nat → Prop} {t : TypeId} {O : Option (Nat × Array Value)} (h : W2 w0 w P Q t O) : W2 w0 w Q P t O :=
  ⟨h.ro, h.lo, fun k c d => h.ap k d c, fun g cs e => ⟨(h.ex g cs e).2.1, (h.ex g cs e).1, (h.ex g cs e).2.2⟩, fun k c => h.lt k c.symm, h.bel⟩
theorem W2.right {w0 w w' : World} {P Q Q' : Nat → Prop} {t : TypeId} {O : Option (Nat × Array Value)} (h : W2 w0 w P Q t O) (hk : Kr w w' Q) (hp : ∀ k, Q' k → Q k ∨ w.heap.size ≤ k) (hlt : ∀ k, Q' k → k < w'.heap.size) : W2 w0 w' P Q' t O :=
  (h.swap.left hk hp hlt).swap
/-- A wheel and the reference's, both made since w0. -/
structure WR (w0 w : World) (gW gR nW nR : Nat) (L M : List (Nat × Nat)) (O : Option (Nat × Array Value)) : Prop where
  two : ∃ P Q : Nat → Prop, WS w P gW nW L ∧ RW w Q gR nR M ∧ W2 w0 w P Q 60 O
  nd : (M.map Prod.fst).Nodup
  num : ∀ p ∈ M, p.1 < 65536
theorem WR.after {w0 w w' : World} {gW gR nW nR : Nat} {L M : List (Nat × Nat)} {O : Option (Nat × Array Value)} (h : WR w0 w gW gR nW nR L M O) (hb : Below w.heap.size w w') : WR w0 w' gW gR nW nR L M O := by
  obtain ⟨P, Q, h1, h2, h3⟩ := h.two
  exact ⟨⟨P, Q, h1.after hb, h2.after hb, h3.after hb⟩, h.nd, h.num⟩
theorem WR.draw {w0 w : World} {gW gR nW nR : Nat} {L M : List (Nat × Nat)} {O : Option (Nat × Array Value)} (h : WR w0 w gW gR nW nR L M O) (q : Nat) : WR w0 (w.drewN q) gW gR nW nR L M O := h.after (below_drawn q)
theorem WR.bel {w0 w : World} {gW gR nW nR : Nat} {L M : List (Nat × Nat)} {O : Option (Nat × Array Value)} (h : WR w0 w gW gR nW nR L M O) : Below w0.heap.size w0 w := by
  obtain ⟨P, Q, h1, h2, h3⟩ := h.two
  exact h3.bel
theorem WR.blk {w0 w : World} {gW gR nW nR : Nat} {L M : List (Nat × Nat)} {g : Nat} {cs : Array Value} (h : WR w0 w gW gR nW nR L M (some (g, cs))) : Blk w g 60 cs := by
  obtain ⟨P, Q, h1, h2, h3⟩ := h.two
  exact (h3.ex g cs rfl).2.2
/-- A new block beside them. -/
theorem WR.more {w0 w w1 w' : World} {gW gR nW nR : Nat} {L M : List (Nat × Nat)} {O : Option (Nat × Array Value)} {cs0 cs : Array Value} (h : WR w0 w gW gR nW nR L M O) (L1 : Laid w w1 60 cs0) (U : Upd w1 w' w.heap.size 60 cs) : WR w0 w' gW gR nW nR L M (some (w.heap.size, cs)) := by
  obtain ⟨P, Q, h1, h2, h3⟩ := h.two
  have hb : Below w.heap.size w w' := L1.bel.trans (U.below (Nat.le_refl _))
  have h3' := h3.after hb
  refine ⟨⟨P, Q, h1.after hb, h2.after hb, ⟨h3'.lo, h3'.ro, h3'.ap, fun g cs' e => ?_, h3'.lt, h3'.bel⟩⟩, h.nd, h.num⟩
  injection e with e
  injection e with e1 e2
  subst e1 e2
  exact ⟨fun c => absurd (h3.lt _ (.inl c)) (Nat.lt_irrefl _), fun c => absurd (h3.lt _ (.inr c)) (Nat.lt_irrefl _), U.row⟩
theorem WR.less {w0 w : World} {gW gR nW nR : Nat} {L M : List (Nat × Nat)} {O : Option (Nat × Array Value)} (h : WR w0 w gW gR nW nR L M O) : WR w0 w gW gR nW nR L M none := by
  obtain ⟨P, Q, h1, h2, h3⟩ := h.two
  exact ⟨⟨P, Q, h1, h2, ⟨h3.lo, h3.ro, h3.ap, fun g cs e => (by cases e), h3.lt, h3.bel⟩⟩, h.nd, h.num⟩
/-- Ahead of DocTick: what Tick gave. -/
structure WT (w0 w : World) (gW gR t nR : Nat) (L M : List (Nat × Nat)) (O : Option (Nat × Array Value)) (A : Option Addr) (l : List Nat) : Prop where
  two : ∃ P Q : Nat → Prop, WS w P gW t L ∧ RW w Q gR nR M ∧ W2 w0 w P Q 60 O ∧ ∀ k, blk A = some k → ¬ Q k
  rd : Rd w w.heap.size A l.length (N16 l)
  len : l.length ≤ 9223372036854775807
  nd : (M.map Prod.fst).Nodup
  num : ∀ p ∈ M, p.1 < 65536
section
variable (w0 w : World) (gW gR nW nR : Nat) (L M : List (Nat × Nat)) (O : Option (Nat × Array Value)) (h : WR w0 w gW gR nW nR L M O)
include h
theorem wrSet (a inn : Nat) (hin : 1 ≤ inn ∧ inn ≤ 1000) (ha : a < 65536) (hL : L.length ≤ 100000) (hn : nW ≤ 1000000) :
    Calls Try.prog 24 #[.pointer (some ⟨gW, 0, none⟩), .int .u16 (a : Int), .int .i64 (inn : Int)] w fun e w' => e = .returned (.int .i64 0) ∧ WR w0 w' gW gR nW nR (setL L a (nW + inn)) M O := by
  obtain ⟨P, Q, h1, h2, h3⟩ := h.two
  refine (wSet w P gW nW a inn L h1 hin ha hL hn).mono ?_
  rintro e w' ⟨he, hk, P', hs, hp⟩
  exact ⟨he, ⟨⟨P', Q, hs, h2.kr hk (fun k hq hp => h3.ap k hp hq), h3.left hk hp hs.lt⟩, h.nd, h.num⟩⟩
theorem wrDocSet (a inn : Nat) (hin : inn ≤ 1000) (ha : a < 65536) (hM : M.length ≤ 100000) (hn : nR ≤ 1000000) :
    Calls Try.prog 30 #[.pointer (some ⟨gR, 0, none⟩), .int .i64 (a : Int), .int .i64 (inn : Int)] w fun e w' => e = .returned (.tuple #[]) ∧ WR w0 w' gW gR nW nR L (setL M a (nR + inn)) O := by
  obtain ⟨P, Q, h1, h2, h3⟩ := h.two
  refine (docSet w Q gR nR a inn M h2 h.nd h.num ha hM hin hn).mono ?_
  rintro e w' ⟨he, hk, Q', hs, hp⟩
  exact ⟨he, ⟨⟨P, Q', h1.kr hk h3.ap, hs, h3.right hk hp hs.lt⟩, setL_nd h.nd _ _, setL_num h.num _ ha⟩⟩
theorem wrDrop (a : Nat) (ha : a < 65536) (r : Int) (hr : r = if inL L a = true then 0 else 9) :
    Calls Try.prog 25 #[.pointer (some ⟨gW, 0, none⟩), .int .u16 (a : Int)] w fun e w' => e = .returned (.int .i64 r) ∧ WR w0 w' gW gR nW nR (dropL L a) M O := by
  obtain ⟨P, Q, h1, h2, h3⟩ := h.two
  refine (wDrop w P gW nW a L h1 ha r hr).mono ?_
  rintro e w' ⟨he, hk, hs⟩
  exact ⟨he, ⟨⟨P, Q, hs, h2.kr hk (fun k hq hp => h3.ap k hp hq), h3.left hk (fun k c => .inl c) hs.lt⟩, h.nd, h.num⟩⟩
theorem wrDocDrop (a : Nat) (ha : a < 65536) (hM : M.length ≤ 100000) :
    Calls Try.prog 31 #[.pointer (some ⟨gR, 0, none⟩), .int .i64 (a : Int)] w fun e w' => e = .returned (.bool (inL M a)) ∧ WR w0 w' gW gR nW nR L (dropL M a) O := by
  obtain ⟨P, Q, h1, h2, h3⟩ := h.two
  refine (docDrop w Q gR nR a M h2 h.nd h.num ha hM).mono ?_
  rintro e w' ⟨he, hk, Q', hs, hp⟩
  exact ⟨he, ⟨⟨P, Q', h1.kr hk h3.ap, hs, h3.right hk hp hs.lt⟩, nodup_filter_fst h.nd _, fun p hp => h.num p (List.mem_filter.1 hp).1⟩⟩
theorem wrTick (HSort : SortOk) (t : Nat) (ht : t = nW + 1) (hL : L.length < 50) (hn : nW ≤ 1000000) :
    Calls Try.prog 26 #[.pointer (some ⟨gW, 0, none⟩)] w fun e w' => ∃ A c l, e = .returned (.slice A l.length c) ∧ Due L t l ∧ WT w0 w' gW gR t nR (restL L t) M O A l := by
  obtain ⟨P, Q, h1, h2, h3⟩ := h.two
  refine (wTick HSort w P gW nW t L h1 ht hL hn).mono ?_
  rintro e w' ⟨A, c, l, he, hd, ho, hk, hs⟩
  exact ⟨A, c, l, he, hd, ⟨⟨P, Q, hs, h2.kr hk (fun k hq hp => h3.ap k hp hq), h3.left hk (fun k c => .inl c) hs.lt, fun k hk' hq => by
    have := (ho.block k (by rw [blk_own]; exact hk')).1
    have := h2.lt k hq
    omega⟩, ho.rd, by have := ho.bounds; unfold maxLen at this; omega, h.nd, h.num⟩⟩
theorem wrNow : Calls Try.prog 27 #[.pointer (some ⟨gW, 0, none⟩)] w fun e w' => e = .returned (.int .i64 (nW : Int)) ∧ w = w' := by
  obtain ⟨P, Q, h1, h2, h3⟩ := h.two
  exact wNow w P gW nW L h1
theorem wrLen : Calls Try.prog 28 #[.pointer (some ⟨gW, 0, none⟩)] w fun e w' => e = .returned (.int .i64 (L.length : Int)) ∧ w = w' := by
  obtain ⟨P, Q, h1, h2, h3⟩ := h.two
  exact wLen w P gW nW L h1
theorem wrCells : w.cell? ⟨gR, 0, none⟩ = some (.int .i64 (nR : Int)) ∧ ∃ A c, w.cell? ⟨gR, 1, none⟩ = some (.slice A M.length c) := by
  obtain ⟨P, Q, h1, h2, h3⟩ := h.two
  obtain ⟨A, c, q, _⟩ := h2.blk
  exact ⟨(q.cell 0).trans rfl, A, c, (q.cell 1).trans rfl⟩
end
theorem wrDocTick (w0 w : World) (gW gR t nR : Nat) (L M : List (Nat × Nat)) (O : Option (Nat × Array Value)) (A : Option Addr) (l : List Nat) (h : WT w0 w gW gR t nR L M O A l) (ht : t = nR + 1) (hM : M.length ≤ 1000) (hn : nR ≤ 1000000) :
    Calls Try.prog 32 #[.pointer (some ⟨gR, 0, none⟩)] w fun e w' => ∃ B c m, e = .returned (.slice B m.length c) ∧ Due M t m ∧ Rd w' w'.heap.size A l.length (N16 l) ∧ Rd w' w'.heap.size B m.length (NI m) ∧ WR w0 w' gW gR t t L (restL M t) O := by
  obtain ⟨P, Q, h1, h2, h3, h6⟩ := h.two
  refine (docTick w Q gR nR t M h2 h.nd h.num ht hM hn).mono ?_
  rintro e w' ⟨B, c, m, he, hd, ho, hk, Q', hs, hp, _⟩
  exact ⟨B, c, m, he, hd, h.rd.krA hk h6, ho.rd, ⟨⟨P, Q', h1.kr hk h3.ap, hs, h3.right hk hp hs.lt⟩, nodup_filter_fst h.nd _, fun p hp => h.num p (List.mem_filter.1 hp).1⟩⟩
/-- Both are made. -/
theorem wrStart {w0 w w1 : World} {gW : Nat} (h : LW w0 w gW 0 []) (L1 : Laid w w1 58 (rwl 0 none 0 0)) : WR w0 w1 gW w.heap.size 0 0 [] [] none := by
  obtain ⟨P, h1, h2⟩ := h.ws
  refine ⟨⟨P, fun k => k = w.heap.size, h1.after L1.bel, ⟨⟨none, 0, L1.row, OwnR.nil _ _ _ _, fun k hk => by cases hk⟩, rfl, fun k hk => by rw [hk, L1.size]; omega⟩, ⟨h2, fun k hk => by rw [hk]; exact h.bel.size, fun k hk e => by have := h1.lt k hk; omega, fun g cs e => (by cases e), fun k hk => ?_, h.bel.trans (L1.bel.mono h.bel.size)⟩⟩, by simp, fun p hp => by cases hp⟩
  rcases hk with hk | hk
  · have := h1.lt k hk; rw [L1.size]; omega
  · rw [hk, L1.size]; omega
end Go.Proofs.Ytkmacepodomdmaa
