/-
  What holds in BitioPuts's loops, and what keeps it.
-/
import Derived.Test.YtcddbcknjcedfaaPm
namespace Go.Proofs.Ytcddbcknjcedfaa
open Go.RowKit
set_option linter.unusedVariables false
set_option linter.unusedSimpArgs false

theorem OwnN.block {w : World} {base : Nat} {A : Option Addr} {n c : Nat} {ps : List (Int × Int)} (h : OwnN w base A n c ps) : ∀ k, (Value.slice A n c).ownBlock = some k → base ≤ k ∧ k < w.heap.size := h.row.lt
theorem OwnN.below {w w' : World} {base : Nat} {A : Option Addr} {n c : Nat} {ps : List (Int × Int)} (h : OwnN w base A n c ps) (hb : Below w.heap.size w w') : OwnN w' base A n c ps :=
  h.keep fun k hk => hb.block k (h.block k hk).2
theorem OwnN.bounds {w : World} {base : Nat} {A : Option Addr} {n c : Nat} {ps : List (Int × Int)} (h : OwnN w base A n c ps) : n ≤ c ∧ c ≤ maxLen := by
  rcases h.row.2 with ⟨hv, h0⟩ | ⟨g, cap, cur, hv, hb, hg, h1, h2, rest⟩
  · injection hv with _ _ h3
    subst h3; subst h0; exact ⟨Nat.le_refl _, Nat.zero_le _⟩
  · injection hv with _ _ h3
    subst h3; exact ⟨h1, h2⟩
theorem RdN.cells {w : World} {B : Nat} {A : Option Addr} {n : Nat} {ps : List (Int × Int)} (h : RdN w B A n ps) (k : Nat) (hk : k < n) :
    ∃ b off, A = some ⟨b, off, none⟩ ∧ b < B ∧ w.cell? ⟨b, off + k * 2, none⟩ = some (.int .i64 (ps.getD k (0, 0)).1) ∧ w.cell? ⟨b, off + k * 2 + 1, none⟩ = some (.int .i64 (ps.getD k (0, 0)).2) := by
  obtain ⟨b, off, e, hlt, hc⟩ := h.at_ (by omega)
  exact ⟨b, off, e, hlt, (hc k hk).1, (hc k hk).2⟩

/-- What holds ahead of each round of BitioPuts's first loop. -/
structure PuInv (w : World) (g : Nat) (Aa : Option Addr) (na ca : Nat) (Ai : Option Addr) (ni ci q : Nat) (wr : World) (Aw : Option Addr) (cw : Nat) (ps : List (Int × Int)) : Prop where
  wri : Wr wr w.heap.size g Aw na cw (bitsP ps)
  all : Own wr w.heap.size 5 Aa na ca (U8 (bitsP ps))
  inn : OwnN wr w.heap.size Ai ni ci ps
  fit : ∀ p ∈ ps, Fits p
  apart : ∀ k, (Value.slice Aw na cw).ownBlock = some k → (Value.slice Aa na ca).ownBlock ≠ some k
  bel : Below w.heap.size w wr
  few : ni ≤ q
  len : na ≤ 32 * ni
theorem PuInv.next {w : World} {g : Nat} {Aa : Option Addr} {na ca : Nat} {Ai : Option Addr} {ni ci q : Nat} {wr : World} {Aw : Option Addr} {cw : Nat} {ps : List (Int × Int)} (h : PuInv w g Aa na ca Ai ni ci q wr Aw cw ps) {W : World} (hb : Below wr.heap.size wr W) :
    PuInv w g Aa na ca Ai ni ci (q + 1) W Aw cw ps :=
  ⟨h.wri.below hb, h.all.below hb (Nat.le_refl _), h.inn.below hb, h.fit, h.apart, Below.then_ h.bel hb, Nat.le_succ_of_le h.few, h.len⟩

/-- What holds amid a round, behind Put. -/
structure PuSt (w : World) (g : Nat) (Aa : Option Addr) (na ca : Nat) (l : List Nat) (Ai : Option Addr) (ni ci : Nat) (ps : List (Int × Int)) (Aw : Option Addr) (nw cw : Nat) (lw : List Nat) (As : Option Addr) (ns cs : Nat) (pr : List Nat) (W : World) : Prop where
  all : Own W w.heap.size 5 Aa na ca (U8 l)
  inn : OwnN W w.heap.size Ai ni ci ps
  wri : Wr W w.heap.size g Aw nw cw lw
  src : Own W w.heap.size 5 As ns cs (U8 pr)
  bel : Below w.heap.size w W
  ap1 : ∀ k, (Value.slice Aw nw cw).ownBlock = some k → (Value.slice Aa na ca).ownBlock ≠ some k
  ap2 : ∀ k, (Value.slice As ns cs).ownBlock = some k → (Value.slice Aa na ca).ownBlock ≠ some k

section
variable {w : World} {g : Nat} {Aa : Option Addr} {na ca : Nat} {l : List Nat} {Ai : Option Addr} {ni ci : Nat} {ps : List (Int × Int)} {Aw : Option Addr} {nw cw : Nat} {lw : List Nat} {As : Option Addr} {ns cs : Nat} {pr : List Nat} {W W' : World}

theorem PuSt.below (h : PuSt w g Aa na ca l Ai ni ci ps Aw nw cw lw As ns cs pr W) (hb : Below W.heap.size W W') : PuSt w g Aa na ca l Ai ni ci ps Aw nw cw lw As ns cs pr W' :=
  ⟨h.all.below hb (Nat.le_refl _), h.inn.below hb, h.wri.below hb, h.src.below hb (Nat.le_refl _), Below.then_ h.bel hb, h.ap1, h.ap2⟩
theorem PuSt.alloc (h : PuSt w g Aa na ca l Ai ni ci ps Aw nw cw lw As ns cs pr W) (o : Obj) : PuSt w g Aa na ca l Ai ni ci ps Aw nw cw lw As ns cs pr (W.alloc o) :=
  h.below ((Below.refl _ _).alloc (Nat.le_refl _) o)

/-- Behind append(all, b...). -/
theorem PuSt.appA (h : PuSt w g Aa na ca l Ai ni ci ps Aw nw cw lw As ns cs pr W) {A' : Option Addr} {n' c' : Nat} {l' : List Nat} (ho : Own W' w.heap.size 5 A' n' c' (U8 l')) (hg : W.grownBy W' (Value.slice Aa na ca).ownBlock)
    (hat : (Value.slice A' n' c').ownBlock = (Value.slice Aa na ca).ownBlock ∨ (Value.slice A' n' c').ownBlock = some W.heap.size) : PuSt w g A' n' c' l' Ai ni ci ps Aw nw cw lw As ns cs pr W' := by
  have hne : ∀ k, k < W.heap.size → (Value.slice Aa na ca).ownBlock ≠ some k → W'.heap[k]? = W.heap[k]? := fun k hk hn => hg.block k hk (Ne.symm hn)
  have hbx := h.all.ne_box h.wri.box (by decide)
  refine ⟨ho, h.inn.keep fun k hk => hne k (h.inn.block k hk).2 (h.inn.ne_own h.all (by decide) k hk), ⟨h.wri.box.keep (hne g h.wri.box.lt hbx), h.wri.own.keep fun k hk => hne k (h.wri.own.block k hk).2 (h.ap1 k hk)⟩, h.src.keep fun k hk => hne k (h.src.block k hk).2 (h.ap2 k hk), h.bel.grown hg h.bel.size (fun k hk => (h.all.block k hk).1), ?_, ?_⟩
  · intro k hk hk2
    rcases hat with e | e
    · rw [e] at hk2; exact h.ap1 k hk hk2
    · rw [e] at hk2; injection hk2 with hk2; have := (h.wri.own.block k hk).2; omega
  · intro k hk hk2
    rcases hat with e | e
    · rw [e] at hk2; exact h.ap2 k hk hk2
    · rw [e] at hk2; injection hk2 with hk2; have := (h.src.block k hk).2; omega

/-- Behind append(in, x). -/
theorem PuSt.appN (h : PuSt w g Aa na ca l Ai ni ci ps Aw nw cw lw As ns cs pr W) {A' : Option Addr} {n' c' : Nat} {ps' : List (Int × Int)} (ho : OwnN W' w.heap.size A' n' c' ps') (hg : W.grownBy W' (Value.slice Ai ni ci).ownBlock) : PuSt w g Aa na ca l A' n' c' ps' Aw nw cw lw As ns cs pr W' := by
  have hne : ∀ k, k < W.heap.size → (Value.slice Ai ni ci).ownBlock ≠ some k → W'.heap[k]? = W.heap[k]? := fun k hk hn => hg.block k hk (Ne.symm hn)
  have sw : ∀ {A2 : Option Addr} {n2 c2 : Nat} {xs : List Value}, Own W w.heap.size 5 A2 n2 c2 xs → Own W' w.heap.size 5 A2 n2 c2 xs := fun {A2 n2 c2 xs} h2 => h2.keep fun k hk => hne k (h2.block k hk).2 (fun e => h.inn.ne_own h2 (by decide) k e hk)
  exact ⟨sw h.all, ho, ⟨h.wri.box.keep (hne g h.wri.box.lt (h.inn.ne_box h.wri.box (by decide))), sw h.wri.own⟩, sw h.src, h.bel.grown hg h.bel.size (fun k hk => (h.inn.block k hk).1), h.ap1, h.ap2⟩
end

/-- Behind Put. -/
theorem PuInv.put {w : World} {g : Nat} {Aa : Option Addr} {na ca : Nat} {Ai : Option Addr} {ni ci q : Nat} {wr : World} {Aw : Option Addr} {cw : Nat} {ps : List (Int × Int)} (h : PuInv w g Aa na ca Ai ni ci q wr Aw cw ps) (hgw : w.heap.size ≤ g)
    {W1 W2 : World} (hb : Below wr.heap.size wr W1) {As : Option Addr} {ns cs : Nat} {pr : List Nat} (hs : Own W1 wr.heap.size 5 As ns cs (U8 pr)) {A2 : Option Addr} {n2 c2 : Nat} {l2 : List Nat} (hw : Wr W2 w.heap.size g A2 n2 c2 l2) (hf : Fr W1 W2 g (Value.slice Aw na cw).ownBlock)
    (hat : (Value.slice A2 n2 c2).ownBlock = (Value.slice Aw na cw).ownBlock ∨ ∃ j, (Value.slice A2 n2 c2).ownBlock = some j ∧ W1.heap.size ≤ j) : PuSt w g Aa na ca (bitsP ps) Ai ni ci ps A2 n2 c2 l2 As ns cs pr W2 := by
  have w1 := h.wri.below hb
  have a1 := h.all.below hb (Nat.le_refl _)
  have i1 := h.inn.below hb
  have hsz := hb.size
  have hgl := h.wri.box.lt
  have hne : ∀ k, k < W1.heap.size → k ≠ g → (Value.slice Aw na cw).ownBlock ≠ some k → W2.heap[k]? = W1.heap[k]? := fun k hk hn hn2 => hf.block k hk hn (Ne.symm hn2)
  have hb1 := Below.then_ h.bel hb
  refine ⟨a1.keep fun k hk => hne k (a1.block k hk).2 (by rintro rfl; exact a1.ne_box w1.box (by decide) hk) (fun e => h.apart k e hk), i1.keep fun k hk => hne k (i1.block k hk).2 (by rintro rfl; exact i1.ne_box w1.box (by decide) hk) (i1.ne_own w1.own (by decide) k hk), hw,
    (hs.keep fun k hk => hne k (hs.block k hk).2 (by have := (hs.block k hk).1; omega) (fun e => by have := (hs.block k hk).1; have := (h.wri.own.block k e).2; omega)).down h.bel.size, hb1.trans (hf.below hgw (fun k hk => (h.wri.own.block k hk).1) hb1.size), ?_, ?_⟩
  · intro k hk hk2
    rcases hat with e | ⟨j, e, hj⟩
    · rw [e] at hk; exact h.apart k hk hk2
    · rw [e] at hk; injection hk with hk; have := (h.all.block k hk2).2; omega
  · intro k hk hk2
    have := (hs.block k hk).1
    have := (h.all.block k hk2).2
    omega
end Go.Proofs.Ytcddbcknjcedfaa
