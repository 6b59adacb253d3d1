/-
  Words for memory: a slice that reads as a list of cells; a row of the call's own; append onto it from whatever source; []byte as a string.
-/
import Derived.Test.YtoiibjblaafgpaaProg
import Derived.WalkKit
import Derived.ProofKit
import Derived.Lib.Hide
import Derived.Lib.Bytes
import Derived.Maps.AppendAt
import Derived.Test.YtoiibjblaafgpaaBm
import Derived.BigQuiet
import Derived.Deep.RegionLaw
import Derived.Deep.QuietTactic
import Derived.Deep.RegionHeld3
namespace Go.Proofs.Ytoiibjblaafgpaa
open Go.RowKit
set_option maxRecDepth 100000

/-- Bytes as cells. -/
def U8 (bs : List Nat) : List Value := bs.map fun (b : Nat) => Value.int .u8 (b : Int)
/-- Ints as cells. -/
def I64 (zs : List Int) : List Value := zs.map fun z => .int .i64 z

theorem U8_length (bs : List Nat) : (U8 bs).length = bs.length := by simp [U8]
theorem I64_length (zs : List Int) : (I64 zs).length = zs.length := by simp [I64]
theorem U8_append (a b : List Nat) : U8 (a ++ b) = U8 a ++ U8 b := by simp [U8]
theorem I64_append (a b : List Int) : I64 (a ++ b) = I64 a ++ I64 b := by simp [I64]
theorem U8_get (bs : List Nat) (i : Nat) (h : i < bs.length) : (U8 bs)[i]? = some (.int .u8 ((bs.getD i 0 : Nat) : Int)) := by
  simp [U8, h]
theorem I64_get (zs : List Int) (i : Nat) (h : i < zs.length) : (I64 zs)[i]? = some (.int .i64 (zs.getD i 0)) := by
  simp [I64, h]
theorem U8_one (bs : List Nat) : ∀ u ∈ U8 bs, u.oneCell' = true := by
  intro u hu
  obtain ⟨_, _, rfl⟩ := List.mem_map.1 hu
  rfl
theorem I64_one (zs : List Int) : ∀ u ∈ I64 zs, u.oneCell' = true := by
  intro u hu
  obtain ⟨_, _, rfl⟩ := List.mem_map.1 hu
  rfl

/-- The slice '.slice A n c' reads as the cells xs, below block B. -/
structure Rd (w : World) (B : Nat) (A : Option Addr) (n : Nat) (xs : List Value) : Prop where
  len : xs.length = n
  at_ : 0 < n → ∃ b off, A = some ⟨b, off, none⟩ ∧ b < B ∧ ∀ i u, xs[i]? = some u → w.cell? ⟨b, off + i, none⟩ = some u

theorem Rd.below {w w' : World} {B : Nat} {A : Option Addr} {n : Nat} {xs : List Value} (h : Rd w B A n xs) (hb : Below B w w') : Rd w' B A n xs :=
  ⟨h.len, fun hn => by
    obtain ⟨b, off, e, hlt, hc⟩ := h.at_ hn
    exact ⟨b, off, e, hlt, fun i u hu => (hb.cell (p := ⟨b, off + i, none⟩) hlt).trans (hc i u hu)⟩⟩
theorem Rd.up {w : World} {B B' : Nat} {A : Option Addr} {n : Nat} {xs : List Value} (h : Rd w B A n xs) (hB : B ≤ B') : Rd w B' A n xs :=
  ⟨h.len, fun hn => by
    obtain ⟨b, off, e, hlt, hc⟩ := h.at_ hn
    exact ⟨b, off, e, by omega, hc⟩⟩
theorem Rd.cell8 {w : World} {B : Nat} {A : Option Addr} {n : Nat} {bs : List Nat} (h : Rd w B A n (U8 bs)) (k : Nat) (hk : k < n) :
    ∃ b off, A = some ⟨b, off, none⟩ ∧ b < B ∧ w.cell? ⟨b, off + k, none⟩ = some (.int .u8 ((bs.getD k 0 : Nat) : Int)) := by
  obtain ⟨b, off, e, hlt, hc⟩ := h.at_ (by omega)
  exact ⟨b, off, e, hlt, hc k _ (U8_get bs k (by have := h.len; rw [U8_length] at this; omega))⟩
theorem Rd.cell64 {w : World} {B : Nat} {A : Option Addr} {n : Nat} {zs : List Int} (h : Rd w B A n (I64 zs)) (k : Nat) (hk : k < n) :
    ∃ b off, A = some ⟨b, off, none⟩ ∧ b < B ∧ w.cell? ⟨b, off + k, none⟩ = some (.int .i64 (zs.getD k 0)) := by
  obtain ⟨b, off, e, hlt, hc⟩ := h.at_ (by omega)
  exact ⟨b, off, e, hlt, hc k _ (I64_get zs k (by have := h.len; rw [I64_length] at this; omega))⟩
theorem Rd.len8 {w : World} {B : Nat} {A : Option Addr} {n : Nat} {bs : List Nat} (h : Rd w B A n (U8 bs)) : n = bs.length := by
  have := h.len; rw [U8_length] at this; exact this.symm
theorem Rd.len64 {w : World} {B : Nat} {A : Option Addr} {n : Nat} {zs : List Int} (h : Rd w B A n (I64 zs)) : n = zs.length := by
  have := h.len; rw [I64_length] at this; exact this.symm

/-- The call's own row, from block 'base' on: the slice '.slice A n c' of elements of type e, one cell each. -/
structure Own (w : World) (base : Nat) (e : TypeId) (A : Option Addr) (n c : Nat) (xs : List Value) : Prop where
  row : w.ownsRow base e 1 (.slice A n c) n xs

theorem Own.len {w : World} {base : Nat} {e : TypeId} {A : Option Addr} {n c : Nat} {xs : List Value} (h : Own w base e A n c xs) : xs.length = n := by
  have := h.row.1; simpa using this
theorem Own.rd {w : World} {base : Nat} {e : TypeId} {A : Option Addr} {n c : Nat} {xs : List Value} (h : Own w base e A n c xs) : Rd w w.heap.size A n xs := by
  refine ⟨h.len, fun hn => ?_⟩
  rcases h.row.2 with ⟨hv, h0⟩ | ⟨g, cap, cur, hv, hb, hg, rest⟩
  · omega
  · injection hv with h1 h2 h3
    subst h1
    refine ⟨g, 0, rfl, (Array.getElem?_eq_some_iff.1 hg).1, fun i u hu => ?_⟩
    have := h.row.cells (g := g) rfl i u hu
    rw [Addr.add_lit] at this
    exact this
theorem Own.bounds {w : World} {base : Nat} {e : TypeId} {A : Option Addr} {n c : Nat} {xs : List Value} (h : Own w base e A n c xs) : n ≤ c ∧ c ≤ maxLen := by
  rcases h.row.2 with ⟨hv, h0⟩ | ⟨g, cap, cur, hv, hb, hg, h1, h2, rest⟩
  · injection hv with _ _ h3
    subst h3; subst h0; exact ⟨Nat.le_refl _, Nat.zero_le _⟩
  · injection hv with _ _ h3
    subst h3; exact ⟨h1, h2⟩
theorem Own.none_ {w : World} {base : Nat} {e : TypeId} {A : Option Addr} {n c : Nat} {xs : List Value} (h : Own w base e A n c xs) : A = none → n = 0 ∧ c = 0 := by
  intro hA
  rcases h.row.2 with ⟨hv, h0⟩ | ⟨g, cap, cur, hv, rest⟩
  · injection hv with _ _ h3
    exact ⟨h0, h3⟩
  · injection hv with h1 _ _
    rw [hA] at h1; cases h1
theorem Own.below {w w' : World} {base B : Nat} {e : TypeId} {A : Option Addr} {n c : Nat} {xs : List Value} (h : Own w base e A n c xs) (hb : Below B w w') (hB : w.heap.size ≤ B) : Own w' base e A n c xs :=
  ⟨h.row.kept (row := none) ⟨hb.os, hb.tape, hb.output, hb.size, fun k hk _ => hb.block k (by omega)⟩ (by cases hv : (Value.slice A n c).ownBlock <;> simp)⟩
theorem Own.block {w : World} {base : Nat} {e : TypeId} {A : Option Addr} {n c : Nat} {xs : List Value} (h : Own w base e A n c xs) : ∀ k, (Value.slice A n c).ownBlock = some k → base ≤ k ∧ k < w.heap.size := h.row.lt
theorem Own.down {w : World} {base base' : Nat} {e : TypeId} {A : Option Addr} {n c : Nat} {xs : List Value} (h : Own w base e A n c xs) (hb : base' ≤ base) : Own w base' e A n c xs := by
  refine ⟨h.row.1, ?_⟩
  rcases h.row.2 with h1 | ⟨g, cap, cur, hv, hbg, rest⟩
  · exact .inl h1
  · exact .inr ⟨g, cap, cur, hv, by omega, rest⟩
theorem Own.nil (w : World) (base : Nat) (e : TypeId) : Own w base e none 0 0 [] := ⟨World.ownsRow_nil w base e 1⟩

theorem Own.to {w : World} {base : Nat} {e : TypeId} {A : Option Addr} {n n' c : Nat} {xs xs' : List Value} (h : Own w base e A n c xs) (hn : n = n') (hx : xs = xs') : Own w base e A n' c xs' := by subst hn hx; exact h
theorem slice_len {A : Option Addr} {n n' c : Nat} (h : n = n') : Value.slice A n c = .slice A n' c := by rw [h]

/-- One place of the call's own row: what it holds; what a store leaves. -/
theorem Own.slot {w : World} {base : Nat} {e : TypeId} {A : Option Addr} {n c : Nat} {xs : List Value} (h : Own w base e A n c xs) (p : Nat) (hp : p < n) :
    ∃ g, A = some ⟨g, 0, none⟩ ∧ base ≤ g ∧ g < w.heap.size ∧ w.cell? ⟨g, p, none⟩ = xs[p]? ∧ w.frozen? ⟨g, p, none⟩ = false ∧ ∀ u, Own (w.setCell ⟨g, p, none⟩ u) base e A n c (xs.set p u) := by
  have h0 := h.row
  rcases h.row.2 with ⟨hv, hn⟩ | ⟨g, cap, cur, hv, hb, hg, rest⟩
  · omega
  · injection hv with h1 h2 h3
    subst h1
    exact ⟨g, rfl, hb, (Array.getElem?_eq_some_iff.1 hg).1, h0.cellAt p (by omega), h0.frozenAt p, fun u => ⟨(h0.stored p u).1⟩⟩
theorem U8_set (bs : List Nat) (p x : Nat) : (U8 bs).set p (.int .u8 (x : Int)) = U8 (bs.set p x) := by simp [U8, List.map_set]

theorem slice_of_own {w : World} {base : Nat} {e : TypeId} {v : Value} {n : Nat} {xs : List Value} (h : w.ownsRow base e 1 v n xs) : ∃ A c, v = .slice A n c := by
  rcases h.2 with ⟨hv, h0⟩ | ⟨g, cap, cur, hv, rest⟩
  · exact ⟨none, 0, by rw [hv, h0]⟩
  · exact ⟨_, _, hv⟩

section
variable {P : Program} (w : World)
/-- append onto a row of the call's own, from whatever source. -/
theorem run_app (base : Nat) (t ty e : TypeId) (i : TypeInfo) (z : Value) (bytes : Nat) (ht : P.underlying t = some (.slice e)) (hi : P.info? e = some i) (hz : i.zero = some z)
    (hsize : i.size = 1) (hby : i.bytes = bytes) (hzs : z.cells.size = 1)
    (A : Option Addr) (n c : Nat) (xs : List Value) (hown : Own w base e A n c xs)
    (B : Nat) (A2 : Option Addr) (m c2 : Nat) (ys : List Value) (hr : Rd w B A2 m ys) (hnone : A2 = none → m = 0 ∧ c2 = 0) (h1 : ∀ u ∈ ys, u.oneCell' = true)
    (hbytes : (n + m) * bytes ≤ 140737488355328) (h63 : n + m ≤ maxLen) (hbase : base ≤ w.heap.size) :
    ∃ A' c' w', (Builtin.append_ #[t, t] ty #[.slice A n c, .slice A2 m c2]).run P w = .ok (.slice A' (n + m) c') w' ∧ Own w' base e A' (n + m) c' (xs ++ ys) ∧ w.grownBy w' (Value.slice A n c).ownBlock := by
  have hl := hr.len
  cases A2 with
  | none =>
    obtain ⟨rfl, rfl⟩ := hnone rfl
    have hy : ys = [] := List.eq_nil_of_length_eq_zero hl
    subst hy
    refine ⟨A, c, w, run_append_owned_none (P := P) w base t ty e i 1 ht hi _ n xs hown.row, ⟨by simpa using hown.row⟩, World.grownBy.refl w _⟩
  | some ad =>
    have hcells : ∀ j u, ys[j]? = some u → w.cell? (ad.add j) = some u := by
      intro j u hu
      have hj : j < ys.length := (List.getElem?_eq_some_iff.1 hu).1
      obtain ⟨b, off, e1, _, hc⟩ := hr.at_ (by omega)
      injection e1 with e1
      subst e1
      rw [Addr.add_lit]
      exact hc j u hu
    obtain ⟨v', w', hrun, h2, h3, _⟩ := run_append_own (P := P) w base t ty e i z 1 bytes ht hi hz hsize hby hzs (by omega) (.slice A n c) n xs hown.row ad m c2 ys (by omega) hcells h1 h63 hbytes hbase
    obtain ⟨A', c', rfl⟩ := slice_of_own h2
    exact ⟨A', c', w', hrun, ⟨h2⟩, h3⟩

theorem wpList_app {ops : Array Oper} {rest : List Oper} {o : Oper} {a : Act} {Q : Exit → Act → World → Prop} (hgd : o.guard = none) (s x : Operand) (t : TypeId)
    (ho : o.op = .call { callee := .builtin .append, args := #[s, x], argTypes := #[t, t] })
    (base : Nat) (e : TypeId) (i : TypeInfo) (z : Value) (bytes : Nat) (ht : P.underlying t = some (.slice e)) (hi : P.info? e = some i) (hz : i.zero = some z)
    (hsize : i.size = 1) (hby : i.bytes = bytes) (hzs : z.cells.size = 1)
    (A : Option Addr) (n c : Nat) (xs : List Value) (hs : a.eval s = .slice A n c) (hown : Own w base e A n c xs)
    (B : Nat) (A2 : Option Addr) (m c2 : Nat) (ys : List Value) (hx : a.eval x = .slice A2 m c2) (hr : Rd w B A2 m ys) (hnone : A2 = none → m = 0 ∧ c2 = 0) (h1 : ∀ u ∈ ys, u.oneCell' = true)
    (hbytes : (n + m) * bytes ≤ 140737488355328) (h63 : n + m ≤ maxLen) (hbase : base ≤ w.heap.size)
    (h : ∀ A' c' w', Own w' base e A' (n + m) c' (xs ++ ys) → w.grownBy w' (Value.slice A n c).ownBlock → wpList P ops Q rest (a.put o.dst (.slice A' (n + m) c')) w') : wpList P ops Q (o :: rest) a w := by
  refine wpList_plain hgd fun K hK => ?_
  obtain ⟨A', c', w', hrun, h2, h3⟩ := run_app (P := P) w base t o.type e i z bytes ht hi hz hsize hby hzs A n c xs hown B A2 m c2 ys hr hnone h1 hbytes h63 hbase
  unfold Oper.wp execOp
  simp only [ho, resolve, invoke, builtin, Sem.run_bind, Sem.run_pure, Result.andThen_ok, List.map_toArray, List.map_cons, List.map_nil, hs, hx, hrun]
  exact hK _ _ (h A' c' w' h2 h3)
end

theorem info5 : (Try.prog.info? 5).map (fun i => (i.zero, i.size, i.bytes)) = some (some (.int .u8 0), 1, 1) := by kernel_rfl
theorem info3 : (Try.prog.info? 3).map (fun i => (i.zero, i.size, i.bytes)) = some (some (.int .i64 0), 1, 8) := by kernel_rfl

/-- A new block of one cell reads as that cell. -/
theorem rd_new (w : World) (t : TypeId) (u : Value) : Rd (w.alloc (.cells #[u] t)) (w.heap.size + 1) (some ⟨w.heap.size, 0, none⟩) 1 [u] := by
  refine ⟨rfl, fun _ => ⟨w.heap.size, 0, rfl, by omega, fun i v hv => ?_⟩⟩
  cases i with
  | zero => simp at hv; subst hv; simp
  | succ i => simp at hv

section
variable {ops : Array Oper} {rest : List Oper} {o : Oper} {a : Act} {Q : Exit → Act → World → Prop}
/-- 'l = append(l, x)', l a []byte of the call's own. -/
theorem app8 (w : World) (hgd : o.guard = none) (s x : Operand) (ho : o.op = .call { callee := .builtin .append, args := #[s, x], argTypes := #[26, 26] })
    (base : Nat) (A : Option Addr) (n c : Nat) (bs : List Nat) (b : Nat) (z : Int) (hz : z = (b : Int)) (hs : a.eval s = .slice A n c) (hown : Own w base 5 A n c (U8 bs))
    (hx : a.eval x = .slice (some ⟨w.heap.size, 0, none⟩) 1 1) (hn : n ≤ 1000000) (hbase : base ≤ w.heap.size)
    (h : ∀ A' c' w', Own w' base 5 A' (n + 1) c' (U8 (bs ++ [b])) → w.grownBy w' (Value.slice A n c).ownBlock → wpList Try.prog ops Q rest (a.put o.dst (.slice A' (n + 1) c')) w') :
    wpList Try.prog ops Q (o :: rest) a (w.alloc (.cells #[.int .u8 z] 5)) := by
  subst hz
  obtain ⟨i0, hi0, hz0, hz1, hz2⟩ := info_parts info5
  refine wpList_app _ hgd s x 26 ho base 5 i0 _ 1 Try.underlying26 hi0 hz0 hz1 hz2 rfl A n c (U8 bs) hs (hown.below (B := w.heap.size) ((Below.refl _ _).alloc (Nat.le_refl _) _) (Nat.le_refl _)) _ _ 1 1 [.int .u8 (b : Int)] hx (rd_new w 5 _) (by simp) (by simp [Value.oneCell']) (by omega) (by unfold maxLen; omega) (by simp; omega) ?_
  intro A' c' w' h1 h2
  rw [show [Value.int .u8 (b : Int)] = U8 [b] from rfl, ← U8_append] at h1
  refine h A' c' w' h1 ⟨h2.os, h2.tape, h2.output, Nat.le_trans (by simp) h2.size, fun k hk hne => (h2.block k (by simp; omega) hne).trans (Below.heap_alloc _ _ _ hk)⟩
/-- 'l = append(l, x)', l a []int of the call's own. -/
theorem app64 (w : World) (hgd : o.guard = none) (s x : Operand) (ho : o.op = .call { callee := .builtin .append, args := #[s, x], argTypes := #[42, 42] })
    (base : Nat) (A : Option Addr) (n c : Nat) (zs : List Int) (z : Int) (hs : a.eval s = .slice A n c) (hown : Own w base 3 A n c (I64 zs))
    (hx : a.eval x = .slice (some ⟨w.heap.size, 0, none⟩) 1 1) (hn : n ≤ 1000000) (hbase : base ≤ w.heap.size)
    (h : ∀ A' c' w', Own w' base 3 A' (n + 1) c' (I64 (zs ++ [z])) → w.grownBy w' (Value.slice A n c).ownBlock → wpList Try.prog ops Q rest (a.put o.dst (.slice A' (n + 1) c')) w') :
    wpList Try.prog ops Q (o :: rest) a (w.alloc (.cells #[.int .i64 z] 3)) := by
  obtain ⟨i0, hi0, hz0, hz1, hz2⟩ := info_parts info3
  refine wpList_app _ hgd s x 42 ho base 3 i0 _ 8 Try.underlying42 hi0 hz0 hz1 hz2 rfl A n c (I64 zs) hs (hown.below (B := w.heap.size) ((Below.refl _ _).alloc (Nat.le_refl _) _) (Nat.le_refl _)) _ _ 1 1 [.int .i64 z] hx (rd_new w 3 _) (by simp) (by simp [Value.oneCell']) (by omega) (by unfold maxLen; omega) (by simp; omega) ?_
  intro A' c' w' h1 h2
  rw [show [Value.int .i64 z] = I64 [z] from rfl, ← I64_append] at h1
  refine h A' c' w' h1 ⟨h2.os, h2.tape, h2.output, Nat.le_trans (by simp) h2.size, fun k hk hne => (h2.block k (by simp; omega) hne).trans (Below.heap_alloc _ _ _ hk)⟩
end

/-- What a call gives that makes a []byte. -/
def Made (w : World) (bs : List Nat) (e : Ending) (w' : World) : Prop := ∃ A n c, e = .returned (.slice A n c) ∧ Own w' w.heap.size 5 A n c (U8 bs) ∧ Below w.heap.size w w'

set_option linter.unusedVariables false
/-- Bytes as a string. -/
def str (bs : List Nat) : ByteArray := strOfNums (bs.map fun (b : Nat) => (b : Int))
theorem Own.conv {w : World} {base : Nat} {A : Option Addr} {n c : Nat} {bs : List Nat} (h : Own w base 5 A n c (U8 bs)) (W : World) (hb : Below w.heap.size w W) :
    (convert 26 9 (.slice A n c)).run Try.prog W = .ok (.string (str bs)) W := by
  have hl : n = bs.length := by have := h.len; rw [U8_length] at this; exact this.symm
  rcases h.row.2 with ⟨hv, h0⟩ | ⟨g, cap, cur, hv, hbg, hg, rest⟩
  · injection hv with h1 h2 h3
    subst h1
    have hbs : bs = [] := List.eq_nil_of_length_eq_zero (by omega)
    subst hbs
    exact run_convert_bytes_nil W 26 5 Try.underlying26 Try.underlying5 n c 9 Try.underlying9
  · injection hv with h1 h2 h3
    subst h1
    refine run_convert_bytes_arg W 26 5 Try.underlying26 Try.underlying5 g 0 n c _ (by simp [hl]) (fun i hi => ?_) 9 Try.underlying9
    have hlt : g < w.heap.size := (Array.getElem?_eq_some_iff.1 hg).1
    rw [hb.cell (p := ⟨g, 0 + i, none⟩) hlt]
    have := h.row.cells (g := g) rfl i _ (U8_get bs i (by omega))
    rw [Addr.add_lit] at this
    rw [this]
    simp [List.getD, show i < bs.length by omega]
theorem rd_one (w : World) (b : Nat) (z : Int) (hz : z = (b : Int)) : Rd (w.alloc (.cells #[.int .u8 z] 5)) (w.alloc (.cells #[.int .u8 z] 5)).heap.size (some ⟨w.heap.size, 0, none⟩) 1 (U8 [b]) := by
  subst hz
  exact (rd_new w 5 _).up (by simp)
theorem below_drawn {B : Nat} {w : World} (m : Nat) : Below B w (w.drewN m) := ⟨rfl, rfl, rfl, Nat.le_refl _, fun _ _ => rfl⟩
theorem Own.rdOf {w w' : World} {base : Nat} {e : TypeId} {A : Option Addr} {n c : Nat} {xs : List Value} (h : Own w base e A n c xs) (hb : Below w.heap.size w w') : Rd w' w'.heap.size A n xs :=
  (h.rd.below hb).up hb.size
theorem Below.then_ {w w1 w2 : World} (h : Below w.heap.size w w1) (h2 : Below w1.heap.size w1 w2) : Below w.heap.size w w2 := h.trans (h2.mono h.size)
theorem bit256 {l : List Nat} (h : ∀ b ∈ l, b ≤ 1) : ∀ b ∈ l, b < 256 := fun b hb => by have := h b hb; omega
theorem Rd.cut64 {w : World} {B : Nat} {A : Option Addr} {n : Nat} {zs : List Int} (h : Rd w B A n (I64 zs)) (k : Nat) (hk : k ≤ n) : Rd w B A k (I64 (zs.take k)) := by
  refine ⟨?_, fun h0 => ?_⟩
  · have := h.len
    rw [I64_length] at *
    rw [List.length_take]; omega
  · obtain ⟨b, off, e, hlt, hc⟩ := h.at_ (by omega)
    refine ⟨b, off, e, hlt, fun i u hu => hc i u ?_⟩
    unfold I64 at *
    rw [List.map_take, List.getElem?_take] at hu
    split at hu
    · exact hu
    · cases hu
theorem take_step (f : List Nat → Nat) (g : Nat → Nat → Nat) (hf : ∀ l x, f (l ++ [x]) = g (f l) x) (bs : List Nat) (k : Nat) (h : k < bs.length) : f (bs.take (k + 1)) = g (f (bs.take k)) (bs.getD k 0) := by
  rw [List.take_succ_eq_append_getElem h, hf, Bm.getD_lt _ _ _ h]
theorem Rd.cut8 {w : World} {B : Nat} {A : Option Addr} {n : Nat} {bs : List Nat} (h : Rd w B A n (U8 bs)) (k : Nat) (hk : k ≤ n) : Rd w B A k (U8 (bs.take k)) := by
  refine ⟨?_, fun h0 => ?_⟩
  · have := h.len
    rw [U8_length] at *
    rw [List.length_take]; omega
  · obtain ⟨b, off, e, hlt, hc⟩ := h.at_ (by omega)
    refine ⟨b, off, e, hlt, fun i u hu => hc i u ?_⟩
    unfold U8 at *
    rw [List.map_take, List.getElem?_take] at hu
    split at hu
    · exact hu
    · cases hu
theorem min_if (n K : Nat) : ∃ k : Nat, k ≤ K ∧ k ≤ n ∧ ∀ z : Int, z = (K : Int) → (if z < (n : Int) then z else (n : Int)) = (k : Int) ∧ min (n : Int) z = (k : Int) := by
  by_cases h : K < n
  · exact ⟨K, Nat.le_refl _, by omega, fun z hz => ⟨by rw [if_pos (by omega)]; exact hz, by omega⟩⟩
  · exact ⟨n, by omega, Nat.le_refl _, fun z hz => ⟨by rw [if_neg (by omega)], by omega⟩⟩
theorem take256 {bs : List Nat} (h : ∀ b ∈ bs, b < 256) (k : Nat) : ∀ b ∈ bs.take k, b < 256 := fun b hb => h b (List.mem_of_mem_take hb)
/-- The run of 'string(b)', under a name that the walk does not open. -/
noncomputable def convO (A : Option Addr) (n c : Nat) (W : World) : Result Value := (convert 26 9 (.slice A n c)).run Try.prog W
theorem convO_eq (A : Option Addr) (n c : Nat) (W : World) : (convert 26 9 (.slice A n c)).run Try.prog W = convO A n c W := rfl
theorem Own.convO {w : World} {base : Nat} {A : Option Addr} {n c : Nat} {bs : List Nat} (h : Own w base 5 A n c (U8 bs)) (W : World) (hb : Below w.heap.size w W) :
    Ytoiibjblaafgpaa.convO A n c W = .ok (.string (str bs)) W := h.conv W hb
theorem ret_bool {a b : Bool} (h : a = b) : Ending.returned (.bool a) = .returned (.bool b) := by rw [h]
theorem ret_int' {k : IntKind} {a b : Int} (h : a = b) : Ending.returned (.int k a) = .returned (.int k b) := by rw [h]
theorem ret2' {k : IntKind} {x y : Int} {c : Bool} (h : x = y) : Ending.returned (.tuple #[.int k x, .bool c]) = .returned (.tuple #[.int k y, .bool c]) := by rw [h]
theorem bit_u8 (b k : Nat) (hb : b < 256) : bits BinOp.and IntKind.u8 ((b : Int) / 2 ^ k) 1 = ((b / 2 ^ k % 2 : Nat) : Int) := by
  have e : ((b : Int) / 2 ^ k) = ((b / 2 ^ k : Nat) : Int) := by simp
  have hle : b / 2 ^ k ≤ b := Nat.div_le_self _ _
  rw [e, show (1 : Int) = ((1 : Nat) : Int) from rfl, u8_and_nat _ _ (by omega) (by omega), nat_mask1]
theorem bit_u8_one (x : Nat) (hx : x < 256) : bits BinOp.and IntKind.u8 (x : Int) 1 = ((x % 2 : Nat) : Int) := by
  have := bit_u8 x 0 hx
  simpa using this
theorem made8 (N : Nat) : (madeCells (Value.int .u8 0).cells (N * 1)).toList = U8 (List.replicate N 0) := by
  show (madeCells #[Value.int .u8 0] (N * 1)).toList = _
  rw [toList_madeCells_one, Nat.mul_one]
  simp [U8]
section
variable {ops : Array Oper} {o : Oper} {a : Act} {K : Act → World → Prop} {Q : Exit → Act → World → Prop} {E : Prop}
/-- 'append(l, x)' in a region that draws: l a []byte of the call's own. -/
theorem step_app8 (w : World) (hgd : o.guard = none) (s x : Operand) (ho : o.op = .call { callee := .builtin .append, args := #[s, x], argTypes := #[26, 26] })
    (base : Nat) (A : Option Addr) (n c : Nat) (bs : List Nat) (b : Nat) (z : Int) (hz : z = (b : Int)) (hs : a.eval s = .slice A n c) (hown : Own w base 5 A n c (U8 bs))
    (hx : a.eval x = .slice (some ⟨w.heap.size, 0, none⟩) 1 1) (hn : n ≤ 1000000) (hbase : base ≤ w.heap.size)
    (h : ∀ A' c' w', Own w' base 5 A' (n + 1) c' (U8 (bs ++ [b])) → w.grownBy w' (Value.slice A n c).ownBlock → ((Value.slice A' (n + 1) c').ownBlock = (Value.slice A n c).ownBlock ∨ (Value.slice A' (n + 1) c').ownBlock = some (w.heap.size + 1)) → K (a.put o.dst (.slice A' (n + 1) c')) w') :
    if Region.wanted o (yielded ops a.tmps) = true then Oper.wp Try.prog o a (w.alloc (.cells #[.int .u8 z] 5)) K Q else E := by
  subst hz
  obtain ⟨i0, hi0, hz0, hz1, hz2⟩ := info_parts info5
  have hw : Region.wanted o (yielded ops a.tmps) = true := by simp [Region.wanted, hgd]
  rw [if_pos hw]
  have own2 := hown.below (B := w.heap.size) ((Below.refl _ _).alloc (Nat.le_refl _) (.cells #[.int .u8 (b : Int)] 5)) (Nat.le_refl _)
  obtain ⟨v', w', hrun, h2, h3, _, h5⟩ := run_append_own_at (P := Try.prog) (w.alloc (.cells #[.int .u8 (b : Int)] 5)) base 26 o.type 5 i0 _ 1 1 Try.underlying26 hi0 hz0 hz1 hz2 rfl (by omega) (.slice A n c) n (U8 bs) own2.row ⟨w.heap.size, 0, none⟩ 1 1 [.int .u8 (b : Int)] rfl
    (by intro j u hj; match j, hj with | 0, hj => (simp at hj; subst hj; simp [Addr.add])) (by simp [Value.oneCell']) (by unfold maxLen; omega) (by omega) (by simp; omega)
  obtain ⟨A', c', rfl⟩ := slice_of_own h2
  unfold Oper.wp execOp
  simp only [ho, resolve, invoke, builtin, Sem.run_bind, Sem.run_pure, Result.andThen_ok, List.map_toArray, List.map_cons, List.map_nil, hs, hx, hrun]
  refine h A' c' w' ⟨?_⟩ ⟨h3.os, h3.tape, h3.output, Nat.le_trans (by simp) h3.size, fun k hk hne => (h3.block k (by simp; omega) hne).trans (Below.heap_alloc _ _ _ hk)⟩ ?_
  · rw [U8_append]; exact h2
  · simpa using h5
end
theorem str_list (bs : List Nat) : (str bs).toList = bs.map UInt8.ofNat := by
  unfold str
  rw [Lib.strOfNums_toList]
  simp [Lib.bytesOf]
theorem str_inj {a b : List Nat} (ha : ∀ x ∈ a, x < 256) (hb : ∀ x ∈ b, x < 256) (h : (str a).toList = (str b).toList) : a = b := by
  rw [str_list, str_list] at h
  have key : ∀ (a b : List Nat), (∀ x ∈ a, x < 256) → (∀ x ∈ b, x < 256) → a.map UInt8.ofNat = b.map UInt8.ofNat → a = b := by
    intro a
    induction a with
    | nil => intro b _ _ h; cases b with
      | nil => rfl
      | cons y b => simp at h
    | cons x a ih => intro b h1 h2 h; cases b with
      | nil => simp at h
      | cons y b =>
        simp only [List.map_cons, List.cons.injEq] at h
        have e : x = y := by
          have := congrArg UInt8.toNat h.1
          have hx := h1 x List.mem_cons_self
          have hy := h2 y List.mem_cons_self
          simp at this; omega
        subst e
        rw [ih b (fun z hz => h1 z (List.mem_cons_of_mem _ hz)) (fun z hz => h2 z (List.mem_cons_of_mem _ hz)) h.2]
  exact key a b ha hb h
theorem str_ne {a b : List Nat} (ha : ∀ x ∈ a, x < 256) (hb : ∀ x ∈ b, x < 256) (h : a ≠ b) : ((str a).toList == (str b).toList) = false := by
  rw [Bool.eq_false_iff]
  intro hc
  exact h (str_inj ha hb (by simpa using hc))
theorem append_lt {a b : List Nat} (ha : ∀ x ∈ a, x < 256) (hb : ∀ x ∈ b, x < 256) : ∀ x ∈ a ++ b, x < 256 := fun x hx => (List.mem_append.1 hx).elim (ha x) (hb x)
/-- A new block of cells reads as these. -/
theorem rd_block (w : World) (t : TypeId) (cs : Array Value) (m : Nat × Nat) (xs : List Value) (n : Nat) (hn : cs.size = n) (h : cs.toList = xs) : Rd (w.alloc (.cells cs t m)) (w.alloc (.cells cs t m)).heap.size (some ⟨w.heap.size, 0, none⟩) n xs := by
  subst hn
  refine ⟨by rw [← h, Array.length_toList], fun _ => ⟨w.heap.size, 0, rfl, by simp, fun i v hv => ?_⟩⟩
  subst h
  rw [Array.getElem?_toList] at hv
  show (World.cell? _ _) = _
  simp only [World.cell?, World.alloc, Nat.zero_add, Array.getElem?_push_size]
  exact hv
theorem wrap_u64 (a : Int) : ∃ u : Nat, u < 18446744073709551616 ∧ IntKind.u64.wrap a = (u : Int) := by
  have h : IntKind.u64.wrap a = a % 18446744073709551616 := IntKind.wrap_u64 a
  refine ⟨(a % 18446744073709551616).toNat, by omega, ?_⟩
  rw [h]; omega
theorem wpAnyH_to {P : Program} {ops : Array Oper} {Q : Exit → Act → World → Prop} {md : Region.Mode} {S S' : World → Prop} (h : ∀ W, S' W → S W) :
    ∀ (fuel : Nat) (listed : Array Bool) (a : Act) (w : World), wpAnyH P md ops Q S' fuel listed a w → wpAnyH P md ops Q S fuel listed a w
  | 0, _, _, _, hh => hh
  | fuel + 1, _, _, _, hh => ⟨hh.1, fun i hi => wpOp_mono (fun a' w' h' => ⟨h _ h'.1, wpAnyH_to h fuel _ a' w' h'.2⟩) (hh.2 i hi)⟩
end Go.Proofs.Ytoiibjblaafgpaa
