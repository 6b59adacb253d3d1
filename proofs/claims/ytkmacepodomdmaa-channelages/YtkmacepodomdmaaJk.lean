/-
  Layer 19 (what is due at which tick): a map of numbers told by a list of pairs; what is due. No program.
-/
import Derived.Test.YtkmacepodomdmaaMem
import Derived.Maps.RangeWalk
namespace Go.Proofs.Ytkmacepodomdmaa
open Go.RowKit
set_option maxRecDepth 100000
set_option linter.unusedVariables false

/-- A number as a key, a tick as an element. -/
def ky (a : Nat) : Lit := .int .u16 (a : Int)
def tk (t : Nat) : DataW Unit := .lit (.int .i64 (t : Int))
theorem ky_key (a : Nat) : WideAt.IsKeyLit (ky a) := trivial
theorem ky_inj {a b : Nat} (h : ky a = ky b) : a = b := by
  unfold ky at h
  injection h with _ h
  omega
theorem ky_ne {a b : Nat} (h : a ≠ b) : ky a ≠ ky b := fun e => h (ky_inj e)

/-- D tells of the pairs of L, and of no others. -/
structure MapL (D : DataW Unit) (L : List (Nat × Nat)) : Prop where
  tidy : Maps.Tidy D
  nodup : (L.map Prod.fst).Nodup
  num : ∀ p ∈ L, p.1 < 65536
  has : ∀ a, Maps.has D (ky a) = L.any (fun p => p.1 == a)
  val : ∀ p ∈ L, ∀ z, D.atKey (ky p.1) z = tk p.2
  size : Maps.size D = L.length
theorem MapL.start : MapL (.map []) [] := ⟨Maps.tidy_empty, by simp, fun p hp => (by cases hp), fun a => rfl, fun p hp => (by cases hp), rfl⟩
/-- Without a. -/
def dropL (L : List (Nat × Nat)) (a : Nat) : List (Nat × Nat) := L.filter fun p => p.1 != a
def setL (L : List (Nat × Nat)) (a t : Nat) : List (Nat × Nat) := dropL L a ++ [(a, t)]
/-- What isn't due at a tick. -/
def restL (L : List (Nat × Nat)) (t : Nat) : List (Nat × Nat) := L.filter fun p => p.2 != t
def inL (L : List (Nat × Nat)) (a : Nat) : Bool := L.any fun p => p.1 == a
theorem any_fst (L : List (Nat × Nat)) (a : Nat) : L.any (fun p => p.1 == a) = true ↔ ∃ t, (a, t) ∈ L := by
  rw [List.any_eq_true]
  constructor
  · rintro ⟨⟨x, t⟩, hp, he⟩
    have : x = a := by simpa using he
    exact ⟨t, by rw [← this]; exact hp⟩
  · rintro ⟨t, ht⟩
    exact ⟨(a, t), ht, by simp⟩
theorem any_drop (L : List (Nat × Nat)) (a b : Nat) : (dropL L a).any (fun p => p.1 == b) = (L.any (fun p => p.1 == b) && (b != a)) := by
  induction L with
  | nil => simp [dropL]
  | cons p L ih =>
    have e : dropL (p :: L) a = if (p.1 != a) = true then p :: dropL L a else dropL L a := by simp [dropL, List.filter_cons]
    rw [e]
    by_cases h : p.1 = a
    · rw [if_neg (by simp [h]), ih, List.any_cons]
      by_cases hb : b = a
      · simp [hb]
      · have : (p.1 == b) = false := by simp; omega
        rw [this]; simp
    · rw [if_pos (by simp [h]), List.any_cons, ih, List.any_cons]
      by_cases hb : b = a
      · have : (p.1 == b) = false := by simp; omega
        rw [this]; simp
      · have : (b != a) = true := by simp [hb]
        rw [this]; simp
theorem nodup_filter_fst {L : List (Nat × Nat)} (h : (L.map Prod.fst).Nodup) (f : Nat × Nat → Bool) : ((L.filter f).map Prod.fst).Nodup :=
  h.sublist (List.filter_sublist.map Prod.fst)
theorem drop_none_of {L : List (Nat × Nat)} {a : Nat} (h : L.any (fun p => p.1 == a) = false) : dropL L a = L := by
  unfold dropL
  rw [List.filter_eq_self]
  intro p hp
  have := List.any_eq_false.1 h p hp
  simpa using this
theorem drop_len {L : List (Nat × Nat)} (h : (L.map Prod.fst).Nodup) (a : Nat) : (dropL L a).length + (if L.any (fun p => p.1 == a) = true then 1 else 0) = L.length := by
  induction L with
  | nil => simp [dropL]
  | cons p L ih =>
    have hn : (L.map Prod.fst).Nodup := (List.nodup_cons.1 (by simpa using h)).2
    have hm : p.1 ∉ L.map Prod.fst := (List.nodup_cons.1 (by simpa using h)).1
    have e : dropL (p :: L) a = if (p.1 != a) = true then p :: dropL L a else dropL L a := by simp [dropL, List.filter_cons]
    rw [e]
    by_cases hp : p.1 = a
    · have hno : L.any (fun q => q.1 == a) = false := by
        rw [List.any_eq_false]
        intro q hq he
        have : q.1 = a := by simpa using he
        exact hm (List.mem_map.2 ⟨q, hq, by omega⟩)
      rw [if_neg (by simp [hp]), drop_none_of hno, List.any_cons]
      have : (p.1 == a) = true := by simp [hp]
      rw [this]; simp
    · rw [if_pos (by simp [hp]), List.any_cons]
      have : (p.1 == a) = false := by simp [hp]
      rw [this, Bool.false_or, List.length_cons, List.length_cons]
      have := ih hn
      omega
theorem MapL.drop {D : DataW Unit} {L : List (Nat × Nat)} (h : MapL D L) (a : Nat) : MapL (D.del (ky a)) (dropL L a) := by
  refine ⟨h.tidy.del _, nodup_filter_fst h.nodup _, fun p hp => h.num p (List.mem_filter.1 hp).1, fun b => ?_, fun p hp z => ?_, ?_⟩
  · rw [any_drop]
    by_cases hb : b = a
    · subst hb; rw [Maps.has_del_same]; simp
    · rw [Maps.has_del_other (ky_ne hb), h.has]
      have : (b != a) = true := by simp [hb]
      rw [this, Bool.and_true]
  · have hp2 := List.mem_filter.1 hp
    have hne : p.1 ≠ a := by simpa using hp2.2
    rw [Maps.atKey_del_other (ky_ne hne)]
    exact h.val p hp2.1 z
  · have h1 := Maps.size_del (k := ky a) h.tidy
    have h2 := drop_len h.nodup a
    rw [h.has] at h1
    rw [h.size] at h1
    omega
theorem MapL.put {D : DataW Unit} {L : List (Nat × Nat)} (h : MapL D L) {a : Nat} (t : Nat) (ha : a < 65536) : MapL (D.put (ky a) (tk t)) (setL L a t) := by
  have hno : a ∉ (dropL L a).map Prod.fst := by
    intro hm
    obtain ⟨p, hp, e⟩ := List.mem_map.1 hm
    have := (List.mem_filter.1 hp).2
    simp [e] at this
  refine ⟨h.tidy.put (ky_key a) _, ?_, fun p hp => ?_, fun b => ?_, fun p hp z => ?_, ?_⟩
  · unfold setL
    rw [List.map_append]
    exact List.nodup_append.2 ⟨nodup_filter_fst h.nodup _, by simp, fun x hx y hy => by
      have : y = a := by simpa using hy
      rw [this]; intro e; rw [e] at hx; exact hno hx⟩
  · rcases List.mem_append.1 hp with hp | hp
    · exact h.num p (List.mem_filter.1 hp).1
    · have : p = (a, t) := by simpa using hp
      rw [this]; exact ha
  · unfold setL
    rw [List.any_append, any_drop]
    by_cases hb : b = a
    · subst hb
      rw [Maps.has_put_same h.tidy.isMap (ky_key _)]; simp
    · rw [Maps.has_put_other (ky_ne hb), h.has]
      have h1 : (b != a) = true := by simp [hb]
      have h2 : (a == b) = false := by simp; omega
      rw [h1]; simp [h2]
  · rcases List.mem_append.1 hp with hp | hp
    · have hp2 := List.mem_filter.1 hp
      have hne : p.1 ≠ a := by simpa using hp2.2
      rw [Maps.atKey_put_other (ky_ne hne)]
      exact h.val p hp2.1 z
    · have : p = (a, t) := by simpa using hp
      rw [this]
      exact Maps.atKey_put_same h.tidy.isMap (ky_key _) _ _
  · have h1 := Maps.size_put (k := ky a) h.tidy (tk t)
    have h2 := drop_len h.nodup a
    rw [h.has, h.size] at h1
    rw [h1]
    unfold setL
    rw [List.length_append]
    simp only [List.length_cons, List.length_nil]
    split at h1 <;> simp_all <;> omega
/-- Two lists that rise and have the same members are one. -/
theorem rise_uniq : ∀ {l m : List Nat}, l.Pairwise (· < ·) → m.Pairwise (· < ·) → (∀ x, x ∈ l ↔ x ∈ m) → l = m
  | [], [], _, _, _ => rfl
  | [], y :: m, _, _, h => absurd ((h y).2 List.mem_cons_self) (by simp)
  | x :: l, [], _, _, h => absurd ((h x).1 List.mem_cons_self) (by simp)
  | x :: l, y :: m, h1, h2, h => by
    obtain ⟨a1, a2⟩ := List.pairwise_cons.1 h1
    obtain ⟨b1, b2⟩ := List.pairwise_cons.1 h2
    have e : x = y := by
      rcases List.mem_cons.1 ((h x).1 List.mem_cons_self) with e | e
      · exact e
      · rcases List.mem_cons.1 ((h y).2 List.mem_cons_self) with e2 | e2
        · exact e2.symm
        · have := a1 y e2; have := b1 x e; omega
    subst e
    congr 1
    refine rise_uniq a2 b2 fun z => ?_
    constructor
    · intro hz
      rcases List.mem_cons.1 ((h z).1 (List.mem_cons_of_mem _ hz)) with e | e
      · have := a1 z hz; omega
      · exact e
    · intro hz
      rcases List.mem_cons.1 ((h z).2 (List.mem_cons_of_mem _ hz)) with e | e
      · have := b1 z hz; omega
      · exact e
/-- What is due at a tick, rising. -/
structure Due (L : List (Nat × Nat)) (t : Nat) (l : List Nat) : Prop where
  rise : l.Pairwise (· < ·)
  mem : ∀ a, a ∈ l ↔ (a, t) ∈ L
theorem Due.uniq {L : List (Nat × Nat)} {t : Nat} {l m : List Nat} (h : Due L t l) (h2 : Due L t m) : l = m := rise_uniq h.rise h2.rise fun x => (h.mem x).trans (h2.mem x).symm
/-- What has come up so far, out of those that are due: those that are not still to come. -/
structure Got (L : List (Nat × Nat)) (t : Nat) (left : Lit → Bool) (l : List Nat) : Prop where
  nodup : l.Nodup
  mem : ∀ a, a ∈ l ↔ (a, t) ∈ L ∧ left (ky a) = false
theorem fst_uniq {L : List (Nat × Nat)} (h : (L.map Prod.fst).Nodup) {a t t' : Nat} (h1 : (a, t) ∈ L) (h2 : (a, t') ∈ L) : t = t' := by
  induction L with
  | nil => cases h1
  | cons p L ih =>
    have hn : (L.map Prod.fst).Nodup := (List.nodup_cons.1 (by simpa using h)).2
    have hm : p.1 ∉ L.map Prod.fst := (List.nodup_cons.1 (by simpa using h)).1
    rcases List.mem_cons.1 h1 with e1 | e1 <;> rcases List.mem_cons.1 h2 with e2 | e2
    · rw [← e1] at e2; injection e2 with _ e2; exact e2.symm
    · exact absurd (List.mem_map.2 ⟨_, e2, by rw [← e1]⟩) hm
    · exact absurd (List.mem_map.2 ⟨_, e1, by rw [← e2]⟩) hm
    · exact ih hn e1 e2
theorem Got.start {D : DataW Unit} {L : List (Nat × Nat)} (h : MapL D L) (t : Nat) : Got L t (Maps.has D) [] :=
  ⟨by simp, fun a => ⟨fun h => (by cases h), fun ⟨h1, h2⟩ => (by rw [h.has, (any_fst L a).2 ⟨t, h1⟩] at h2; cases h2)⟩⟩
theorem sameKey_ky (a b : Nat) : (ky a).sameKey (ky b) = decide (a = b) := by
  by_cases h : a = b
  · subst h; rw [WideAt.sameKey_self (ky_key _)]; simp
  · rw [Maps.sameKey_ne (ky_ne h)]; simp [h]
theorem Got.yes {L : List (Nat × Nat)} {t x : Nat} {left : Lit → Bool} {l : List Nat} (h : Got L t left l) (hl : left (ky x) = true) (hx : (x, t) ∈ L) : Got L t (fun z => left z && !z.sameKey (ky x)) (l ++ [x]) := by
  refine ⟨List.nodup_append.2 ⟨h.nodup, by simp, fun y hy z hz => ?_⟩, fun a => ?_⟩
  · have : z = x := by simpa using hz
    rw [this]; intro e; rw [e] at hy
    have := ((h.mem x).1 hy).2
    rw [hl] at this; cases this
  · rw [List.mem_append, h.mem]
    simp only [List.mem_singleton, sameKey_ky]
    by_cases e : a = x
    · subst e; simp [hx]
    · simp [e]
theorem Got.no {L : List (Nat × Nat)} {t x c : Nat} {left : Lit → Bool} {l : List Nat} (h : Got L t left l) (hn : (L.map Prod.fst).Nodup) (hx : (x, c) ∈ L) (hc : c ≠ t) : Got L t (fun z => left z && !z.sameKey (ky x)) l := by
  refine ⟨h.nodup, fun a => ?_⟩
  rw [h.mem]
  simp only [sameKey_ky]
  by_cases e : a = x
  · subst e
    constructor
    · rintro ⟨h1, _⟩; exact absurd (fst_uniq hn hx h1) hc
    · rintro ⟨h1, _⟩; exact absurd (fst_uniq hn hx h1) hc
  · simp [e]
theorem Got.all {L : List (Nat × Nat)} {t : Nat} {left : Lit → Bool} {l : List Nat} (h : Got L t left l) (h0 : ∀ z, left z = false) : l.Nodup ∧ ∀ a, a ∈ l ↔ (a, t) ∈ L :=
  ⟨h.nodup, fun a => by rw [h.mem]; simp [h0]⟩
/-- Sorted, it is what is due. -/
theorem due_of {L : List (Nat × Nat)} {t : Nat} {l m : List Nat} (h : l.Nodup ∧ ∀ a, a ∈ l ↔ (a, t) ∈ L) (hp : m.Perm l) (hs : m.Pairwise (· ≤ ·)) : Due L t m := by
  refine ⟨?_, fun a => by rw [hp.mem_iff]; exact h.2 a⟩
  have hn : m.Nodup := hp.nodup_iff.2 h.1
  exact (List.pairwise_and_iff.2 ⟨hs, hn⟩).imp fun ⟨h1, h2⟩ => by omega
/-- Those of a list are dropped one by one. -/
theorem drop_all {L : List (Nat × Nat)} (hn : (L.map Prod.fst).Nodup) {t : Nat} {l : List Nat} (h : ∀ a, a ∈ l ↔ (a, t) ∈ L) : l.foldl dropL L = restL L t := by
  have key : ∀ (l : List Nat) (M : List (Nat × Nat)), l.foldl dropL M = M.filter fun p => !l.contains p.1 := by
    intro l
    induction l with
    | nil => intro M; exact (List.filter_eq_self.2 (fun _ _ => rfl)).symm
    | cons a l ih =>
      intro M
      rw [List.foldl_cons, ih]
      unfold dropL
      rw [List.filter_filter]
      refine List.filter_congr fun p _ => ?_
      rw [List.contains_cons]
      show (!l.contains p.1 && !(p.1 == a)) = !(p.1 == a || l.contains p.1)
      cases l.contains p.1 <;> cases (p.1 == a) <;> rfl
  rw [key]
  unfold restL
  refine List.filter_congr fun p hp => ?_
  by_cases e : p.2 = t
  · have : p.1 ∈ l := (h p.1).2 (by rw [← e]; exact hp)
    simp [e, this]
  · have : p.1 ∉ l := fun hm => e (fst_uniq hn (t := p.2) (t' := t) (by exact hp) ((h p.1).1 hm))
    simp [e, this]
theorem has_left {D : DataW Unit} {L : List (Nat × Nat)} (h : MapL D L) {x : Nat} (hx : Maps.has D (ky x) = true) : ∃ c, (x, c) ∈ L ∧ ∀ z, D.atKey (ky x) z = tk c := by
  rw [h.has] at hx
  obtain ⟨c, hc⟩ := (any_fst L x).1 hx
  exact ⟨c, hc, h.val _ hc⟩
end Go.Proofs.Ytkmacepodomdmaa
