/-
  The library's sort at numbers of 16 bits: the pivot; patterns broken.
-/
import Derived.Test.YtkmacepodomdmaaOc
import Derived.Test.YtkmacepodomdmaaOn
import Derived.Laws.Bits64
import Derived.Laws.Bits64b
namespace Go.Proofs.Ytkmacepodomdmaa
open Go.RowKit
set_option maxRecDepth 100000
open Go.Sort (swp PermIn SortedIn SWO Holds putRow mapBlock)
set_option linter.unusedVariables false
set_option linter.unusedSimpArgs false

theorem SR.fam {w0 w : World} {g off n : Nat} {d : Array Nat} {G : Nat → Nat} (h : SR w0 g off n w d) (hG : ∀ t, G t = d[t]!) :
    (∀ t, t < n → w.cell? ⟨g, off + t, none⟩ = some (.int .u16 ((G t : Nat) : Int))) ∧ (∀ t, t < n → w.frozen? ⟨g, off + t, none⟩ = false) :=
  ⟨fun t ht => by rw [hG]; exact h.cell t ht, fun t ht => h.froz t ht⟩

/-- One cell of block B holds u; all else that lay in w0 is as it was. -/
structure Bx1 (w0 w : World) (B : Nat) (u : Value) : Prop where
  gr : w0.grownBy w (some B)
  cell : w.cell? ⟨B, 0, none⟩ = some u
  froz : w.frozen? ⟨B, 0, none⟩ = false
section
variable {w0 w w' : World} {B : Nat} {u u' : Value}
theorem Bx1.then_ (h : Bx1 w0 w B u) (h2 : Bx1 w w' B u') : Bx1 w0 w' B u' :=
  ⟨⟨h2.gr.os.trans h.gr.os, h2.gr.tape.trans h.gr.tape, h2.gr.output.trans h.gr.output, Nat.le_trans h.gr.size h2.gr.size, fun k hk hne => (h2.gr.block k (Nat.lt_of_lt_of_le hk h.gr.size) hne).trans (h.gr.block k hk hne)⟩, h2.cell, h2.froz⟩
theorem Bx1.draw (h : Bx1 w0 w B u) (q : Nat) : Bx1 w0 (w.drewN q) B u := ⟨⟨h.gr.os, h.gr.tape, h.gr.output, h.gr.size, h.gr.block⟩, h.cell, h.froz⟩
theorem Bx1.put (h : Bx1 w0 w B u) (u' : Value) : Bx1 w0 (w.setCell ⟨B, 0, none⟩ u') B u' := by
  refine ⟨⟨h.gr.os, h.gr.tape, h.gr.output, by simpa [World.setCell] using h.gr.size, fun k hk hne => ?_⟩, World.cell?_setCell_same _ _ _ h.cell, (World.frozen?_setCell _ _ _ _).trans h.froz⟩
  rw [Below.heap_setCell w ⟨B, 0, none⟩ u' k (fun e => hne (by rw [e]))]
  exact h.gr.block k hk hne
theorem Bx1.refl (h : w.cell? ⟨B, 0, none⟩ = some u) (hf : w.frozen? ⟨B, 0, none⟩ = false) : Bx1 w w B u := ⟨World.grownBy.refl w _, h, hf⟩
theorem Bx1.self (h : Bx1 w0 w B u) : Bx1 w w B u := Bx1.refl h.cell h.froz
theorem Bx1.fam {g off n : Nat} {G : Nat → Nat} (h : Bx1 w0 w B u) (hg : g < w0.heap.size) (hne : g ≠ B) (hc : ∀ t, t < n → w0.cell? ⟨g, off + t, none⟩ = some (.int .u16 ((G t : Nat) : Int))) :
    ∀ t, t < n → w.cell? ⟨g, off + t, none⟩ = some (.int .u16 ((G t : Nat) : Int)) := fun t ht => by
  rw [World.cell?_of_block (a := ⟨g, off + t, none⟩) (h.gr.block g hg (fun e => hne (by injection e)))]
  exact hc t ht
theorem Bx1.new (w : World) (u : Value) (T : TypeId) : Bx1 (w.alloc (.cells #[u] T)) (w.alloc (.cells #[u] T)) w.heap.size u := Bx1.refl (by simp) (by simp)
/-- Since ahead of the block: nothing that lay there has changed. -/
theorem Bx1.below {o : Obj} (h : Bx1 (w.alloc o) w' w.heap.size u) : Below w.heap.size w w' := by
  refine ⟨h.gr.os, h.gr.tape, h.gr.output, Nat.le_trans (by simp) h.gr.size, fun k hk => ?_⟩
  rw [h.gr.block k (by simp; omega) (fun e => by injection e with e; omega)]
  exact Below.heap_alloc _ _ _ hk
end

set_option maxHeartbeats 1000000 in
/-- slices.order2Ordered. -/
theorem ord2C (g off n cap a b B S : Nat) (G : Nat → Nat) (w : World) (hcw : ∀ t, t < n → w.cell? ⟨g, off + t, none⟩ = some (.int .u16 ((G t : Nat) : Int))) (ha : a < n) (hb : b < n) (hB : w.cell? ⟨B, 0, none⟩ = some (.int .i64 (S : Int))) (hf : w.frozen? ⟨B, 0, none⟩ = false) (hS : S < 100) (hn : n < 1000000) :
    Calls Try.prog 109 #[.slice (some ⟨g, off, none⟩) n cap, .int .i64 (a : Int), .int .i64 (b : Int), .pointer (some ⟨B, 0, none⟩)] w fun e w' =>
      ∃ x y S' : Nat, e = .returned (.tuple #[.int .i64 (x : Int), .int .i64 (y : Int)]) ∧ ((x = a ∧ y = b) ∨ (x = b ∧ y = a)) ∧ S' ≤ S + 1 ∧ Bx1 w w' B (.int .i64 (S' : Int)) := by
  have HB := Lib.hid (Bx1.refl hB hf)
  have ca := hcw a ha
  have cb := hcw b hb
  go_enter Try.func109, Try.ntmps109
  go_wp2
  go_region_with (go_at_call 87; refine (lessC _ _ _).mono ?_; rintro e w' ⟨rfl, rfl⟩)
  all_goals (try go_wp2)
  all_goals first
    | (go_ret2
       exact ⟨b, a, S + 1, rfl, .inr ⟨rfl, rfl⟩, Nat.le_refl _, by first | exact (HB.out.put _).draw 1 | exact (HB.out.draw 1).put _ | exact HB.out.put _⟩)
    | (go_ret2
       exact ⟨a, b, S, rfl, .inl ⟨rfl, rfl⟩, by omega, by first | exact HB.out.draw 1 | exact HB.out⟩)

set_option maxHeartbeats 1000000 in
set_option maxRecDepth 100000 in
/-- slices.medianOrdered. -/
theorem medC (g off n cap a b c B S : Nat) (G : Nat → Nat) (w : World) (hcw : ∀ t, t < n → w.cell? ⟨g, off + t, none⟩ = some (.int .u16 ((G t : Nat) : Int))) (hg : g < w.heap.size) (hne : g ≠ B) (ha : a < n) (hb : b < n) (hc : c < n) (hB : w.cell? ⟨B, 0, none⟩ = some (.int .i64 (S : Int))) (hf : w.frozen? ⟨B, 0, none⟩ = false) (hS : S < 90) (hn : n < 1000000) :
    Calls Try.prog 104 #[.slice (some ⟨g, off, none⟩) n cap, .int .i64 (a : Int), .int .i64 (b : Int), .int .i64 (c : Int), .pointer (some ⟨B, 0, none⟩)] w fun e w' =>
      ∃ x S' : Nat, e = .returned (.int .i64 (x : Int)) ∧ (x = a ∨ x = b ∨ x = c) ∧ S' ≤ S + 3 ∧ Bx1 w w' B (.int .i64 (S' : Int)) := by
  have HC := Lib.hid hcw
  have HB := Lib.hid (Bx1.refl hB hf)
  clear hcw hB hf
  go_enter Try.func104, Try.ntmps104
  go_wp2_with fail
  refine (ord2C g off n cap a b B S G w HC.out ha hb HB.out.cell HB.out.froz (by omega) hn).mono ?_
  rintro e w1 ⟨x1, y1, S1, rfl, h1, hs1, hb1⟩
  have hx1 : x1 < n ∧ y1 < n := by rcases h1 with ⟨rfl, rfl⟩ | ⟨rfl, rfl⟩ <;> exact ⟨by assumption, by assumption⟩
  have H1 := Lib.hid hb1
  have M1 := Lib.hid h1
  clear h1 hb1
  go_wp2_with fail
  refine (ord2C g off n cap y1 c B S1 G w1 (H1.out.fam hg hne HC.out) hx1.2 hc H1.out.cell H1.out.froz (by omega) hn).mono ?_
  rintro e w2 ⟨x2, y2, S2, rfl, h2, hs2, hb2⟩
  have hx2 : x2 < n ∧ y2 < n := by rcases h2 with ⟨rfl, rfl⟩ | ⟨rfl, rfl⟩ <;> exact ⟨by first | assumption | exact hx1.2, by first | assumption | exact hx1.2⟩
  have H2 := Lib.hid (H1.out.then_ hb2)
  have M2 := Lib.hid h2
  clear h2 hb2
  go_wp2_with fail
  refine (ord2C g off n cap x1 x2 B S2 G w2 (H2.out.fam hg hne HC.out) hx1.1 hx2.1 H2.out.cell H2.out.froz (by omega) hn).mono ?_
  rintro e w3 ⟨x3, y3, S3, rfl, h3, hs3, hb3⟩
  go_wp2_with fail
  go_ret
  refine ⟨y3, S3, rfl, ?_, by omega, H2.out.then_ hb3⟩
  rcases M1.out with ⟨rfl, rfl⟩ | ⟨rfl, rfl⟩ <;> rcases M2.out with ⟨rfl, rfl⟩ | ⟨rfl, rfl⟩ <;> rcases h3 with ⟨rfl, rfl⟩ | ⟨rfl, rfl⟩ <;> simp

set_option maxHeartbeats 1000000 in
set_option maxRecDepth 100000 in
/-- slices.choosePivotOrdered. -/
theorem pivC (g off n cap a b : Nat) (d : Array Nat) (w : World) (h : SR w g off n w d) (h12 : a + 12 < b) (h50 : b < a + 50) (hb : b ≤ n) (hn : n < 1000000) :
    Calls Try.prog 84 #[.slice (some ⟨g, off, none⟩) n cap, .int .i64 (a : Int), .int .i64 (b : Int)] w fun e w' =>
      ∃ (p : Nat) (hint : Int), e = .returned (.tuple #[.int .i64 (p : Int), .int .i64 hint]) ∧ a ≤ p ∧ p < b ∧ Below w.heap.size w w' := by
  obtain ⟨G, HG, hcw, hfw⟩ := h.names
  have hg := h.lt
  clear hfw
  obtain ⟨I, hI⟩ : ∃ I : Nat, I = a + (b - a) / 4 * 1 := ⟨_, rfl⟩
  obtain ⟨J, hJ⟩ : ∃ J : Nat, J = a + (b - a) / 4 * 2 := ⟨_, rfl⟩
  obtain ⟨K, hK⟩ : ∃ K : Nat, K = a + (b - a) / 4 * 3 := ⟨_, rfl⟩
  have eI : ((a : Int) + ((b : Int) - (a : Int)) / 4) = (I : Int) := by omega
  have eJ : ((a : Int) + ((b : Int) - (a : Int)) / 4 * 2) = (J : Int) := by omega
  have eK : ((a : Int) + ((b : Int) - (a : Int)) / 4 * 3) = (K : Int) := by omega
  have hIb : a ≤ I ∧ I < b := by omega
  have hJb : a ≤ J ∧ J < b := by omega
  have hKb : a ≤ K ∧ K < b := by omega
  clear hI hJ hK
  have HC : Hid (∀ t, t < n → (w.alloc (.cells #[.int .i64 0] 3)).cell? ⟨g, off + t, none⟩ = some (.int .u16 ((G t : Nat) : Int))) := fun t ht => by
    rw [World.cell?_of_block (a := ⟨g, off + t, none⟩) (w := w) (Below.heap_alloc w _ g hg)]; exact hcw t ht
  have HN := Lib.hid (Bx1.new w (.int .i64 0) 3)
  have HM := Lib.hid (medC g off n cap I J K w.heap.size 0 G _ HC.out (by simp; omega) (by omega) (by omega) (by omega) (by omega) HN.out.cell HN.out.froz (by omega) hn)
  clear hcw
  go_enter Try.func84, Try.ntmps84
  go_wp2_with (go_at_call 104; refine HM.out.mono ?_; rintro e w1 ⟨x, S1, rfl, hx, hs, hb1⟩; (have cB := hb1.cell))
  all_goals
    go_ret2
    exact ⟨x, _, rfl, by omega, by omega, hb1.below⟩

set_option maxHeartbeats 1000000 in
/-- (*slices.xorshift).Next. -/
theorem xnextC (B X : Nat) (w : World) (hX : X < 18446744073709551616) (hc : w.cell? ⟨B, 0, none⟩ = some (.int .u64 (X : Int))) (hf : w.frozen? ⟨B, 0, none⟩ = false) :
    Calls Try.prog 102 #[.pointer (some ⟨B, 0, none⟩)] w fun e w' => ∃ R : Nat, e = .returned (.int .u64 (R : Int)) ∧ R < 18446744073709551616 ∧ Bx1 w w' B (.int .u64 (R : Int)) := by
  obtain ⟨x1, hx1, e1⟩ : ∃ x1 : Nat, x1 < 18446744073709551616 ∧ bits .xor .u64 (X : Int) (IntKind.u64.wrap ((X : Int) * 8192)) = (x1 : Int) := by
    obtain ⟨u, hu, eu⟩ := wrap_u64 ((X : Int) * 8192)
    exact ⟨X ^^^ u, Nat.xor_lt_two_pow (n := 64) (by omega) (by omega), by rw [eu, bits_xor_u64_nat _ _ hX (by omega)]⟩
  obtain ⟨x2, hx2, e2⟩ : ∃ x2 : Nat, x2 < 18446744073709551616 ∧ bits .xor .u64 (x1 : Int) ((x1 : Int) / 128) = (x2 : Int) :=
    ⟨x1 ^^^ (x1 / 128), Nat.xor_lt_two_pow (n := 64) (by omega) (by omega), by rw [show ((x1 : Int) / 128) = ((x1 / 128 : Nat) : Int) by omega, bits_xor_u64_nat _ _ hx1 (by omega)]⟩
  obtain ⟨x3, hx3, e3⟩ : ∃ x3 : Nat, x3 < 18446744073709551616 ∧ bits .xor .u64 (x2 : Int) (IntKind.u64.wrap ((x2 : Int) * 131072)) = (x3 : Int) := by
    obtain ⟨u, hu, eu⟩ := wrap_u64 ((x2 : Int) * 131072)
    exact ⟨x2 ^^^ u, Nat.xor_lt_two_pow (n := 64) (by omega) (by omega), by rw [eu, bits_xor_u64_nat _ _ hx2 (by omega)]⟩
  have HB := Lib.hid (Bx1.refl hc hf)
  have hss : ∀ v v', (w.setCell ⟨B, 0, none⟩ v).setCell ⟨B, 0, none⟩ v' = w.setCell ⟨B, 0, none⟩ v' := fun v v' => by
    rw [Go.Sort.setCell_eq, Go.Sort.setCell_eq, Go.Sort.mapBlock_mapBlock, Go.Sort.setCell_eq]
    congr 1
    funext c
    simp
  go_enter Try.func102, Try.ntmps102
  go_wp2
  go_region
  all_goals go_wp2
  all_goals go_region
  all_goals go_wp2
  all_goals go_region
  all_goals go_wp2
  go_ret
  exact ⟨x3, rfl, hx3, by first | exact (HB.out.put _).draw 3 | exact (HB.out.draw 3).put _⟩

end Go.Proofs.Ytkmacepodomdmaa
