/-
  The numbers of the errors that frame.read makes.
-/
import Derived.Test.YtkmacepodomdmaaDoorFg
import Derived.Deep.CutRange
namespace Go.Proofs.YtkmacepodomdmaaDoor
open Go.RowKit Go.Extern.Stop Go.Stop Go.Extern
set_option maxRecDepth 100000
set_option linter.unusedVariables false
set_option linter.unusedSimpArgs false

/-- The package's five errors lie where a tells, and errors' own handle lies where it must. -/
structure ErrsAt (w : World) (a : Nat → Addr) : Prop where
  big : 5 < w.heap.size
  hand : w.cell? ⟨5, 0, none⟩ = some (.iface 221 (.agg #[.pointer (some ⟨7, 80, none⟩)]))
  var : ∀ i, i < 5 → w.cell? ⟨i, 0, none⟩ = some (.iface 296 (.pointer (some (a i))))
  row : ∀ i, i < 5 → ∃ c t, w.heap[(a i).block]? = some (.cells c t (0, 0))
  ne : ∀ i j, i < 5 → j < 5 → i ≠ j → a i ≠ a j
theorem ErrsAt.after {w w' : World} {a : Nat → Addr} {B : Nat} (h : ErrsAt w a) (hb : Below B w w') (hB : ∀ i, i < 5 → (a i).block < B) (h5 : 5 < B) : ErrsAt w' a :=
  ⟨Nat.lt_of_lt_of_le h.big hb.size, (hb.cell (p := ⟨5, 0, none⟩) h5).trans h.hand, fun i hi => (hb.cell (p := ⟨i, 0, none⟩) (by show i < B; omega)).trans (h.var i hi), fun i hi => by
    obtain ⟨c, t, hr⟩ := h.row i hi
    exact ⟨c, t, (hb.block _ (hB i hi)).trans hr⟩, h.ne⟩
theorem ErrsAt.lt {w : World} {a : Nat → Addr} (h : ErrsAt w a) (i : Nat) (hi : i < 5) : (a i).block < w.heap.size := by
  obtain ⟨c, t, hr⟩ := h.row i hi
  exact (Array.getElem?_eq_some_iff.1 hr).1
theorem ErrsAt.below {w w' : World} {a : Nat → Addr} (h : ErrsAt w a) (hb : Below w.heap.size w w') : ErrsAt w' a := h.after hb h.lt h.big
/-- Errors that reading makes: none, a number that a layer below told, one of the five. -/
inductive Er where
  | nil
  | told (e : Int)
  | sent (i : Nat)
def ErV (w : World) (a : Nat → Addr) (v : Value) : Er → Prop
  | .nil => v = .nilIface
  | .told e => ∃ g s, v = .iface 130 (.pointer (some ⟨g, 0, none⟩)) ∧ Blk w g 132 #[.string s, .iface 136 (.int .i64 e)]
  | .sent i => i < 5 ∧ ∃ g s, v = .iface 130 (.pointer (some ⟨g, 0, none⟩)) ∧ Blk w g 132 #[.string s, .iface 296 (.pointer (some (a i)))]
def ErN : Er → Int
  | .nil => 0
  | .told e => e
  | .sent i => ([4, 2, 6, 5, 7] : List Int).getD i 0
theorem ErV.below {w w' : World} {a : Nat → Addr} {v : Value} {x : Er} (h : ErV w a v x) (hb : Below w.heap.size w w') : ErV w' a v x := by
  cases x with
  | nil => exact h
  | told e => obtain ⟨g, s, h1, h2⟩ := h; exact ⟨g, s, h1, h2.after hb⟩
  | sent i => obtain ⟨hi, g, s, h1, h2⟩ := h; exact ⟨hi, g, s, h1, h2.after hb⟩
theorem frozen_new (w : World) (o : Obj) (cs : Array Value) (t : TypeId) (h : o = .cells cs t (0, 0)) (i : Nat) : (w.alloc o).frozen? ⟨w.heap.size, i, none⟩ = false := by
  subst h
  exact frozen_of_row _ _ i cs t (by show (w.heap.push _)[w.heap.size]? = _; simp)

set_option maxHeartbeats 1000000 in
/-- frame.number of what wraps a told number. -/
theorem numberTold (g : Nat) (s : ByteArray) (e : Int) (a : Nat → Addr) (w : World) (hE : ErrsAt w a) (hv : Blk w g 132 #[.string s, .iface 136 (.int .i64 e)]) :
    Calls Tryd.prog 45 #[.iface 130 (.pointer (some ⟨g, 0, none⟩))] w fun ev w' => ev = .returned (.int .i64 e) ∧ Below w.heap.size w w' := by
  have bel1 : Below w.heap.size w (w.alloc (.cells #[.int .i64 0] 136)) := (Below.refl _ _).alloc (Nat.le_refl _) _
  have hE1 := hE.below bel1
  have hgl : g < (w.alloc (.cells #[.int .i64 0] 136)).heap.size := Nat.lt_of_lt_of_le hv.lt bel1.size
  have C := Lib.hid (as_told g e ⟨w.heap.size, 0, none⟩ (.int .i64 0) (w.alloc (.cells #[.int .i64 0] 136)) hE1.hand hE1.big ((hv.after bel1).cell 1) hgl (by simp) (frozen_new _ _ _ _ rfl 0) (by simp))
  go_enter Tryd.func45, Tryd.ntmps45
  go_wp2_with (go_at_call 83; refine C.out.mono ?_; rintro ev w' ⟨rfl, rfl⟩)
  go_ret
  exact ⟨rfl, (((((Below.refl _ _).alloc (Nat.le_refl _) _).alloc (by simp) _).alloc (by simp; omega) _).alloc (by simp; omega) _).alloc (by simp; omega) _⟩
set_option maxHeartbeats 1000000 in
/-- frame.number of nil. -/
theorem numberNil (a : Nat → Addr) (w : World) (hE : ErrsAt w a) :
    Calls Tryd.prog 45 #[.nilIface] w fun ev w' => ev = .returned (.int .i64 0) ∧ Below w.heap.size w w' := by
  have bel1 : Below w.heap.size w (w.alloc (.cells #[.int .i64 0] 136)) := (Below.refl _ _).alloc (Nat.le_refl _) _
  have hE1 := hE.below bel1
  have c0 := hE1.var 0 (by omega)
  have c1 := hE1.var 1 (by omega)
  have c2 := hE1.var 2 (by omega)
  have c3 := hE1.var 3 (by omega)
  have c4 := hE1.var 4 (by omega)
  have C := Lib.hid (fun (t : Value) => as_nil t (w.alloc (.cells #[.int .i64 0] 136)))
  have D := Lib.hid (fun (b : Addr) => is_nil b (w.alloc (.cells #[.int .i64 0] 136)))
  clear hE1 hE
  go_enter Tryd.func45, Tryd.ntmps45
  go_wp2_with (first | (go_at_call 83; refine (C.out _).mono ?_; rintro ev w' ⟨rfl, rfl⟩) | (go_at_call 84; refine (D.out _).mono ?_; rintro ev w' ⟨rfl, rfl⟩))
  go_ret
  exact ⟨rfl, bel1⟩
set_option maxHeartbeats 1000000 in
theorem numberSent0 (g : Nat) (s : ByteArray) (a : Nat → Addr) (w : World) (hE : ErrsAt w a) (hv : Blk w g 132 #[.string s, .iface 296 (.pointer (some (a 0)))]) :
    Calls Tryd.prog 45 #[.iface 130 (.pointer (some ⟨g, 0, none⟩))] w fun ev w' => ev = .returned (.int .i64 4) ∧ Below w.heap.size w w' := by
  have bel1 : Below w.heap.size w (w.alloc (.cells #[.int .i64 0] 136)) := (Below.refl _ _).alloc (Nat.le_refl _) _
  have hE1 := hE.below bel1
  have hv1 := hv.after bel1
  have hgl : g < (w.alloc (.cells #[.int .i64 0] 136)).heap.size := hv1.lt
  have C : Hid (Calls Tryd.prog 83 #[.iface 130 (.pointer (some ⟨g, 0, none⟩)), .iface 138 (.pointer (some ⟨w.heap.size, 0, none⟩))] (w.alloc (.cells #[.int .i64 0] 136)) fun ev w' => ev = .returned (.bool false) ∧ Below (w.alloc (.cells #[.int .i64 0] 136)).heap.size (w.alloc (.cells #[.int .i64 0] 136)) w') := by
    refine (as_none g (a 0) ⟨w.heap.size, 0, none⟩ (w.alloc (.cells #[.int .i64 0] 136)) hE1.hand hE1.big (hv1.cell 1) hgl).mono ?_
    rintro ev w' ⟨h1, rfl⟩
    exact ⟨h1, (((Below.refl _ _).alloc (Nat.le_refl _) _).alloc (by simp) _).alloc (by simp <;> omega) _⟩
  go_enter Tryd.func45, Tryd.ntmps45
  go_upto_region 4 with (go_at_call 83; refine C.out.mono ?_; rintro ev w2 ⟨rfl, b2⟩)
  have hE2 := hE1.below b2
  have hv2 := (hv1.after b2).cell 1
  have bel2 := Below.then_ bel1 b2
  clear C hE1 hv1 hgl b2 bel1
  have c0 := hE2.var 0 (by omega)
  obtain ⟨r0, t0, e0⟩ := hE2.row 0 (by omega)
  have D0 := Lib.hid (is_same g (a 0) w2 hv2)
  go_wp2_with fail
  refine D0.out.mono ?_; rintro ev w' ⟨rfl, rfl⟩
  go_wp2
  go_ret
  exact ⟨rfl, bel2⟩
set_option maxHeartbeats 1000000 in
theorem numberSent1 (g : Nat) (s : ByteArray) (a : Nat → Addr) (w : World) (hE : ErrsAt w a) (hv : Blk w g 132 #[.string s, .iface 296 (.pointer (some (a 1)))]) :
    Calls Tryd.prog 45 #[.iface 130 (.pointer (some ⟨g, 0, none⟩))] w fun ev w' => ev = .returned (.int .i64 2) ∧ Below w.heap.size w w' := by
  have bel1 : Below w.heap.size w (w.alloc (.cells #[.int .i64 0] 136)) := (Below.refl _ _).alloc (Nat.le_refl _) _
  have hE1 := hE.below bel1
  have hv1 := hv.after bel1
  have hgl : g < (w.alloc (.cells #[.int .i64 0] 136)).heap.size := hv1.lt
  have C : Hid (Calls Tryd.prog 83 #[.iface 130 (.pointer (some ⟨g, 0, none⟩)), .iface 138 (.pointer (some ⟨w.heap.size, 0, none⟩))] (w.alloc (.cells #[.int .i64 0] 136)) fun ev w' => ev = .returned (.bool false) ∧ Below (w.alloc (.cells #[.int .i64 0] 136)).heap.size (w.alloc (.cells #[.int .i64 0] 136)) w') := by
    refine (as_none g (a 1) ⟨w.heap.size, 0, none⟩ (w.alloc (.cells #[.int .i64 0] 136)) hE1.hand hE1.big (hv1.cell 1) hgl).mono ?_
    rintro ev w' ⟨h1, rfl⟩
    exact ⟨h1, (((Below.refl _ _).alloc (Nat.le_refl _) _).alloc (by simp) _).alloc (by simp <;> omega) _⟩
  go_enter Tryd.func45, Tryd.ntmps45
  go_upto_region 4 with (go_at_call 83; refine C.out.mono ?_; rintro ev w2 ⟨rfl, b2⟩)
  have hE2 := hE1.below b2
  have hv2 := (hv1.after b2).cell 1
  have bel2 := Below.then_ bel1 b2
  clear C hE1 hv1 hgl b2 bel1
  have c0 := hE2.var 0 (by omega)
  obtain ⟨r0, t0, e0⟩ := hE2.row 0 (by omega)
  have c1 := hE2.var 1 (by omega)
  obtain ⟨r1, t1, e1⟩ := hE2.row 1 (by omega)
  have n0 := hE2.ne 1 0 (by omega) (by omega) (by omega)
  have D0 := Lib.hid (is_other g (a 1) (a 0) r1 r0 t1 t0 w2 hv2 n0 e1 e0)
  have D1 := Lib.hid (is_same g (a 1) w2 hv2)
  go_wp2_with fail
  refine D0.out.mono ?_; rintro ev w' ⟨rfl, rfl⟩
  go_wp2_with fail
  refine D1.out.mono ?_; rintro ev w' ⟨rfl, rfl⟩
  go_wp2
  go_ret
  exact ⟨rfl, bel2⟩
set_option maxHeartbeats 1000000 in
theorem numberSent2 (g : Nat) (s : ByteArray) (a : Nat → Addr) (w : World) (hE : ErrsAt w a) (hv : Blk w g 132 #[.string s, .iface 296 (.pointer (some (a 2)))]) :
    Calls Tryd.prog 45 #[.iface 130 (.pointer (some ⟨g, 0, none⟩))] w fun ev w' => ev = .returned (.int .i64 6) ∧ Below w.heap.size w w' := by
  have bel1 : Below w.heap.size w (w.alloc (.cells #[.int .i64 0] 136)) := (Below.refl _ _).alloc (Nat.le_refl _) _
  have hE1 := hE.below bel1
  have hv1 := hv.after bel1
  have hgl : g < (w.alloc (.cells #[.int .i64 0] 136)).heap.size := hv1.lt
  have C : Hid (Calls Tryd.prog 83 #[.iface 130 (.pointer (some ⟨g, 0, none⟩)), .iface 138 (.pointer (some ⟨w.heap.size, 0, none⟩))] (w.alloc (.cells #[.int .i64 0] 136)) fun ev w' => ev = .returned (.bool false) ∧ Below (w.alloc (.cells #[.int .i64 0] 136)).heap.size (w.alloc (.cells #[.int .i64 0] 136)) w') := by
    refine (as_none g (a 2) ⟨w.heap.size, 0, none⟩ (w.alloc (.cells #[.int .i64 0] 136)) hE1.hand hE1.big (hv1.cell 1) hgl).mono ?_
    rintro ev w' ⟨h1, rfl⟩
    exact ⟨h1, (((Below.refl _ _).alloc (Nat.le_refl _) _).alloc (by simp) _).alloc (by simp <;> omega) _⟩
  go_enter Tryd.func45, Tryd.ntmps45
  go_upto_region 4 with (go_at_call 83; refine C.out.mono ?_; rintro ev w2 ⟨rfl, b2⟩)
  have hE2 := hE1.below b2
  have hv2 := (hv1.after b2).cell 1
  have bel2 := Below.then_ bel1 b2
  clear C hE1 hv1 hgl b2 bel1
  have c0 := hE2.var 0 (by omega)
  obtain ⟨r0, t0, e0⟩ := hE2.row 0 (by omega)
  have c1 := hE2.var 1 (by omega)
  obtain ⟨r1, t1, e1⟩ := hE2.row 1 (by omega)
  have c2 := hE2.var 2 (by omega)
  obtain ⟨r2, t2, e2⟩ := hE2.row 2 (by omega)
  have n0 := hE2.ne 2 0 (by omega) (by omega) (by omega)
  have D0 := Lib.hid (is_other g (a 2) (a 0) r2 r0 t2 t0 w2 hv2 n0 e2 e0)
  have n1 := hE2.ne 2 1 (by omega) (by omega) (by omega)
  have D1 := Lib.hid (is_other g (a 2) (a 1) r2 r1 t2 t1 w2 hv2 n1 e2 e1)
  have D2 := Lib.hid (is_same g (a 2) w2 hv2)
  go_wp2_with fail
  refine D0.out.mono ?_; rintro ev w' ⟨rfl, rfl⟩
  go_wp2_with fail
  refine D1.out.mono ?_; rintro ev w' ⟨rfl, rfl⟩
  go_wp2_with fail
  refine D2.out.mono ?_; rintro ev w' ⟨rfl, rfl⟩
  go_wp2
  go_ret
  exact ⟨rfl, bel2⟩
set_option maxHeartbeats 1000000 in
theorem numberSent3 (g : Nat) (s : ByteArray) (a : Nat → Addr) (w : World) (hE : ErrsAt w a) (hv : Blk w g 132 #[.string s, .iface 296 (.pointer (some (a 3)))]) :
    Calls Tryd.prog 45 #[.iface 130 (.pointer (some ⟨g, 0, none⟩))] w fun ev w' => ev = .returned (.int .i64 5) ∧ Below w.heap.size w w' := by
  have bel1 : Below w.heap.size w (w.alloc (.cells #[.int .i64 0] 136)) := (Below.refl _ _).alloc (Nat.le_refl _) _
  have hE1 := hE.below bel1
  have hv1 := hv.after bel1
  have hgl : g < (w.alloc (.cells #[.int .i64 0] 136)).heap.size := hv1.lt
  have C : Hid (Calls Tryd.prog 83 #[.iface 130 (.pointer (some ⟨g, 0, none⟩)), .iface 138 (.pointer (some ⟨w.heap.size, 0, none⟩))] (w.alloc (.cells #[.int .i64 0] 136)) fun ev w' => ev = .returned (.bool false) ∧ Below (w.alloc (.cells #[.int .i64 0] 136)).heap.size (w.alloc (.cells #[.int .i64 0] 136)) w') := by
    refine (as_none g (a 3) ⟨w.heap.size, 0, none⟩ (w.alloc (.cells #[.int .i64 0] 136)) hE1.hand hE1.big (hv1.cell 1) hgl).mono ?_
    rintro ev w' ⟨h1, rfl⟩
    exact ⟨h1, (((Below.refl _ _).alloc (Nat.le_refl _) _).alloc (by simp) _).alloc (by simp <;> omega) _⟩
  go_enter Tryd.func45, Tryd.ntmps45
  go_upto_region 4 with (go_at_call 83; refine C.out.mono ?_; rintro ev w2 ⟨rfl, b2⟩)
  have hE2 := hE1.below b2
  have hv2 := (hv1.after b2).cell 1
  have bel2 := Below.then_ bel1 b2
  clear C hE1 hv1 hgl b2 bel1
  have c0 := hE2.var 0 (by omega)
  obtain ⟨r0, t0, e0⟩ := hE2.row 0 (by omega)
  have c1 := hE2.var 1 (by omega)
  obtain ⟨r1, t1, e1⟩ := hE2.row 1 (by omega)
  have c2 := hE2.var 2 (by omega)
  obtain ⟨r2, t2, e2⟩ := hE2.row 2 (by omega)
  have c3 := hE2.var 3 (by omega)
  obtain ⟨r3, t3, e3⟩ := hE2.row 3 (by omega)
  have n0 := hE2.ne 3 0 (by omega) (by omega) (by omega)
  have D0 := Lib.hid (is_other g (a 3) (a 0) r3 r0 t3 t0 w2 hv2 n0 e3 e0)
  have n1 := hE2.ne 3 1 (by omega) (by omega) (by omega)
  have D1 := Lib.hid (is_other g (a 3) (a 1) r3 r1 t3 t1 w2 hv2 n1 e3 e1)
  have n2 := hE2.ne 3 2 (by omega) (by omega) (by omega)
  have D2 := Lib.hid (is_other g (a 3) (a 2) r3 r2 t3 t2 w2 hv2 n2 e3 e2)
  have D3 := Lib.hid (is_same g (a 3) w2 hv2)
  go_wp2_with fail
  refine D0.out.mono ?_; rintro ev w' ⟨rfl, rfl⟩
  go_wp2_with fail
  refine D1.out.mono ?_; rintro ev w' ⟨rfl, rfl⟩
  go_wp2_with fail
  refine D2.out.mono ?_; rintro ev w' ⟨rfl, rfl⟩
  go_wp2_with fail
  refine D3.out.mono ?_; rintro ev w' ⟨rfl, rfl⟩
  go_wp2
  go_ret
  exact ⟨rfl, bel2⟩
set_option maxHeartbeats 1000000 in
theorem numberSent4 (g : Nat) (s : ByteArray) (a : Nat → Addr) (w : World) (hE : ErrsAt w a) (hv : Blk w g 132 #[.string s, .iface 296 (.pointer (some (a 4)))]) :
    Calls Tryd.prog 45 #[.iface 130 (.pointer (some ⟨g, 0, none⟩))] w fun ev w' => ev = .returned (.int .i64 7) ∧ Below w.heap.size w w' := by
  have bel1 : Below w.heap.size w (w.alloc (.cells #[.int .i64 0] 136)) := (Below.refl _ _).alloc (Nat.le_refl _) _
  have hE1 := hE.below bel1
  have hv1 := hv.after bel1
  have hgl : g < (w.alloc (.cells #[.int .i64 0] 136)).heap.size := hv1.lt
  have C : Hid (Calls Tryd.prog 83 #[.iface 130 (.pointer (some ⟨g, 0, none⟩)), .iface 138 (.pointer (some ⟨w.heap.size, 0, none⟩))] (w.alloc (.cells #[.int .i64 0] 136)) fun ev w' => ev = .returned (.bool false) ∧ Below (w.alloc (.cells #[.int .i64 0] 136)).heap.size (w.alloc (.cells #[.int .i64 0] 136)) w') := by
    refine (as_none g (a 4) ⟨w.heap.size, 0, none⟩ (w.alloc (.cells #[.int .i64 0] 136)) hE1.hand hE1.big (hv1.cell 1) hgl).mono ?_
    rintro ev w' ⟨h1, rfl⟩
    exact ⟨h1, (((Below.refl _ _).alloc (Nat.le_refl _) _).alloc (by simp) _).alloc (by simp <;> omega) _⟩
  go_enter Tryd.func45, Tryd.ntmps45
  go_upto_region 4 with (go_at_call 83; refine C.out.mono ?_; rintro ev w2 ⟨rfl, b2⟩)
  have hE2 := hE1.below b2
  have hv2 := (hv1.after b2).cell 1
  have bel2 := Below.then_ bel1 b2
  clear C hE1 hv1 hgl b2 bel1
  have c0 := hE2.var 0 (by omega)
  obtain ⟨r0, t0, e0⟩ := hE2.row 0 (by omega)
  have c1 := hE2.var 1 (by omega)
  obtain ⟨r1, t1, e1⟩ := hE2.row 1 (by omega)
  have c2 := hE2.var 2 (by omega)
  obtain ⟨r2, t2, e2⟩ := hE2.row 2 (by omega)
  have c3 := hE2.var 3 (by omega)
  obtain ⟨r3, t3, e3⟩ := hE2.row 3 (by omega)
  have c4 := hE2.var 4 (by omega)
  obtain ⟨r4, t4, e4⟩ := hE2.row 4 (by omega)
  have n0 := hE2.ne 4 0 (by omega) (by omega) (by omega)
  have D0 := Lib.hid (is_other g (a 4) (a 0) r4 r0 t4 t0 w2 hv2 n0 e4 e0)
  have n1 := hE2.ne 4 1 (by omega) (by omega) (by omega)
  have D1 := Lib.hid (is_other g (a 4) (a 1) r4 r1 t4 t1 w2 hv2 n1 e4 e1)
  have n2 := hE2.ne 4 2 (by omega) (by omega) (by omega)
  have D2 := Lib.hid (is_other g (a 4) (a 2) r4 r2 t4 t2 w2 hv2 n2 e4 e2)
  have n3 := hE2.ne 4 3 (by omega) (by omega) (by omega)
  have D3 := Lib.hid (is_other g (a 4) (a 3) r4 r3 t4 t3 w2 hv2 n3 e4 e3)
  have D4 := Lib.hid (is_same g (a 4) w2 hv2)
  go_wp2_with fail
  refine D0.out.mono ?_; rintro ev w' ⟨rfl, rfl⟩
  go_wp2_with fail
  refine D1.out.mono ?_; rintro ev w' ⟨rfl, rfl⟩
  go_wp2_with fail
  refine D2.out.mono ?_; rintro ev w' ⟨rfl, rfl⟩
  go_wp2_with fail
  refine D3.out.mono ?_; rintro ev w' ⟨rfl, rfl⟩
  go_wp2_with fail
  refine D4.out.mono ?_; rintro ev w' ⟨rfl, rfl⟩
  go_wp2
  go_ret
  exact ⟨rfl, bel2⟩
/-- frame.number. -/
theorem numberC (v : Value) (x : Er) (a : Nat → Addr) (w : World) (hE : ErrsAt w a) (hv : ErV w a v x) :
    Calls Tryd.prog 45 #[v] w fun ev w' => ev = .returned (.int .i64 (ErN x)) ∧ Below w.heap.size w w' := by
  cases x with
  | nil => obtain rfl := hv; exact numberNil a w hE
  | told e => obtain ⟨g, s, rfl, h⟩ := hv; exact numberTold g s e a w hE h
  | sent i =>
    obtain ⟨hi, g, s, rfl, h⟩ := hv
    match i, hi with
    | 0, _ => exact numberSent0 g s a w hE h
    | 1, _ => exact numberSent1 g s a w hE h
    | 2, _ => exact numberSent2 g s a w hE h
    | 3, _ => exact numberSent3 g s a w hE h
    | 4, _ => exact numberSent4 g s a w hE h
end Go.Proofs.YtkmacepodomdmaaDoor
