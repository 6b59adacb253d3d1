/-
  Texts joined: Kd, Mw, Ke, Ka, Kb, Kc, Kf.
-/
import Derived.Test.YtknfpdlomgllhaaDoorBk
import Derived.Test.YtknfpdlomgllhaaDoorMz
import Derived.Test.YtknfpdlomgllhaaDoorRr
import Derived.Laws.CopyOwn
import Derived.Test.YtknfpdlomgllhaaDoorMem
import Derived.LoopN
import Derived.Deep.DeepCutAuto
namespace Go.Proofs.YtknfpdlomgllhaaDoor
open Go.RowKit
set_option maxRecDepth 100000
set_option linter.unusedVariables false

/-- The reference's taps as cells. -/
def TC : Array Value := (U8 (Cv.tp 0 ++ Cv.tp 1 ++ Cv.tp 2 ++ Cv.tp 3)).toArray
theorem TC_size : TC.size = 28 := rfl
theorem TC_one : TC.all (·.oneCell') = true := all_oneCell_toArray (U8_one _)
theorem TC_get : ∀ i, i < 4 → ∀ k, k < 7 → (Cv.tp 0 ++ Cv.tp 1 ++ Cv.tp 2 ++ Cv.tp 3).getD (7 * i + k) 0 = (Cv.tp i).getD k 0 := by decide
theorem TC_cell (i k : Nat) (hi : i < 4) (hk : k < 7) : TC[7 * i + k]? = some (.int .u8 (((Cv.tp i).getD k 0 : Nat) : Int)) := by
  unfold TC
  rw [List.getElem?_toArray, U8_get _ _ (by show _ < 28; omega), TC_get i hi k hk]
theorem info28 : (Tryd.prog.info? 146).map (·.size) = some 28 := by kernel_rfl
/-- Its noughts. -/
noncomputable def Z28 : Array Value := ((Tryd.prog.info? 146).bind (fun i => i.zero.map (fun z => z.cells))).getD #[]
theorem Z28_eq : (Tryd.prog.info? 146).bind (fun i => i.zero.map (fun z => z.cells)) = some Z28 := by kernel_rfl
theorem Z28_size : Z28.size = 28 := by kernel_rfl

set_option maxHeartbeats 400000 in
/-- The reference's taps. -/
theorem tapsC (w : World) : Calls Tryd.prog 88 #[] w fun e w' => e = .returned (.agg TC) ∧ Below w.heap.size w w' := by
  go_enter Tryd.func88, Tryd.ntmps88
  go_wp2_with (first | (refine at_alloc rfl 146 rfl Z28 Z28_eq ?_; intro w1 h1) | (refine at_store rfl 146 _ _ rfl w.heap.size TC rfl rfl 146 Z28 h1.row info28 Z28_size TC_one ?_; intro w2 h2))
  refine bodyPost_ret (v := .agg TC) (results_row rfl _ _ w.heap.size 146 _ _ rfl h2.row Tryd.underlying146 rfl info28) rfl ⟨rfl, ?_⟩
  exact h1.bel.trans (h2.below (Nat.le_refl _))

theorem and_bit {a b : Nat} (ha : a ≤ 1) (hb : b ≤ 1) : a &&& b = a * b := by
  have h1 : a = 0 ∨ a = 1 := by omega
  have h2 : b = 0 ∨ b = 1 := by omega
  rcases h1 with rfl | rfl <;> rcases h2 with rfl | rfl <;> rfl

set_option maxHeartbeats 1000000 in
/-- The reference's Bit. -/
theorem bitC (A : Option Addr) (n c t i : Nat) (l : List Nat) (w : World) (hr : Rd w w.heap.size A n (U8 l)) (hl : ∀ x ∈ l, x ≤ 1) (hn : n ≤ 65536) (ht : t ≤ 100000) (hi : i < 4) :
    Calls Tryd.prog 51 #[.slice A n c, .int .i64 (t : Int), .int .i64 (i : Int)] w fun e w' => e = .returned (.int .u8 (Cv.bitAt l t i : Nat)) ∧ Below w.heap.size w w' := by
  have HN := Lib.hid hr.len8
  have HB := Lib.hid (Cv.bt_bit l hl t i)
  go_enter Tryd.func51, Tryd.ntmps51
  go_wp2_with (first | (go_at_call 88; refine (tapsC _).mono ?_; rintro e w0 ⟨rfl, hb0⟩) | (refine at_alloc rfl 146 rfl Z28 Z28_eq ?_; intro w1 h1) | (refine at_store rfl 146 _ _ rfl w0.heap.size TC rfl rfl 146 Z28 h1.row info28 Z28_size TC_one ?_; intro w2 h2))
  have bel : Below w.heap.size w w2 := (Below.then_ hb0 h1.bel).trans (h2.below hb0.size)
  have hB := h2.row
  have hr2 := hr.below bel
  generalize w0.heap.size = g at *
  clear hb0 h1 h2 hr
  go_loopw [8, 9] (fun s j wr => ∃ k r q : Nat, k ≤ 7 ∧ r ≤ 1 ∧ j = .int .i64 k ∧ s = .int .u8 (r : Int) ∧ Hid (r = Cv.bt l t i k) ∧ wr = w2.drewN q) (fun _ j _ => 7 - (intOf j).toNat)
  case atStart => exact ⟨0, 0, 0, by omega, by omega, rfl, rfl, rfl, rfl⟩
  case round =>
    obtain ⟨k, r, q, hk, hr1, rfl, rfl, HR, hw⟩ := hrel
    have hr3 := hr2.below (hw ▸ below_drawn q : Below w.heap.size w2 wr)
    have hB3 : Blk wr g 146 TC := by rw [hw]; exact hB
    have HW := Lib.hid hw
    clear hw
    by_cases hlt : k < 7
    · have HS : Hid (Cv.bt l t i (k + 1) = r ^^^ (Cv.tp i).getD k 0 * Cv.pv l t k) := by unfold Hid; rw [HR.out]; rfl
      have hb := HB.out (k + 1)
      rw [HS.out] at hb
      have hy := Cv.tp_bit i k
      have hc := (hB3.cell (7 * i + k)).trans (TC_cell i k hi hlt)
      generalize (Cv.tp i).getD k 0 = y at *
      by_cases hkt : k ≤ t
      · obtain ⟨m, hm⟩ : ∃ m, t - k = m := ⟨_, rfl⟩
        have e0 : (t : Int) - (k : Int) = (m : Int) := by omega
        have HP : Hid (Cv.pv l t k = l.getD m 0) := by unfold Hid Cv.pv; rw [if_pos hkt, hm]
        clear hm
        by_cases hmn : m < n
        · obtain ⟨b, off, rfl, hlt2, hcell⟩ := hr3.cell8 m hmn
          have hx := Bm.bit_le l hl m
          rw [HP.out] at HS hb
          obtain ⟨x, hxe⟩ : ∃ x, x = l.getD m 0 := ⟨_, rfl⟩
          rw [← hxe] at hcell HS hb hx
          clear hxe
          have e1 : bits BinOp.and IntKind.u8 (y : Int) (x : Int) = ((y * x : Nat) : Int) := by rw [← and_bit hy hx]; exact u8_and_nat y x (by omega) (by omega)
          have hyx := Cv.mul_bit hy hx
          generalize y * x = v at *
          have e2 : bits BinOp.xor IntKind.u8 (r : Int) (v : Int) = ((r ^^^ v : Nat) : Int) := u8_xor_nat r v (by omega) (by omega)
          generalize r ^^^ v = u at *
          have ia := fun W => run_idx (P := Tryd.prog) (sz := 7) Tryd.underlying146 (by kernel_rfl) g 0 i hi .i64 W
          have ib := fun W => run_idx (P := Tryd.prog) (sz := 1) Tryd.underlying145 (by kernel_rfl) g (0 + 7 * i) k hlt .i64 W
          simp only [Nat.zero_add, Nat.one_mul] at ia ib
          have d1 : decide ((0 : Int) ≤ (m : Int)) = true := by simp
          have d2 : decide ((m : Int) < (n : Int)) = true := by simp; omega
          go_wp2_with fail
          go_quiet (fail)
          go_wp2
          go_roundw
          case rel => exact ⟨k + 1, u, q + _, by omega, hb, by go_num, rfl, HS.out.symm, by rw [HW.out, World.drewN_drewN]⟩
          case measure => simp [intOf] <;> omega
        · have HZ : Hid (Cv.bt l t i (k + 1) = r) := by
            unfold Hid
            rw [HS.out, HP.out, Bm.getD_ge _ _ _ (by rw [← HN.out]; omega), Nat.mul_zero, Nat.xor_zero]
          clear HS hb
          have d1 : decide ((0 : Int) ≤ (m : Int)) = true := by simp
          have d2 : decide ((m : Int) < (n : Int)) = false := by simp; omega
          go_wp2
          go_roundw
          case rel => exact ⟨k + 1, r, q, by omega, hr1, by go_num, rfl, HZ.out.symm, HW.out⟩
          case measure => simp [intOf] <;> omega
      · have HZ : Hid (Cv.bt l t i (k + 1) = r) := by
          unfold Hid
          rw [HS.out, show Cv.pv l t k = 0 by unfold Cv.pv; rw [if_neg hkt], Nat.mul_zero, Nat.xor_zero]
        clear HS hb
        have d1 : decide ((0 : Int) ≤ (t : Int) - (k : Int)) = false := by simp; omega
        have d2 : decide ((k : Int) ≤ (t : Int)) = false := by simp; omega
        have d3 : decide (k ≤ t) = false := by simp; omega
        go_wp2
        go_roundw
        case rel => exact ⟨k + 1, r, q, by omega, hr1, by go_num, rfl, HZ.out.symm, HW.out⟩
        case measure => simp [intOf] <;> omega
    · go_wp2
      go_ret
      refine ⟨ret_int' ?_, by rw [HW.out]; exact bel.trans (below_drawn q)⟩
      rw [HR.out, show k = 7 by omega]
      rfl
end Go.Proofs.YtknfpdlomgllhaaDoor

namespace Go.Proofs.YtknfpdlomgllhaaDoor
open Go.RowKit
set_option maxRecDepth 100000

theorem i64_and_nat (a b : Nat) (ha : a < 4294967296) (hb : b < 4294967296) : bits BinOp.and IntKind.i64 (a : Int) (b : Int) = ((a &&& b : Nat) : Int) := by
  have hx : a &&& b < 2 ^ 32 := Nat.and_lt_two_pow _ (by omega)
  show IntKind.i64.wrap ((BitVec.ofInt 64 (a : Int) &&& BitVec.ofInt 64 (b : Int)).toNat : Int) = _
  rw [BitVec.toNat_and, ofInt_u64 a (by omega), ofInt_u64 b (by omega)]
  exact IntWalk.i64_in _ (by omega)
theorem i64_or_nat (a b : Nat) (ha : a < 4294967296) (hb : b < 4294967296) : bits BinOp.or IntKind.i64 (a : Int) (b : Int) = ((a ||| b : Nat) : Int) := by
  have hx : a ||| b < 2 ^ 32 := Nat.or_lt_two_pow (by omega) (by omega)
  show IntKind.i64.wrap ((BitVec.ofInt 64 (a : Int) ||| BitVec.ofInt 64 (b : Int)).toNat : Int) = _
  rw [BitVec.toNat_or, ofInt_u64 a (by omega), ofInt_u64 b (by omega)]
  exact IntWalk.i64_in _ (by omega)
end Go.Proofs.YtknfpdlomgllhaaDoor

namespace Go.Proofs.YtknfpdlomgllhaaDoor
open Go.RowKit
set_option maxRecDepth 100000
set_option linter.unusedVariables false

/-- What the first j streams tell at a step. -/
def fourTo (l : List Nat) (t : Nat) : Nat → List Nat
  | 0 => []
  | j + 1 => fourTo l t j ++ [Cv.bitAt l t j]
theorem fourTo_four (l : List Nat) (t : Nat) : fourTo l t 4 = Cv.four l t := rfl

set_option maxHeartbeats 1000000 in
/-- The reference's Code. -/
theorem refCode (A : Option Addr) (n c : Nat) (l : List Nat) (w : World) (hr : Rd w w.heap.size A n (U8 l)) (hl : ∀ x ∈ l, x ≤ 1) (hn : n ≤ 65536) :
    Calls Tryd.prog 12 #[.slice A n c] w (Made w (Cv.code l)) := by
  have HN := Lib.hid hr.len8
  go_enter Tryd.func12, Tryd.ntmps12
  go_wp2
  go_loopw [3, 4] (fun s i wr => ∃ k : Nat, k ≤ n + 6 ∧ i = .int .i64 k ∧ ∃ A1 c1, s = .slice A1 (4 * k) c1 ∧ Own wr w.heap.size 5 A1 (4 * k) c1 (U8 (Cv.codeTo l k)) ∧ Below w.heap.size w wr) (fun _ i _ => n + 6 - (intOf i).toNat)
  case atStart => exact ⟨0, Nat.zero_le _, rfl, none, 0, rfl, Own.nil _ _ _, Below.refl _ _⟩
  case round =>
    obtain ⟨k, hk, rfl, A1, c1, rfl, hown, hbel⟩ := hrel
    by_cases hlt : k < n + 6
    · have d0 : (k : Int) < (n : Int) + 6 := by omega
      go_wp2
      go_loopw [3, 5] (fun s i wr2 => ∃ j : Nat, j ≤ 4 ∧ i = .int .i64 j ∧ ∃ A2 c2, s = .slice A2 (4 * k + j) c2 ∧ Own wr2 w.heap.size 5 A2 (4 * k + j) c2 (U8 (Cv.codeTo l k ++ fourTo l k j)) ∧ Below w.heap.size w wr2) (fun _ i _ => 4 - (intOf i).toNat)
      case atStart => exact ⟨0, by omega, rfl, A1, c1, rfl, by simpa [fourTo] using hown, hbel⟩
      case round =>
        clear hown hbel
        obtain ⟨j, hj, rfl, A2, c2, rfl, hown, hbel⟩ := hrel
        have hsz := hbel.size
        by_cases hj4 : j < 4
        · have C := Lib.hid (bitC A n c k j l wr ((hr.below hbel).up hsz) hl hn (by omega) hj4)
          have HF : Hid (fourTo l k (j + 1) = fourTo l k j ++ [Cv.bitAt l k j]) := rfl
          obtain ⟨y, hy⟩ : ∃ y, y = Cv.bitAt l k j := ⟨_, rfl⟩
          rw [← hy] at C HF
          clear hy
          go_wp2_with (first | (go_at_call 51; refine C.out.mono ?_; rintro e w4 ⟨rfl, hb4⟩; have hown4 := hown.below hb4 (Nat.le_refl _); have hbel4 := hbel.trans (hb4.mono hsz)) | (at_builtin; refine app8 _ rfl _ _ rfl w.heap.size _ _ _ _ y _ rfl rfl hown4 rfl (by omega) hbel4.size ?_; intro A3 c3 w3 hown3 hgrow3))
          go_roundw
          case rel =>
            refine ⟨j + 1, by omega, by go_num, A3, c3, slice_len (by omega), ?_, hbel4.grown hgrow3 hbel4.size (fun j hj => (hown4.block j hj).1)⟩
            refine hown3.to (by omega) ?_
            rw [HF.out, List.append_assoc]
          case measure => simp [intOf] <;> omega
        · go_wp2
          go_roundw
          case rel =>
            refine ⟨k + 1, by omega, by go_num, A2, c2, slice_len (by omega), ?_, hbel⟩
            refine hown.to (by omega) ?_
            rw [show j = 4 by omega, fourTo_four]
            rfl
          case measure => simp [intOf] <;> omega
    · have d0 : ¬ (k : Int) < (n : Int) + 6 := by omega
      go_wp2
      go_ret
      refine ⟨A1, 4 * k, c1, rfl, hown.to rfl ?_, hbel⟩
      unfold Cv.code
      rw [← HN.out, show k = n + 6 by omega]

/-- The six bits of a state, the oldest first. -/
def lsTo (s : Nat) : Nat → List Nat
  | 0 => []
  | k + 1 => lsTo s k ++ [s / 2 ^ k % 2]
/-- They and one more. -/
def ls (s x : Nat) : List Nat := lsTo s 6 ++ [x]
theorem ls_bit (s x : Nat) (hx : x ≤ 1) : ∀ y ∈ ls s x, y ≤ 1 := by
  have key : ∀ k, ∀ y ∈ lsTo s k, y ≤ 1 := by
    intro k
    induction k with
    | zero => intro y hy; cases hy
    | succ k ih =>
      intro y hy
      rcases List.mem_append.1 hy with h | h
      · exact ih y h
      · simp at h; omega
  intro y hy
  rcases List.mem_append.1 hy with h | h
  · exact key 6 y h
  · simp at h; omega
theorem ls_len (s x : Nat) : (ls s x).length = 7 := rfl
theorem ls_out : ∀ s, s < 64 → ∀ x, x < 2 → ∀ i, i < 4 → Cv.bitAt (ls s x) 6 i = Cv.out s x i := by decide +kernel
theorem i64_bit (a k : Nat) (ha : a < 4294967296) : bits BinOp.and IntKind.i64 ((a : Int) / 2 ^ k) 1 = ((a / 2 ^ k % 2 : Nat) : Int) := by
  have e : ((a : Int) / 2 ^ k) = ((a / 2 ^ k : Nat) : Int) := by simp
  have hle : a / 2 ^ k ≤ a := Nat.div_le_self _ _
  rw [e, show (1 : Int) = ((1 : Nat) : Int) from rfl, i64_and_nat _ _ (by omega) (by omega), nat_mask1]

set_option maxHeartbeats 1000000 in
/-- The reference's List. -/
theorem listC (s x : Nat) (w : World) (hs : s < 64) (hx : x ≤ 1) :
    Calls Tryd.prog 100 #[.int .i64 (s : Int), .int .u8 (x : Int)] w (Made w (ls s x)) := by
  go_enter Tryd.func100, Tryd.ntmps100
  go_wp2
  go_loopw [5, 6] (fun v i wr => ∃ k : Nat, k ≤ 6 ∧ i = .int .i64 k ∧ ∃ A1 c1, v = .slice A1 k c1 ∧ Own wr w.heap.size 5 A1 k c1 (U8 (lsTo s k)) ∧ Below w.heap.size w wr) (fun _ i _ => 6 - (intOf i).toNat)
  case atStart => exact ⟨0, Nat.zero_le _, rfl, none, 0, rfl, Own.nil _ _ _, Below.refl _ _⟩
  case round =>
    obtain ⟨k, hk, rfl, A1, c1, rfl, hown, hbel⟩ := hrel
    have hsz := hbel.size
    by_cases hlt : k < 6
    · have e1 := i64_bit s k (by omega)
      have hy : s / 2 ^ k % 2 ≤ 1 := by omega
      have HF : Hid (lsTo s (k + 1) = lsTo s k ++ [s / 2 ^ k % 2]) := rfl
      generalize s / 2 ^ k % 2 = y at *
      go_wp2_with (at_builtin; refine app8 _ rfl _ _ rfl w.heap.size _ _ _ _ y _ rfl rfl hown rfl (by omega) hsz ?_; intro A3 c3 w3 hown3 hgrow3)
      go_roundw
      case rel =>
        refine ⟨k + 1, by omega, by go_num, A3, c3, rfl, ?_, hbel.grown hgrow3 hsz (fun j hj => (hown.block j hj).1)⟩
        rw [HF.out]
        exact hown3
      case measure => simp [intOf] <;> omega
    · go_wp2_with (at_builtin; refine app8 _ rfl _ _ rfl w.heap.size _ _ _ _ x _ rfl rfl hown rfl (by omega) hsz ?_; intro A3 c3 w3 hown3 hgrow3)
      go_ret
      refine ⟨A3, k + 1, c3, rfl, hown3.to rfl ?_, hbel.grown hgrow3 hsz (fun j hj => (hown.block j hj).1)⟩
      rw [show k = 6 by omega]
      rfl
end Go.Proofs.YtknfpdlomgllhaaDoor

namespace Go.Proofs.YtknfpdlomgllhaaDoor
open Go.RowKit
set_option maxRecDepth 100000
set_option linter.unusedVariables false

/-- The variable holds the taps. -/
structure Taps (w : World) : Prop where
  c0 : w.cell? ⟨6, 0, none⟩ = some (.int .i64 79)
  c1 : w.cell? ⟨6, 1, none⟩ = some (.int .i64 87)
  c2 : w.cell? ⟨6, 2, none⟩ = some (.int .i64 109)
  c3 : w.cell? ⟨6, 3, none⟩ = some (.int .i64 121)
theorem Taps.pos {w : World} (h : Taps w) : 6 < w.heap.size := block_lt_of_cell (a := ⟨6, 0, none⟩) h.c0
theorem Taps.below {w w' : World} {B : Nat} (h : Taps w) (hb : Below B w w') (hB : w.heap.size ≤ B) : Taps w' := by
  have h0 := h.pos
  exact ⟨(hb.cell (p := ⟨6, 0, none⟩) (by show 6 < B; omega)).trans h.c0, (hb.cell (p := ⟨6, 1, none⟩) (by show 6 < B; omega)).trans h.c1, (hb.cell (p := ⟨6, 2, none⟩) (by show 6 < B; omega)).trans h.c2, (hb.cell (p := ⟨6, 3, none⟩) (by show 6 < B; omega)).trans h.c3⟩
theorem Taps.after {w w' : World} (h : Taps w) (hb : Below w.heap.size w w') : Taps w' := h.below hb (Nat.le_refl _)

/-- Parity of the first f bits. -/
def pr : Nat → Nat → Nat
  | 0, _ => 0
  | f + 1, n => n % 2 ^^^ pr f (n / 2)
theorem pr_zero : ∀ f, pr f 0 = 0
  | 0 => rfl
  | f + 1 => by show 0 % 2 ^^^ pr f (0 / 2) = 0; rw [pr_zero f]; rfl
theorem pr_bit : ∀ f n, pr f n ≤ 1
  | 0, _ => by simp [pr]
  | f + 1, n => Cv.xor_bit (by omega) (pr_bit f _)
/-- The bits that a stream looks at. -/
def tapOf : Nat → Nat
  | 0 => 79
  | 1 => 87
  | 2 => 109
  | _ => 121
theorem pr_out : ∀ s, s < 64 → ∀ x, x < 2 → ∀ i, i < 4 → pr 7 ((64 * x + s) &&& tapOf i) = Cv.out s x i := by decide +kernel
theorem word_or : ∀ s, s < 64 → ∀ x, x < 2 → (64 * x) ||| s = 64 * x + s := by decide +kernel

set_option maxHeartbeats 400000 in
/-- conv.odd. -/
theorem oddC (n : Nat) (w : World) (hn : n < 128) : Calls Tryd.prog 177 #[.int .i64 (n : Int)] w fun e w' => e = .returned (.int .u8 (pr 7 n : Nat)) ∧ w = w' := by
  go_enter Tryd.func177, Tryd.ntmps177
  go_wp2
  go_loop [0, 3] (fun m s => ∃ f k r : Nat, f ≤ 7 ∧ k < 2 ^ f ∧ k < 128 ∧ r ≤ 1 ∧ m = .int .i64 (k : Int) ∧ s = .int .u8 (r : Int) ∧ Hid (r ^^^ pr f k = pr 7 n)) (fun m _ => (intOf m).toNat)
  case atStart => exact ⟨7, n, 0, by omega, by omega, by omega, by omega, rfl, rfl, by unfold Hid; rw [Nat.zero_xor]⟩
  case round =>
    obtain ⟨f, k, r, hf, hk, hk2, hr, rfl, rfl, HR⟩ := hrel
    by_cases h0 : 0 < k
    · have e1 : bits BinOp.and IntKind.i64 (k : Int) 1 = ((k % 2 : Nat) : Int) := by
        have := i64_and_nat k 1 (by omega) (by omega)
        rw [nat_mask1] at this
        exact this
      have e2 : (k : Int) / 2 = ((k / 2 : Nat) : Int) := by omega
      obtain ⟨g, rfl⟩ : ∃ g, f = g + 1 := by
        cases f with
        | zero => simp at hk; omega
        | succ g => exact ⟨g, rfl⟩
      have hk3 : k / 2 < 2 ^ g := by rw [Nat.pow_succ] at hk; omega
      have HR2 : Hid ((r ^^^ k % 2) ^^^ pr g (k / 2) = pr 7 n) := by unfold Hid; rw [Nat.xor_assoc]; exact HR.out
      have e3 : bits BinOp.xor IntKind.u8 (r : Int) ((k % 2 : Nat) : Int) = ((r ^^^ k % 2 : Nat) : Int) := u8_xor_nat r (k % 2) (by omega) (by omega)
      have hb : r ^^^ k % 2 ≤ 1 := Cv.xor_bit hr (by omega)
      have hm : k % 2 ≤ 1 := by omega
      have hkk : k / 2 < k := by omega
      obtain ⟨m, hme⟩ : ∃ m, m = k % 2 := ⟨_, rfl⟩
      obtain ⟨j, hje⟩ : ∃ j, j = k / 2 := ⟨_, rfl⟩
      rw [← hme] at e1 e3 hb hm HR2
      rw [← hje] at e2 hk3 HR2 hkk
      clear hme hje hk HR
      go_wp2
      go_round
      case rel => exact ⟨g, j, r ^^^ m, by omega, hk3, by omega, hb, rfl, rfl, HR2.out⟩
      case measure => simp [intOf] <;> omega
    · go_wp2
      go_ret
      refine ⟨ret_int' ?_, rfl⟩
      rw [← HR.out, show k = 0 by omega, pr_zero, Nat.xor_zero]
set_option maxHeartbeats 400000 in
/-- conv.word. -/
theorem wordC (s x : Nat) (w : World) (hs : s < 64) (hx : x ≤ 1) : Calls Tryd.prog 163 #[.int .i64 (s : Int), .int .u8 (x : Int)] w fun e w' => e = .returned (.int .i64 ((64 * x + s : Nat) : Int)) ∧ w = w' := by
  have e1 : bits BinOp.or IntKind.i64 ((x : Int) * 64) (s : Int) = ((64 * x + s : Nat) : Int) := by
    have := i64_or_nat (64 * x) s (by omega) (by omega)
    rw [word_or s hs x (by omega)] at this
    rw [← this]
    congr 1
    omega
  generalize 64 * x + s = q at *
  go_enter Tryd.func163, Tryd.ntmps163
  go_wp2
  go_ret
  exact ⟨rfl, rfl⟩
set_option maxHeartbeats 400000 in
/-- conv.behind. -/
theorem behindC (q : Nat) (w : World) (hq : q < 128) : Calls Tryd.prog 162 #[.int .i64 (q : Int)] w fun e w' => e = .returned (.int .i64 ((q / 2 : Nat) : Int)) ∧ w = w' := by
  go_enter Tryd.func162, Tryd.ntmps162
  go_wp2
  go_ret
  exact ⟨ret_int' (by omega), rfl⟩
set_option maxHeartbeats 400000 in
/-- conv.right of a state and a bit. -/
theorem convRight (s x : Nat) (w : World) (hs : s < 64) (hx : x ≤ 1) : Calls Tryd.prog 161 #[.int .i64 (s : Int), .int .u8 (x : Int)] w fun e w' => e = .returned (.bool true) ∧ w = w' := by
  have hx2 : decide ((x : Int) ≤ 1) = true := by simp; omega
  go_enter Tryd.func161, Tryd.ntmps161
  go_wp2
  go_ret
  exact ⟨rfl, rfl⟩
set_option maxHeartbeats 400000 in
/-- conv.right else. -/
theorem convRightNo (s : Int) (x : Nat) (w : World) (h : s < 0 ∨ 63 < s ∨ 1 < x) : Calls Tryd.prog 161 #[.int .i64 s, .int .u8 (x : Int)] w fun e w' => e = .returned (.bool false) ∧ w = w' := by
  by_cases h1 : 0 ≤ s
  · by_cases h2 : s < 64
    · have h3 : decide ((x : Int) ≤ 1) = false := by simp; omega
      go_enter Tryd.func161, Tryd.ntmps161
      go_wp2
      go_ret
      exact ⟨rfl, rfl⟩
    · go_enter Tryd.func161, Tryd.ntmps161
      go_wp2
      go_ret
      exact ⟨rfl, rfl⟩
  · go_enter Tryd.func161, Tryd.ntmps161
    go_wp2
    go_ret
    exact ⟨rfl, rfl⟩
set_option maxHeartbeats 400000 in
/-- conv.Steps. -/
theorem stepsC (n : Nat) (w : World) (hn : n ≤ 4611686018427387904) : Calls Tryd.prog 97 #[.int .i64 (n : Int)] w fun e w' => e = .returned (.int .i64 ((n + 6 : Nat) : Int)) ∧ w = w' := by
  go_enter Tryd.func97, Tryd.ntmps97
  go_wp2
  go_ret
  exact ⟨ret_int' (by omega), rfl⟩
end Go.Proofs.YtknfpdlomgllhaaDoor

namespace Go.Proofs.YtknfpdlomgllhaaDoor
open Go.RowKit
set_option maxRecDepth 100000
set_option linter.unusedVariables false

/-- Four bits as an array. -/
def F4 (a b c d : Nat) : Value := .agg #[.int .u8 (a : Int), .int .u8 (b : Int), .int .u8 (c : Int), .int .u8 (d : Int)]

set_option maxHeartbeats 1000000 in
/-- conv.told. -/
theorem toldC (q : Nat) (w : World) (hq : q < 128) (hT : Taps w) :
    Calls Tryd.prog 164 #[.int .i64 (q : Int)] w fun e w' => e = .returned (F4 (pr 7 (q &&& 79)) (pr 7 (q &&& 87)) (pr 7 (q &&& 109)) (pr 7 (q &&& 121))) ∧ Below w.heap.size w w' := by
  have k0 := hT.c0
  have k1 := hT.c1
  have k2 := hT.c2
  have k3 := hT.c3
  have i0 : ∀ w, (Instr.index 22 (.agg #[.int .i64 79, .int .i64 87, .int .i64 109, .int .i64 121]) (.int .i64 0)).run Tryd.prog w = .ok (.int .i64 79) w := fun _ => by kernel_rfl
  have i1 : ∀ w, (Instr.index 22 (.agg #[.int .i64 79, .int .i64 87, .int .i64 109, .int .i64 121]) (.int .i64 1)).run Tryd.prog w = .ok (.int .i64 87) w := fun _ => by kernel_rfl
  have i2 : ∀ w, (Instr.index 22 (.agg #[.int .i64 79, .int .i64 87, .int .i64 109, .int .i64 121]) (.int .i64 2)).run Tryd.prog w = .ok (.int .i64 109) w := fun _ => by kernel_rfl
  have i3 : ∀ w, (Instr.index 22 (.agg #[.int .i64 79, .int .i64 87, .int .i64 109, .int .i64 121]) (.int .i64 3)).run Tryd.prog w = .ok (.int .i64 121) w := fun _ => by kernel_rfl
  have a0 : bits BinOp.and IntKind.i64 (q : Int) 79 = ((q &&& 79 : Nat) : Int) := i64_and_nat q 79 (by omega) (by omega)
  have a1 : bits BinOp.and IntKind.i64 (q : Int) 87 = ((q &&& 87 : Nat) : Int) := i64_and_nat q 87 (by omega) (by omega)
  have a2 : bits BinOp.and IntKind.i64 (q : Int) 109 = ((q &&& 109 : Nat) : Int) := i64_and_nat q 109 (by omega) (by omega)
  have a3 : bits BinOp.and IntKind.i64 (q : Int) 121 = ((q &&& 121 : Nat) : Int) := i64_and_nat q 121 (by omega) (by omega)
  have l0 : q &&& 79 < 128 := Nat.and_lt_two_pow (n := 7) _ (by omega)
  have l1 : q &&& 87 < 128 := Nat.and_lt_two_pow (n := 7) _ (by omega)
  have l2 : q &&& 109 < 128 := Nat.and_lt_two_pow (n := 7) _ (by omega)
  have l3 : q &&& 121 < 128 := Nat.and_lt_two_pow (n := 7) _ (by omega)
  have C0 := Lib.hid (fun w => oddC (q &&& 79) w l0)
  have C1 := Lib.hid (fun w => oddC (q &&& 87) w l1)
  have C2 := Lib.hid (fun w => oddC (q &&& 109) w l2)
  have C3 := Lib.hid (fun w => oddC (q &&& 121) w l3)
  generalize q &&& 79 = q0 at *
  generalize q &&& 87 = q1 at *
  generalize q &&& 109 = q2 at *
  generalize q &&& 121 = q3 at *
  generalize pr 7 q0 = p0 at *
  generalize pr 7 q1 = p1 at *
  generalize pr 7 q2 = p2 at *
  generalize pr 7 q3 = p3 at *
  have hpos := hT.pos
  clear hT
  go_enter Tryd.func164, Tryd.ntmps164
  go_wp2
  refine wp_loop_rounds 5 ?_
  rw [rounds_succ]
  go_wp2_with (go_at_call 177; refine (C0.out _).mono ?_; rintro e w' ⟨rfl, rfl⟩)
  rw [rounds_succ]
  go_wp2_with (go_at_call 177; refine (C1.out _).mono ?_; rintro e w' ⟨rfl, rfl⟩)
  rw [rounds_succ]
  go_wp2_with (go_at_call 177; refine (C2.out _).mono ?_; rintro e w' ⟨rfl, rfl⟩)
  rw [rounds_succ]
  go_wp2_with (go_at_call 177; refine (C3.out _).mono ?_; rintro e w' ⟨rfl, rfl⟩)
  rw [rounds_succ]
  go_wp2
  refine bodyPost_ret (v := F4 p0 p1 p2 p3) ?_ rfl ⟨rfl, ?_⟩
  · exact results_cell_row (P := Tryd.prog) (fn := Tryd.f164) (p := 2) (ty := 104) rfl _ _ w.heap.size 104 #[.int .u8 (p0 : Int), .int .u8 (p1 : Int), .int .u8 (p2 : Int), .int .u8 (p3 : Int)] (0, 0) _ rfl (heap_alloc2_old w _ _) Tryd.underlying104 rfl (by kernel_rfl)
  · exact ((Below.refl _ _).alloc (Nat.le_refl _) _).alloc (by simp) _

theorem told_out (s x : Nat) (hs : s < 64) (hx : x ≤ 1) : F4 (pr 7 ((64 * x + s) &&& 79)) (pr 7 ((64 * x + s) &&& 87)) (pr 7 ((64 * x + s) &&& 109)) (pr 7 ((64 * x + s) &&& 121)) = F4 (Cv.out s x 0) (Cv.out s x 1) (Cv.out s x 2) (Cv.out s x 3) := by
  have h0 := pr_out s hs x (by omega) 0 (by omega)
  have h1 := pr_out s hs x (by omega) 1 (by omega)
  have h2 := pr_out s hs x (by omega) 2 (by omega)
  have h3 := pr_out s hs x (by omega) 3 (by omega)
  simp only [tapOf] at h0 h1 h2 h3
  rw [h0, h1, h2, h3]
/-- conv.told of a state and a bit. -/
theorem toldOut (s x : Nat) (w : World) (hs : s < 64) (hx : x ≤ 1) (hT : Taps w) :
    Calls Tryd.prog 164 #[.int .i64 ((64 * x + s : Nat) : Int)] w fun e w' => e = .returned (F4 (Cv.out s x 0) (Cv.out s x 1) (Cv.out s x 2) (Cv.out s x 3)) ∧ Below w.heap.size w w' := by
  have := toldC (64 * x + s) w (by omega) hT
  rw [told_out s x hs hx] at this
  exact this
end Go.Proofs.YtknfpdlomgllhaaDoor

namespace Go.Proofs.YtknfpdlomgllhaaDoor
open Go.RowKit
set_option maxRecDepth 100000
set_option linter.unusedVariables false

/-- Four bits as cells. -/
def C4 (a b c d : Nat) : Array Value := #[.int .u8 (a : Int), .int .u8 (b : Int), .int .u8 (c : Int), .int .u8 (d : Int)]
theorem F4_C4 (a b c d : Nat) : F4 a b c d = .agg (C4 a b c d) := rfl
theorem C4_size (a b c d : Nat) : (C4 a b c d).size = 4 := rfl
theorem C4_one (a b c d : Nat) : (C4 a b c d).all (·.oneCell') = true := by simp [C4, Value.oneCell']
theorem info4 : (Tryd.prog.info? 104).map (·.size) = some 4 := by kernel_rfl

set_option maxHeartbeats 1000000 in
/-- conv.Out. -/
theorem outC (s x : Nat) (w : World) (hs : s < 64) (hx : x ≤ 1) (hT : Taps w) :
    Calls Tryd.prog 148 #[.int .i64 (s : Int), .int .u8 (x : Int)] w fun e w' => e = .returned (.tuple #[F4 (Cv.out s x 0) (Cv.out s x 1) (Cv.out s x 2) (Cv.out s x 3), .int .i64 0]) ∧ Below w.heap.size w w' := by
  have bel0 : Below w.heap.size w (w.alloc (.cells (C4 0 0 0 0) 104)) := (Below.refl _ _).alloc (Nat.le_refl _) _
  have C1 := Lib.hid (fun w => convRight s x w hs hx)
  have C2 := Lib.hid (fun w => wordC s x w hs hx)
  have C3 := Lib.hid (toldOut s x _ hs hx (hT.after bel0))
  have hL := laid_alloc w 104 (C4 0 0 0 0)
  generalize 64 * x + s = q at *
  generalize Cv.out s x 0 = o0 at *
  generalize Cv.out s x 1 = o1 at *
  generalize Cv.out s x 2 = o2 at *
  generalize Cv.out s x 3 = o3 at *
  rw [F4_C4] at *
  clear hT
  go_enter Tryd.func148, Tryd.ntmps148
  go_wp2_with (first | (go_at_call 161; refine (C1.out _).mono ?_; rintro e w' ⟨rfl, rfl⟩) | (go_at_call 163; refine (C2.out _).mono ?_; rintro e w' ⟨rfl, rfl⟩) | (go_at_call 164; refine C3.out.mono ?_; rintro e w1 ⟨rfl, hb1⟩; have hg := hL.row.after hb1) | (refine at_store rfl 104 _ _ rfl w.heap.size (C4 o0 o1 o2 o3) rfl rfl 104 (C4 0 0 0 0) hg info4 rfl (C4_one _ _ _ _) ?_; intro w2 hu))
  refine bodyPost_ret (v := .tuple #[.agg (C4 o0 o1 o2 o3), .int .i64 0]) (results_row_tmp rfl _ _ w.heap.size 104 _ _ rfl _ rfl hu.row Tryd.underlying104 rfl info4) rfl ⟨rfl, ?_⟩
  exact (bel0.trans (hb1.mono (by simp))).trans (hu.below (Nat.le_refl _))

set_option maxHeartbeats 400000 in
/-- conv.Out of what there is none of. -/
theorem outNo (s : Int) (x : Nat) (w : World) (h : s < 0 ∨ 63 < s ∨ 1 < x) :
    Calls Tryd.prog 148 #[.int .i64 s, .int .u8 (x : Int)] w fun e w' => e = .returned (.tuple #[F4 0 0 0 0, .int .i64 1]) ∧ Below w.heap.size w w' := by
  have C1 := Lib.hid (fun w => convRightNo s x w h)
  have bel0 : Below w.heap.size w (w.alloc (.cells (C4 0 0 0 0) 104)) := (Below.refl _ _).alloc (Nat.le_refl _) _
  have hL := laid_alloc w 104 (C4 0 0 0 0)
  clear h
  go_enter Tryd.func148, Tryd.ntmps148
  go_wp2_with (first | (go_at_call 161; refine (C1.out _).mono ?_; rintro e w' ⟨rfl, rfl⟩))
  refine bodyPost_ret (v := .tuple #[.agg (C4 0 0 0 0), .int .i64 1]) (results_row_tmp rfl _ _ w.heap.size 104 (C4 0 0 0 0) _ rfl _ rfl hL.row Tryd.underlying104 rfl info4) rfl ⟨rfl, bel0⟩

theorem half_word (s x : Nat) : (64 * x + s) / 2 = Cv.nx s x := by unfold Cv.nx; omega
set_option maxHeartbeats 400000 in
/-- conv.Next. -/
theorem nextC (s x : Nat) (w : World) (hs : s < 64) (hx : x ≤ 1) :
    Calls Tryd.prog 147 #[.int .i64 (s : Int), .int .u8 (x : Int)] w fun e w' => e = .returned (.tuple #[.int .i64 (Cv.nx s x : Nat), .int .i64 0]) ∧ w = w' := by
  have C1 := Lib.hid (convRight s x w hs hx)
  have C2 := Lib.hid (wordC s x w hs hx)
  have C3 := Lib.hid (behindC (64 * x + s) w (by omega))
  rw [half_word] at C3
  generalize 64 * x + s = q at *
  generalize Cv.nx s x = t at *
  go_enter Tryd.func147, Tryd.ntmps147
  go_wp2_with (first | (go_at_call 161; refine C1.out.mono ?_; rintro e w' ⟨rfl, rfl⟩) | (go_at_call 163; refine C2.out.mono ?_; rintro e w' ⟨rfl, rfl⟩) | (go_at_call 162; refine C3.out.mono ?_; rintro e w' ⟨rfl, rfl⟩))
  go_ret2
  exact ⟨rfl, rfl⟩
set_option maxHeartbeats 400000 in
/-- conv.Next of what there is none of. -/
theorem nextNo (s : Int) (x : Nat) (w : World) (h : s < 0 ∨ 63 < s ∨ 1 < x) :
    Calls Tryd.prog 147 #[.int .i64 s, .int .u8 (x : Int)] w fun e w' => e = .returned (.tuple #[.int .i64 0, .int .i64 1]) ∧ w = w' := by
  have C1 := Lib.hid (convRightNo s x w h)
  clear h
  go_enter Tryd.func147, Tryd.ntmps147
  go_wp2_with (go_at_call 161; refine C1.out.mono ?_; rintro e w' ⟨rfl, rfl⟩)
  go_ret2
  exact ⟨rfl, rfl⟩
end Go.Proofs.YtknfpdlomgllhaaDoor

namespace Go.Proofs.YtknfpdlomgllhaaDoor
open Go.RowKit
set_option maxRecDepth 100000
set_option linter.unusedVariables false

theorem Own.whole {w : World} {base : Nat} {e : TypeId} {g n : Nat} {xs : List Value} (h : Own w base e (some ⟨g, 0, none⟩) n n xs) : w.heap[g]? = some (.cells xs.toArray e (0, 0)) := by
  rcases h.row.2 with ⟨hv, _⟩ | ⟨g', cap, cur, hv, hb, hg, h1, h2, h3, h4⟩
  · cases hv
  · injection hv with e1 e2 e3
    injection e1 with e1
    injection e1 with e1
    subst e1 e3
    rw [hg]
    have : cur = xs.toArray := by
      rw [← h4, List.take_of_length_le (by rw [Array.length_toList]; omega)]
    rw [this]
theorem splice_front (l : List Nat) (m : Nat) : splice (U8 (List.replicate (l.length + m) 0)) 0 (U8 l) = U8 (l ++ List.replicate m 0) := by
  unfold splice
  rw [List.take_zero, List.nil_append, Nat.zero_add, U8_length, U8_append]
  congr 1
  unfold U8
  rw [← List.map_drop, List.drop_replicate, show l.length + m - l.length = m by omega]
theorem info5s : (Tryd.prog.info? 5).map (·.size) = some 1 := by kernel_rfl
/-- Six noughts behind a list. -/
theorem ended_getD (l : List Nat) (k : Nat) : (l ++ List.replicate 6 0).getD k 0 = l.getD k 0 := by
  by_cases h : k < l.length
  · rw [Bm.getD_left _ _ _ _ h]
  · rw [Bm.getD_right _ _ _ _ (by omega), Bm.getD_ge l _ _ (by omega)]
    by_cases h2 : k - l.length < 6
    · rw [Bm.getD_lt _ _ _ (by rw [List.length_replicate]; exact h2), List.getElem_replicate]
    · rw [Bm.getD_ge _ _ _ (by rw [List.length_replicate]; omega)]
theorem Z4_eq : (Tryd.prog.info? 104).bind (fun i => i.zero.map (fun z => z.cells)) = some (C4 0 0 0 0) := by kernel_rfl
theorem C4_rd (w : World) (g : Nat) (t : TypeId) (a b c d : Nat) (h : Blk w g t (C4 a b c d)) : Rd w w.heap.size (some ⟨g, 0, none⟩) 4 (U8 [a, b, c, d]) :=
  h.rd 0 4 _ (fun i u hu => by rw [Nat.zero_add]; simpa [C4, U8] using hu) rfl
/-- What a call gives that makes a []byte, and no error. -/
def MadeOk (w : World) (bs : List Nat) (e : Ending) (w' : World) : Prop := ∃ A n c, e = .returned (.tuple #[.slice A n c, .int .i64 0]) ∧ Own w' w.heap.size 5 A n c (U8 bs) ∧ Below w.heap.size w w'

end Go.Proofs.YtknfpdlomgllhaaDoor
