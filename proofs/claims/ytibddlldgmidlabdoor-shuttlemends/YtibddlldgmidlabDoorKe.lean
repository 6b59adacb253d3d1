/-
  Contracts of layer 6's reference: Code, List.
-/
import Derived.Test.YtibddlldgmidlabDoorKd
import Derived.Test.YtibddlldgmidlabDoorMw
namespace Go.Proofs.YtibddlldgmidlabDoor
open Go.RowKit
set_option maxRecDepth 100000
set_option linter.unusedVariables false

/-- What the first j streams tell at a step. -/
def fourTo (l : List Nat) (t : Nat) : Nat → List Nat
  | 0 => []
  | j + 1 => fourTo l t j ++ [Cv.bitAt l t j]
theorem fourTo_four (l : List Nat) (t : Nat) : fourTo l t 4 = Cv.four l t := rfl

set_option maxHeartbeats 1000000 in
/-- The reference's Code. -/
theorem refCode (A : Option Addr) (n c : Nat) (l : List Nat) (w : World) (hr : Rd w w.heap.size A n (U8 l)) (hl : ∀ x ∈ l, x ≤ 1) (hn : n ≤ 65536) :
    Calls Tryd.prog 26 #[.slice A n c] w (Made w (Cv.code l)) := by
  have HN := Lib.hid hr.len8
  go_enter Tryd.func26, Tryd.ntmps26
  go_wp2
  go_loopw [3, 4] (fun s i wr => ∃ k : Nat, k ≤ n + 6 ∧ i = .int .i64 k ∧ ∃ A1 c1, s = .slice A1 (4 * k) c1 ∧ Own wr w.heap.size 5 A1 (4 * k) c1 (U8 (Cv.codeTo l k)) ∧ Below w.heap.size w wr) (fun _ i _ => n + 6 - (intOf i).toNat)
  case atStart => exact ⟨0, Nat.zero_le _, rfl, none, 0, rfl, Own.nil _ _ _, Below.refl _ _⟩
  case round =>
    obtain ⟨k, hk, rfl, A1, c1, rfl, hown, hbel⟩ := hrel
    by_cases hlt : k < n + 6
    · have d0 : (k : Int) < (n : Int) + 6 := by omega
      go_wp2
      go_loopw [3, 5] (fun s i wr2 => ∃ j : Nat, j ≤ 4 ∧ i = .int .i64 j ∧ ∃ A2 c2, s = .slice A2 (4 * k + j) c2 ∧ Own wr2 w.heap.size 5 A2 (4 * k + j) c2 (U8 (Cv.codeTo l k ++ fourTo l k j)) ∧ Below w.heap.size w wr2) (fun _ i _ => 4 - (intOf i).toNat)
      case atStart => exact ⟨0, by omega, rfl, A1, c1, rfl, by simpa [fourTo] using hown, hbel⟩
      case round =>
        clear hown hbel
        obtain ⟨j, hj, rfl, A2, c2, rfl, hown, hbel⟩ := hrel
        have hsz := hbel.size
        by_cases hj4 : j < 4
        · have C := Lib.hid (bitC A n c k j l wr ((hr.below hbel).up hsz) hl hn (by omega) hj4)
          have HF : Hid (fourTo l k (j + 1) = fourTo l k j ++ [Cv.bitAt l k j]) := rfl
          obtain ⟨y, hy⟩ : ∃ y, y = Cv.bitAt l k j := ⟨_, rfl⟩
          rw [← hy] at C HF
          clear hy
          go_wp2_with (first | (go_at_call 49; refine C.out.mono ?_; rintro e w4 ⟨rfl, hb4⟩; have hown4 := hown.below hb4 (Nat.le_refl _); have hbel4 := hbel.trans (hb4.mono hsz)) | (at_builtin; refine app8 _ rfl _ _ rfl w.heap.size _ _ _ _ y _ rfl rfl hown4 rfl (by omega) hbel4.size ?_; intro A3 c3 w3 hown3 hgrow3))
          go_roundw
          case rel =>
            refine ⟨j + 1, by omega, by go_num, A3, c3, slice_len (by omega), ?_, hbel4.grown hgrow3 hbel4.size (fun j hj => (hown4.block j hj).1)⟩
            refine hown3.to (by omega) ?_
            rw [HF.out, List.append_assoc]
          case measure => simp [intOf] <;> omega
        · go_wp2
          go_roundw
          case rel =>
            refine ⟨k + 1, by omega, by go_num, A2, c2, slice_len (by omega), ?_, hbel⟩
            refine hown.to (by omega) ?_
            rw [show j = 4 by omega, fourTo_four]
            rfl
          case measure => simp [intOf] <;> omega
    · have d0 : ¬ (k : Int) < (n : Int) + 6 := by omega
      go_wp2
      go_ret
      refine ⟨A1, 4 * k, c1, rfl, hown.to rfl ?_, hbel⟩
      unfold Cv.code
      rw [← HN.out, show k = n + 6 by omega]

/-- The six bits of a state, the oldest first. -/
def lsTo (s : Nat) : Nat → List Nat
  | 0 => []
  | k + 1 => lsTo s k ++ [s / 2 ^ k % 2]
/-- They and one more. -/
def ls (s x : Nat) : List Nat := lsTo s 6 ++ [x]
theorem ls_bit (s x : Nat) (hx : x ≤ 1) : ∀ y ∈ ls s x, y ≤ 1 := by
  have key : ∀ k, ∀ y ∈ lsTo s k, y ≤ 1 := by
    intro k
    induction k with
    | zero => intro y hy; cases hy
    | succ k ih =>
      intro y hy
      rcases List.mem_append.1 hy with h | h
      · exact ih y h
      · simp at h; omega
  intro y hy
  rcases List.mem_append.1 hy with h | h
  · exact key 6 y h
  · simp at h; omega
theorem ls_len (s x : Nat) : (ls s x).length = 7 := rfl
theorem ls_out : ∀ s, s < 64 → ∀ x, x < 2 → ∀ i, i < 4 → Cv.bitAt (ls s x) 6 i = Cv.out s x i := by decide +kernel
theorem i64_bit (a k : Nat) (ha : a < 4294967296) : bits BinOp.and IntKind.i64 ((a : Int) / 2 ^ k) 1 = ((a / 2 ^ k % 2 : Nat) : Int) := by
  have e : ((a : Int) / 2 ^ k) = ((a / 2 ^ k : Nat) : Int) := by simp
  have hle : a / 2 ^ k ≤ a := Nat.div_le_self _ _
  rw [e, show (1 : Int) = ((1 : Nat) : Int) from rfl, i64_and_nat _ _ (by omega) (by omega), nat_mask1]

set_option maxHeartbeats 1000000 in
/-- The reference's List. -/
theorem listC (s x : Nat) (w : World) (hs : s < 64) (hx : x ≤ 1) :
    Calls Tryd.prog 71 #[.int .i64 (s : Int), .int .u8 (x : Int)] w (Made w (ls s x)) := by
  go_enter Tryd.func71, Tryd.ntmps71
  go_wp2
  go_loopw [5, 6] (fun v i wr => ∃ k : Nat, k ≤ 6 ∧ i = .int .i64 k ∧ ∃ A1 c1, v = .slice A1 k c1 ∧ Own wr w.heap.size 5 A1 k c1 (U8 (lsTo s k)) ∧ Below w.heap.size w wr) (fun _ i _ => 6 - (intOf i).toNat)
  case atStart => exact ⟨0, Nat.zero_le _, rfl, none, 0, rfl, Own.nil _ _ _, Below.refl _ _⟩
  case round =>
    obtain ⟨k, hk, rfl, A1, c1, rfl, hown, hbel⟩ := hrel
    have hsz := hbel.size
    by_cases hlt : k < 6
    · have e1 := i64_bit s k (by omega)
      have hy : s / 2 ^ k % 2 ≤ 1 := by omega
      have HF : Hid (lsTo s (k + 1) = lsTo s k ++ [s / 2 ^ k % 2]) := rfl
      generalize s / 2 ^ k % 2 = y at *
      go_wp2_with (at_builtin; refine app8 _ rfl _ _ rfl w.heap.size _ _ _ _ y _ rfl rfl hown rfl (by omega) hsz ?_; intro A3 c3 w3 hown3 hgrow3)
      go_roundw
      case rel =>
        refine ⟨k + 1, by omega, by go_num, A3, c3, rfl, ?_, hbel.grown hgrow3 hsz (fun j hj => (hown.block j hj).1)⟩
        rw [HF.out]
        exact hown3
      case measure => simp [intOf] <;> omega
    · go_wp2_with (at_builtin; refine app8 _ rfl _ _ rfl w.heap.size _ _ _ _ x _ rfl rfl hown rfl (by omega) hsz ?_; intro A3 c3 w3 hown3 hgrow3)
      go_ret
      refine ⟨A3, k + 1, c3, rfl, hown3.to rfl ?_, hbel.grown hgrow3 hsz (fun j hj => (hown.block j hj).1)⟩
      rw [show k = 6 by omega]
      rfl
end Go.Proofs.YtibddlldgmidlabDoor
