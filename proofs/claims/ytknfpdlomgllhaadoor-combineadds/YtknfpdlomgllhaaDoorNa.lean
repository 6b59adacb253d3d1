/-
  Layer 11: bytes as a block; Bits, place, part.
-/
import Derived.Test.YtknfpdlomgllhaaDoorPi
import Derived.Test.YtknfpdlomgllhaaDoorBk
import Derived.Test.YtknfpdlomgllhaaDoorMc
namespace Go.Proofs.YtknfpdlomgllhaaDoor
open Go.RowKit
set_option maxRecDepth 100000
set_option linter.unusedVariables false
set_option linter.unusedSimpArgs false

/-- Bytes as a block. -/
def B8 (bs : List Nat) : Array Value := (U8 bs).toArray
theorem B8_size (bs : List Nat) : (B8 bs).size = bs.length := by unfold B8; rw [List.size_toArray, U8_length]
theorem B8_get (bs : List Nat) (i : Nat) (h : i < bs.length) : (B8 bs)[i]? = some (.int .u8 ((bs.getD i 0 : Nat) : Int)) := by
  unfold B8; rw [List.getElem?_toArray, U8_get _ i h]
theorem B8_set (bs : List Nat) (i x : Nat) : (B8 bs).setIfInBounds i (.int .u8 (x : Int)) = B8 (bs.set i x) := by
  unfold B8; rw [← U8_set]; simp
theorem Blk.rd8 {w : World} {g n : Nat} {t : TypeId} {bs : List Nat} (h : Blk w g t (B8 bs)) (hn : bs.length = n) : Rd w w.heap.size (some ⟨g, 0, none⟩) n (U8 bs) :=
  h.rd 0 n (U8 bs) (fun i u hu => by rw [Nat.zero_add]; unfold B8; rw [List.getElem?_toArray]; exact hu) (by rw [U8_length]; exact hn)
/-- Bytes that are read, as a string. -/
theorem Rd.convS {w : World} {B b off n c : Nat} {bs : List Nat} (h : Rd w B (some ⟨b, off, none⟩) n (U8 bs)) (W : World) (hb : Below B w W) :
    (convert 23 9 (.slice (some ⟨b, off, none⟩) n c)).run Tryd.prog W = .ok (.string (str bs)) W := by
  have hl := h.len8
  refine run_convert_bytes_arg W 23 5 Tryd.underlying23 Tryd.underlying5 b off n c _ (by simp [hl]) (fun i hi => ?_) 9 Tryd.underlying9
  obtain ⟨b', off', e, _, hc⟩ := (h.below hb).cell8 i hi
  injection e with e
  injection e with e1 e2
  subst e1 e2
  rw [hc]
  congr 2
  simp [List.getD, (show i < bs.length by omega)]
theorem Blk.convB {w : World} {g n c : Nat} {t : TypeId} {bs : List Nat} (h : Blk w g t (B8 bs)) (hn : bs.length = n) : (convert 23 9 (.slice (some ⟨g, 0, none⟩) n c)).run Tryd.prog w = .ok (.string (str bs)) w :=
  (h.rd8 hn).convS w (Below.refl _ _)
/-- A list that is filled from the left. -/
theorem fill_set (L : List Nat) (k T : Nat) (hl : L.length = T) (hk : k < T) : (L.take k ++ List.replicate (T - k) 0).set k (L.getD k 0) = L.take (k + 1) ++ List.replicate (T - (k + 1)) 0 := by
  have h1 : (L.take k).length = k := by rw [List.length_take]; omega
  rw [List.set_append, h1, if_neg (by omega), Nat.sub_self, show T - k = (T - (k + 1)) + 1 by omega, List.replicate_succ, List.set_cons_zero,
    List.take_succ_eq_append_getElem (by omega), ← Bm.getD_lt L 0 k (by omega), List.append_assoc]
  rfl
theorem fill_length (L : List Nat) (k T : Nat) (hl : L.length = T) (hk : k ≤ T) : (L.take k ++ List.replicate (T - k) 0).length = T := by
  rw [List.length_append, List.length_take, List.length_replicate]; omega
theorem fill_end (L : List Nat) (T : Nat) (hl : L.length = T) : L.take T ++ List.replicate (T - T) 0 = L := by
  rw [Nat.sub_self, List.replicate_zero, List.append_nil, List.take_of_length_le (by omega)]
theorem own_blk8 {w : World} {base : Nat} {g n : Nat} {bs : List Nat} (h : Own w base 5 (some ⟨g, 0, none⟩) n n (U8 bs)) : Blk w g 5 (B8 bs) := by
  rcases h.row.2 with ⟨hv, _⟩ | ⟨g', cap, cur, hv, hb, hg, h1, h2, h3, h4⟩
  · cases hv
  · injection hv with e1 e2 e3
    injection e1 with e1
    injection e1 with e1
    subst e1 e3
    show w.heap[g]? = _
    rw [hg]
    have : cur = (U8 bs).toArray := by
      rw [← h4, List.take_of_length_le (by rw [Array.length_toList]; omega)]
    rw [this]
    rfl
theorem info5one : (Tryd.prog.info? 5).map (·.size) = some 1 := by kernel_rfl
set_option maxHeartbeats 400000 in
/-- version.Bits. -/
theorem vBits (n : Nat) (w : World) (hn : n ≤ 4611686018427387904) : Calls Tryd.prog 56 #[.int .i64 (n : Int)] w fun e w' => e = .returned (.int .i64 ((n + 6 : Nat) : Int)) ∧ w = w' := by
  have C : Hid (Calls Tryd.prog 97 #[.int .i64 (n : Int)] w fun e w' => e = .returned (.int .i64 ((n + 6 : Nat) : Int)) ∧ w = w') := by
    unfold Hid
    go_enter Tryd.func97, Tryd.ntmps97
    go_wp2
    go_ret
    exact ⟨ret_int' (by omega), rfl⟩
  generalize n + 6 = m at *
  go_enter Tryd.func56, Tryd.ntmps56
  go_wp2_with (go_at_call 97; refine C.out.mono ?_; rintro e w' ⟨rfl, rfl⟩)
  go_ret
  exact ⟨rfl, rfl⟩
/-- What a call gives that makes bytes, in a block of their own. -/
def PartOk (w : World) (T : Nat) (bs : List Nat) (e : Ending) (w' : World) : Prop := ∃ g, e = .returned (.slice (some ⟨g, 0, none⟩) T T) ∧ w.heap.size ≤ g ∧ Blk w' g 5 (B8 bs) ∧ Below w.heap.size w w'
end Go.Proofs.YtknfpdlomgllhaaDoor
