/-
  Layer 11: bytes as a block; Bits, place, part.
-/
import Derived.Test.YtknfpdlomgllhaaPi
import Derived.Test.YtknfpdlomgllhaaBk
import Derived.Test.YtknfpdlomgllhaaMc
namespace Go.Proofs.Ytknfpdlomgllhaa
open Go.RowKit
set_option maxRecDepth 100000
set_option linter.unusedVariables false
set_option linter.unusedSimpArgs false

/-- Bytes as a block. -/
def B8 (bs : List Nat) : Array Value := (U8 bs).toArray
theorem B8_size (bs : List Nat) : (B8 bs).size = bs.length := by unfold B8; rw [List.size_toArray, U8_length]
theorem B8_get (bs : List Nat) (i : Nat) (h : i < bs.length) : (B8 bs)[i]? = some (.int .u8 ((bs.getD i 0 : Nat) : Int)) := by
  unfold B8; rw [List.getElem?_toArray, U8_get _ i h]
theorem B8_set (bs : List Nat) (i x : Nat) : (B8 bs).setIfInBounds i (.int .u8 (x : Int)) = B8 (bs.set i x) := by
  unfold B8; rw [← U8_set]; simp
theorem Blk.rd8 {w : World} {g n : Nat} {t : TypeId} {bs : List Nat} (h : Blk w g t (B8 bs)) (hn : bs.length = n) : Rd w w.heap.size (some ⟨g, 0, none⟩) n (U8 bs) :=
  h.rd 0 n (U8 bs) (fun i u hu => by rw [Nat.zero_add]; unfold B8; rw [List.getElem?_toArray]; exact hu) (by rw [U8_length]; exact hn)
/-- Bytes that are read, as a string. -/
theorem Rd.convS {w : World} {B b off n c : Nat} {bs : List Nat} (h : Rd w B (some ⟨b, off, none⟩) n (U8 bs)) (W : World) (hb : Below B w W) :
    (convert 22 9 (.slice (some ⟨b, off, none⟩) n c)).run Try.prog W = .ok (.string (str bs)) W := by
  have hl := h.len8
  refine run_convert_bytes_arg W 22 5 Try.underlying22 Try.underlying5 b off n c _ (by simp [hl]) (fun i hi => ?_) 9 Try.underlying9
  obtain ⟨b', off', e, _, hc⟩ := (h.below hb).cell8 i hi
  injection e with e
  injection e with e1 e2
  subst e1 e2
  rw [hc]
  congr 2
  simp [List.getD, (show i < bs.length by omega)]
theorem Blk.convB {w : World} {g n c : Nat} {t : TypeId} {bs : List Nat} (h : Blk w g t (B8 bs)) (hn : bs.length = n) : (convert 22 9 (.slice (some ⟨g, 0, none⟩) n c)).run Try.prog w = .ok (.string (str bs)) w :=
  (h.rd8 hn).convS w (Below.refl _ _)
/-- A list that is filled from the left. -/
theorem fill_set (L : List Nat) (k T : Nat) (hl : L.length = T) (hk : k < T) : (L.take k ++ List.replicate (T - k) 0).set k (L.getD k 0) = L.take (k + 1) ++ List.replicate (T - (k + 1)) 0 := by
  have h1 : (L.take k).length = k := by rw [List.length_take]; omega
  rw [List.set_append, h1, if_neg (by omega), Nat.sub_self, show T - k = (T - (k + 1)) + 1 by omega, List.replicate_succ, List.set_cons_zero,
    List.take_succ_eq_append_getElem (by omega), ← Bm.getD_lt L 0 k (by omega), List.append_assoc]
  rfl
theorem fill_length (L : List Nat) (k T : Nat) (hl : L.length = T) (hk : k ≤ T) : (L.take k ++ List.replicate (T - k) 0).length = T := by
  rw [List.length_append, List.length_take, List.length_replicate]; omega
theorem fill_end (L : List Nat) (T : Nat) (hl : L.length = T) : L.take T ++ List.replicate (T - T) 0 = L := by
  rw [Nat.sub_self, List.replicate_zero, List.append_nil, List.take_of_length_le (by omega)]
theorem own_blk8 {w : World} {base : Nat} {g n : Nat} {bs : List Nat} (h : Own w base 5 (some ⟨g, 0, none⟩) n n (U8 bs)) : Blk w g 5 (B8 bs) := by
  rcases h.row.2 with ⟨hv, _⟩ | ⟨g', cap, cur, hv, hb, hg, h1, h2, h3, h4⟩
  · cases hv
  · injection hv with e1 e2 e3
    injection e1 with e1
    injection e1 with e1
    subst e1 e3
    show w.heap[g]? = _
    rw [hg]
    have : cur = (U8 bs).toArray := by
      rw [← h4, List.take_of_length_le (by rw [Array.length_toList]; omega)]
    rw [this]
    rfl
theorem info5one : (Try.prog.info? 5).map (·.size) = some 1 := by kernel_rfl
set_option maxHeartbeats 400000 in
/-- version.Bits. -/
theorem vBits (n : Nat) (w : World) (hn : n ≤ 4611686018427387904) : Calls Try.prog 26 #[.int .i64 (n : Int)] w fun e w' => e = .returned (.int .i64 ((n + 6 : Nat) : Int)) ∧ w = w' := by
  have C : Hid (Calls Try.prog 37 #[.int .i64 (n : Int)] w fun e w' => e = .returned (.int .i64 ((n + 6 : Nat) : Int)) ∧ w = w') := by
    unfold Hid
    go_enter Try.func37, Try.ntmps37
    go_wp2
    go_ret
    exact ⟨ret_int' (by omega), rfl⟩
  generalize n + 6 = m at *
  go_enter Try.func26, Try.ntmps26
  go_wp2_with (go_at_call 37; refine C.out.mono ?_; rintro e w' ⟨rfl, rfl⟩)
  go_ret
  exact ⟨rfl, rfl⟩
set_option maxHeartbeats 400000 in
/-- version.place. -/
theorem vplace (v t : Nat) (w : World) (hv : v < 4) (ht : t ≤ 1000000) : Calls Try.prog 24 #[.int .i64 (v : Int), .int .i64 (t : Int)] w fun e w' => e = .returned (.int .i64 ((4 * t + Cv.st v t : Nat) : Int)) ∧ w = w' := by
  have C := Lib.hid (patStream v t w hv (by omega))
  have hs := Cv.st_lt v t
  have e1 : 4 * (t : Int) + ((Cv.st v t : Nat) : Int) = ((4 * t + Cv.st v t : Nat) : Int) := by omega
  generalize 4 * t + Cv.st v t = p at *
  generalize Cv.st v t = s at *
  go_enter Try.func24, Try.ntmps24
  go_wp2_with (go_at_call 35; refine C.out.mono ?_; rintro e w' ⟨rfl, rfl⟩)
  go_ret
  exact ⟨rfl, rfl⟩
/-- What a call gives that makes bytes, in a block of their own. -/
def PartOk (w : World) (T : Nat) (bs : List Nat) (e : Ending) (w' : World) : Prop := ∃ g, e = .returned (.slice (some ⟨g, 0, none⟩) T T) ∧ w.heap.size ≤ g ∧ Blk w' g 5 (B8 bs) ∧ Below w.heap.size w w'
set_option maxHeartbeats 400000 in
/-- version.part. -/
theorem vpart (A : Option Addr) (n c T v : Nat) (l : List Nat) (w : World) (hr : Rd w w.heap.size A n (U8 l)) (hn : n = 4 * T) (hT : T ≤ 100000) (hv : v < 4) :
    Calls Try.prog 36 #[.slice A n c, .int .i64 (v : Int)] w (PartOk w T (Cv.pick l v)) := by
  obtain ⟨i0, hi0, hz0, hz1, hz2⟩ := info_parts info5
  have hl : (Cv.pick l v).length = T := by rw [Cv.pick_length, ← hr.len8, hn]; omega
  have HPG : Hid (∀ t, t < T → (Cv.pick l v).getD t 0 = l.getD (4 * t + Cv.st v t) 0) := fun t ht => Cv.pick_get l v t (by rw [← hr.len8, hn]; omega)
  have e4 : (n : Int) / 4 = (T : Int) := by omega
  have HT := Lib.hid hn
  clear hn
  generalize Cv.pick l v = L at *
  go_enter Try.func36, Try.ntmps36
  go_wp2_with (at_make; refine wpList_make_full _ rfl _ _ 22 rfl w.heap.size 5 i0 (.int .u8 0) 1 Try.underlying22 hi0 hz0 hz1 .i64 .i64 _ _ T rfl rfl (by first | rfl | omega) (by first | rfl | omega) (by rw [hz2]; omega) (by unfold maxLen; omega) (Nat.le_refl _) ?_; intro w0 hown0 hgrow0)
  have hbel0 : Below w.heap.size w w0 := (Below.refl _ _).grown hgrow0 (Nat.le_refl _) (fun k h => by cases h)
  have q0 : Blk w0 w.heap.size 5 (B8 (L.take 0 ++ List.replicate (T - 0) 0)) := by
    rw [made8] at hown0
    exact own_blk8 (n := T) ⟨hown0⟩
  clear hown0 hgrow0 hi0 hz0 hz1 hz2
  go_loopw [13] (fun i wr => ∃ k : Nat, k ≤ T ∧ i = .int .i64 k ∧ Blk wr w.heap.size 5 (B8 (L.take k ++ List.replicate (T - k) 0)) ∧ Below w.heap.size w wr) (fun i _ => T - (intOf i).toNat)
  case atStart => exact ⟨0, Nat.zero_le _, rfl, q0, hbel0⟩
  case round =>
    clear q0 hbel0
    obtain ⟨k, hk, rfl, q, bel⟩ := hrel
    by_cases hlt : k < T
    · have hs := Cv.st_lt v k
      have C := Lib.hid (vplace v k wr hv (by omega))
      have HS := Lib.hid (fill_set L k T hl hlt)
      have sz : k < (B8 (L.take k ++ List.replicate (T - k) 0)).size := by rw [B8_size, fill_length L k T hl hk]; exact hlt
      rw [HPG.out k hlt] at HS
      obtain ⟨p, hp⟩ : ∃ p, p = 4 * k + Cv.st v k := ⟨_, rfl⟩
      rw [← hp] at C HS
      have hpn : p < n := by have := HT.out; omega
      clear hp
      obtain ⟨b, off, rfl, hlt2, hcell⟩ := (hr.below bel).cell8 p hpn
      generalize l.getD p 0 = x at *
      generalize L.take k ++ List.replicate (T - k) 0 = M at *
      go_wp2_with (first | (go_at_call 24; refine C.out.mono ?_; rintro e w' ⟨rfl, rfl⟩) | (refine at_cell rfl 5 _ _ rfl w.heap.size k (.int .u8 (x : Int)) rfl rfl 5 (B8 M) q sz info5one rfl ?_; intro w6 h6))
      go_roundw
      case rel => exact ⟨k + 1, by omega, by go_num, by rw [← HS.out, ← B8_set]; exact h6.row, bel.trans (h6.below (Nat.le_refl _))⟩
      case measure => simp [intOf] <;> omega
    · obtain rfl : k = T := by omega
      rw [fill_end L k hl] at q
      go_wp2
      go_ret
      exact ⟨w.heap.size, rfl, Nat.le_refl _, q, bel⟩
end Go.Proofs.Ytknfpdlomgllhaa
