/-
  Layer 33: Put, Take.
-/
import Derived.Test.YtoiibjblaafgpabShc
namespace Go.Proofs.Ytoiibjblaafgpab
open Go.RowKit
set_option linter.unusedVariables false
set_option linter.unusedSimpArgs false
set_option maxRecDepth 100000

/-- Bytes as a block. -/
def Q8 (l : List Nat) : Array Value := (U8 l).toArray
theorem Q8_size (l : List Nat) : (Q8 l).size = l.length := by unfold Q8; rw [List.size_toArray, U8_length]
theorem Q8_get (l : List Nat) (i : Nat) (h : i < l.length) : (Q8 l)[i]? = some (.int .u8 ((l.getD i 0 : Nat) : Int)) := by
  unfold Q8; rw [List.getElem?_toArray, U8_get _ i h]
theorem Q8_set (l : List Nat) (i x : Nat) : (Q8 l).setIfInBounds i (.int .u8 (x : Int)) = Q8 (l.set i x) := by
  unfold Q8; rw [← U8_set]; simp
theorem mkQ8 (n : Nat) : (madeCells (Value.int .u8 0).cells (n * 1)) = Q8 (List.replicate n 0) := by
  apply Array.ext'
  rw [made8]; rfl
theorem cell8one : (Try.prog.info? 5).map (·.size) = some 1 := by kernel_rfl
/-- A block of bytes as a slice that the call owns. -/
theorem Blk.own8 {w : World} {g base : Nat} {l : List Nat} {n : Nat} (h : Blk w g 5 (Q8 l)) (hl : l.length = n) (hb : base ≤ g) (hm : n ≤ maxLen) : Own w base 5 (some ⟨g, 0, none⟩) n n (U8 l) :=
  ⟨⟨by rw [U8_length, hl]; omega, .inr ⟨g, n, Q8 l, rfl, hb, h, Nat.le_refl _, hm, by rw [Q8_size, hl]; omega, by unfold Q8; rw [List.take_of_length_le (by simp [U8_length, hl])]⟩⟩⟩
theorem Blk.rd8 {w : World} {g : Nat} {l : List Nat} {n : Nat} (h : Blk w g 5 (Q8 l)) (hl : l.length = n) : Rd w w.heap.size (some ⟨g, 0, none⟩) n (U8 l) :=
  h.rd 0 n (U8 l) (fun i u hu => by rw [Nat.zero_add]; unfold Q8; rw [List.getElem?_toArray]; exact hu) (by rw [U8_length, hl])
/-- In the midst of Put. -/
structure Pt33 (n : Nat) (O l T : List Nat) (k : Nat) : Prop where
  len : T.length = n
  at_ : ∀ j, j < k → T.getD j 0 = l.getD (O.getD j 0) 0
theorem Pt33.step {n : Nat} {O l T : List Nat} {k : Nat} (h : Pt33 n O l T k) (hk : k < n) : Pt33 n O l (T.set k (l.getD (O.getD k 0) 0)) (k + 1) := by
  refine ⟨by rw [List.length_set]; exact h.len, fun j hj => ?_⟩
  have hl : j < (T.set k (l.getD (O.getD k 0) 0)).length := by rw [List.length_set, h.len]; omega
  rw [Bm.getD_lt _ _ _ hl, List.getElem_set]
  by_cases e : k = j
  · rw [if_pos e, e]
  · rw [if_neg e, ← Bm.getD_lt T 0 j (by rw [h.len]; omega)]
    exact h.at_ j (by omega)
theorem Pt33.done {n : Nat} {O l T : List Nat} (h : Pt33 n O l T n) (ho : O.length = n) : T = Sh.puts O l := by
  refine Sh.ext_getD (by rw [h.len, Sh.puts_length, ho]) (fun p hp => ?_)
  rw [h.len] at hp
  rw [h.at_ p hp, Sh.puts_get _ _ _ (by omega)]
theorem puts_lt {O l : List Nat} (h : ∀ b ∈ l, b < 256) : ∀ b ∈ Sh.puts O l, b < 256 := by
  intro b hb
  obtain ⟨p, _, rfl⟩ := List.mem_map.1 hb
  by_cases hp : p < l.length
  · rw [Bm.getD_lt _ _ _ hp]; exact h _ (List.getElem_mem hp)
  · rw [Bm.getD_ge _ _ _ (by omega)]; omega
theorem tk_lt {n : Nat} {O l T : List Nat} (h : Sh.Tk n O l T n) (ho : Sh.Ord n O) (hl : l.length = n) (hb : ∀ b ∈ l, b < 256) : ∀ b ∈ T, b < 256 := by
  intro b hbT
  obtain ⟨p, hp, rfl⟩ := List.getElem_of_mem hbT
  have hp2 : p < n := by rw [← h.len]; exact hp
  obtain ⟨k, hk, e⟩ := ho.hit p hp2
  have := h.at_ k hk
  rw [e, Bm.getD_lt _ _ _ hp, Bm.getD_lt _ _ _ (by omega)] at this
  rw [this]
  exact hb _ (List.getElem_mem _)
/-- What Put, Take give: a new block. -/
def ShOut (w : World) (n : Nat) (T : List Nat) (e : Ending) (w' : World) : Prop := ∃ g, e = .returned (.tuple #[.slice (some ⟨g, 0, none⟩) n n, .int .i64 0]) ∧ Blk w' g 5 (Q8 T) ∧ w.heap.size ≤ g ∧ T.length = n ∧ Below w.heap.size w w'
set_option maxHeartbeats 1000000 in
/-- shuffle.Put. -/
theorem shPut (n rows : Nat) (A : Option Addr) (c : Nat) (l : List Nat) (w : World) (hr : Rd w w.heap.size A n (U8 l)) (hn : n ≤ 65536) (hrw : 1 ≤ rows ∧ rows ≤ 64) :
    Calls Try.prog 17 #[.slice A n c, .int .i64 (rows : Int)] w (ShOut w n (Sh.puts (Sh.ordl n (wd n rows)) l)) := by
  obtain ⟨i0, hi0, hz0, hz1, hz2⟩ := info_parts info5
  have CO := Lib.hid (shOrder n rows w hn hrw)
  have HO := Lib.hid (ord_all n rows hrw.1)
  generalize Sh.ordl n (wd n rows) = O at *
  go_enter Try.func17, Try.ntmps17
  go_wp2_with (first | (go_at_call 28; refine CO.out.mono ?_; rintro e w1 ⟨A6, c6, rfl, own6, b6⟩) | (at_make; refine wpList_make_full _ rfl _ _ 22 rfl w1.heap.size 5 i0 (.int .u8 0) 1 Try.underlying22 hi0 hz0 hz1 .i64 .i64 _ _ n rfl rfl (by first | rfl | omega) (by first | rfl | omega) (by rw [hz2]; omega) (by unfold maxLen; omega) (Nat.le_refl _) ?_; intro w3 hown3 hgrow3))
  have bel3 : Below w1.heap.size w1 w3 := (Below.refl _ _).grown hgrow3 (Nat.le_refl _) (fun k h => by cases h)
  have q3 : Blk w3 w1.heap.size 5 (Q8 (List.replicate n 0)) := by
    have h : Own w3 w1.heap.size 5 (some ⟨w1.heap.size, 0, none⟩) n n (madeCells (Value.int .u8 0).cells (n * 1)).toList := ⟨hown3⟩
    have h2 := h.whole_
    rw [mkQ8] at h2
    exact h2
  have r6 := own6.rd
  have r0 := (hr.below b6).up b6.size
  obtain ⟨g, hg⟩ : ∃ g, g = w1.heap.size := ⟨_, rfl⟩
  have HG := Lib.hid b6.size
  rw [← hg] at q3 r6 r0 bel3 HG
  rw [← hg]
  have b63 : Below w.heap.size w w3 := b6.trans (bel3.mono HG.out)
  clear hown3 hgrow3 own6 hi0 hz0 hz1 hz2 CO hg b6
  go_loopw [26] (fun x wr => ∃ k : Nat, k ≤ n ∧ x = .int .i64 (k : Int) ∧ ∃ T : List Nat, Hid (Pt33 n O l T k) ∧ Blk wr g 5 (Q8 T) ∧ Below g w1 wr ∧ Below w.heap.size w wr) (fun x _ => n - (intOf x).toNat)
  case atStart => exact ⟨0, by omega, rfl, _, ⟨by simp, fun j hj => absurd hj (by omega)⟩, q3, bel3, b63⟩
  case round =>
    clear q3 bel3 b63
    obtain ⟨k, hk, rfl, T, HT, q, bel, bw⟩ := hrel
    by_cases hlt : k < n
    · have d2 : decide ((k : Int) < (n : Int)) = true := by simp; omega
      obtain ⟨b, off, hA, hlb, kc⟩ := (r6.below bel).cellN k hlt
      subst hA
      obtain ⟨p, hp⟩ : ∃ p, p = O.getD k 0 := ⟨_, rfl⟩
      have hpn : p < n := by rw [hp]; exact HO.out.lt k hlt
      have HS := Lib.hid (HT.out.step hlt)
      rw [← hp] at HS kc
      clear hp
      obtain ⟨b', off', hA, hlb', kp⟩ := (r0.below bel).cell8 p hpn
      subst hA
      generalize l.getD p 0 = v at *
      have sz : k < (Q8 T).size := by rw [Q8_size, HT.out.len]; exact hlt
      have f1 : (k : Int) < (n : Int) := by omega
      have f2 : (p : Int) < (n : Int) := by omega
      go_wp2_with (refine at_cell rfl 5 _ _ rfl g k (.int .u8 (v : Int)) rfl rfl 5 (Q8 T) q sz cell8one rfl ?_; intro w6 h6)
      go_roundw
      case rel => exact ⟨k + 1, by omega, by go_num, _, HS, by rw [← Q8_set]; exact h6.row, bel.trans (h6.below (Nat.le_refl _)), bw.trans (h6.below HG.out)⟩
      case measure => simp [intOf] <;> omega
    · have d2 : decide ((k : Int) < (n : Int)) = false := by simp; omega
      have HE : Hid (T = Sh.puts O l) := by
        have h1 := HT.out
        rw [show k = n by omega] at h1
        exact h1.done HO.out.len
      have HTl := Lib.hid HT.out.len
      rw [HE.out] at q HTl
      clear HT
      go_wp2
      go_ret2
      exact ⟨g, rfl, q, HG.out, HTl.out, bw⟩
set_option maxHeartbeats 1000000 in
/-- shuffle.Take. -/
theorem shTake (n rows : Nat) (A : Option Addr) (c : Nat) (l : List Nat) (w : World) (hr : Rd w w.heap.size A n (U8 l)) (hn : n ≤ 65536) (hrw : 1 ≤ rows ∧ rows ≤ 64) :
    Calls Try.prog 19 #[.slice A n c, .int .i64 (rows : Int)] w fun e w' => ∃ T, Sh.Tk n (Sh.ordl n (wd n rows)) l T n ∧ ShOut w n T e w' := by
  obtain ⟨i0, hi0, hz0, hz1, hz2⟩ := info_parts info5
  have CO := Lib.hid (shOrder n rows w hn hrw)
  have HO := Lib.hid (ord_all n rows hrw.1)
  generalize Sh.ordl n (wd n rows) = O at *
  go_enter Try.func19, Try.ntmps19
  go_wp2_with (first | (go_at_call 28; refine CO.out.mono ?_; rintro e w1 ⟨A6, c6, rfl, own6, b6⟩) | (at_make; refine wpList_make_full _ rfl _ _ 22 rfl w1.heap.size 5 i0 (.int .u8 0) 1 Try.underlying22 hi0 hz0 hz1 .i64 .i64 _ _ n rfl rfl (by first | rfl | omega) (by first | rfl | omega) (by rw [hz2]; omega) (by unfold maxLen; omega) (Nat.le_refl _) ?_; intro w3 hown3 hgrow3))
  have bel3 : Below w1.heap.size w1 w3 := (Below.refl _ _).grown hgrow3 (Nat.le_refl _) (fun k h => by cases h)
  have q3 : Blk w3 w1.heap.size 5 (Q8 (List.replicate n 0)) := by
    have h : Own w3 w1.heap.size 5 (some ⟨w1.heap.size, 0, none⟩) n n (madeCells (Value.int .u8 0).cells (n * 1)).toList := ⟨hown3⟩
    have h2 := h.whole_
    rw [mkQ8] at h2
    exact h2
  have r6 := own6.rd
  have r0 := (hr.below b6).up b6.size
  obtain ⟨g, hg⟩ : ∃ g, g = w1.heap.size := ⟨_, rfl⟩
  have HG := Lib.hid b6.size
  rw [← hg] at q3 r6 r0 bel3 HG
  rw [← hg]
  have b63 : Below w.heap.size w w3 := b6.trans (bel3.mono HG.out)
  clear hown3 hgrow3 own6 hi0 hz0 hz1 hz2 CO hg b6
  go_loopw [26] (fun x wr => ∃ k : Nat, k ≤ n ∧ x = .int .i64 (k : Int) ∧ ∃ T : List Nat, Hid (Sh.Tk n O l T k) ∧ Blk wr g 5 (Q8 T) ∧ Below g w1 wr ∧ Below w.heap.size w wr) (fun x _ => n - (intOf x).toNat)
  case atStart => exact ⟨0, by omega, rfl, _, tk_start _ _ _, q3, bel3, b63⟩
  case round =>
    clear q3 bel3 b63
    obtain ⟨k, hk, rfl, T, HT, q, bel, bw⟩ := hrel
    by_cases hlt : k < n
    · have d2 : decide ((k : Int) < (n : Int)) = true := by simp; omega
      obtain ⟨b, off, hA, hlb, kc⟩ := (r6.below bel).cellN k hlt
      subst hA
      obtain ⟨p, hp⟩ : ∃ p, p = O.getD k 0 := ⟨_, rfl⟩
      have hpn : p < n := by rw [hp]; exact HO.out.lt k hlt
      have HS := Lib.hid (HT.out.step HO.out hlt)
      rw [← hp] at HS kc
      clear hp
      obtain ⟨b', off', hA, hlb', kp⟩ := (r0.below bel).cell8 k hlt
      subst hA
      generalize l.getD k 0 = v at *
      have sz : p < (Q8 T).size := by rw [Q8_size, HT.out.len]; exact hpn
      have f1 : (k : Int) < (n : Int) := by omega
      have f2 : (p : Int) < (n : Int) := by omega
      go_wp2_with (refine at_cell rfl 5 _ _ rfl g p (.int .u8 (v : Int)) rfl rfl 5 (Q8 T) q sz cell8one rfl ?_; intro w6 h6)
      go_roundw
      case rel => exact ⟨k + 1, by omega, by go_num, _, HS, by rw [← Q8_set]; exact h6.row, bel.trans (h6.below (Nat.le_refl _)), bw.trans (h6.below HG.out)⟩
      case measure => simp [intOf] <;> omega
    · have d2 : decide ((k : Int) < (n : Int)) = false := by simp; omega
      have HE : Hid (Sh.Tk n O l T n) := by
        have h1 := HT.out
        rw [show k = n by omega] at h1
        exact h1
      clear HT
      go_wp2
      go_ret2
      exact ⟨T, HE.out, g, rfl, q, HG.out, HE.out.len, bw⟩
set_option maxHeartbeats 400000 in
theorem shPutNo (n : Nat) (rows : Int) (A : Option Addr) (c : Nat) (w : World) (h : (n : Int) < 0 ∨ 65536 < (n : Int) ∨ rows < 1 ∨ 64 < rows) : Calls Try.prog 17 #[.slice A n c, .int .i64 rows] w fun e w' => e = .returned (.tuple #[.slice none 0 0, .int .i64 1]) ∧ w = w' := by
  have CO := Lib.hid (shOrderNo n rows w h)
  clear h
  go_enter Try.func17, Try.ntmps17
  go_wp2_with (go_at_call 28; refine CO.out.mono ?_; rintro e w1 ⟨rfl, rfl⟩)
  go_ret2
  exact ⟨rfl, rfl⟩
set_option maxHeartbeats 400000 in
theorem shTakeNo (n : Nat) (rows : Int) (A : Option Addr) (c : Nat) (w : World) (h : (n : Int) < 0 ∨ 65536 < (n : Int) ∨ rows < 1 ∨ 64 < rows) : Calls Try.prog 19 #[.slice A n c, .int .i64 rows] w fun e w' => e = .returned (.tuple #[.slice none 0 0, .int .i64 1]) ∧ w = w' := by
  have CO := Lib.hid (shOrderNo n rows w h)
  clear h
  go_enter Try.func19, Try.ntmps19
  go_wp2_with (go_at_call 28; refine CO.out.mono ?_; rintro e w1 ⟨rfl, rfl⟩)
  go_ret2
  exact ⟨rfl, rfl⟩
end Go.Proofs.Ytoiibjblaafgpab
