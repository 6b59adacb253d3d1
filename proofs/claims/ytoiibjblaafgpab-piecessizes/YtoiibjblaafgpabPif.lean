/-
  Layer 34: a joiner takes a text's messages; the first test; the walk of PiecesSizes.
-/
import Derived.Test.YtoiibjblaafgpabPie
import Derived.Lib.SlBytesConst
namespace Go.Proofs.Ytoiibjblaafgpab
open Go.RowKit
set_option linter.unusedVariables false
set_option linter.unusedSimpArgs false
set_option maxRecDepth 100000

theorem hd_first (i l : Nat) (hl : l = 0 ∨ l = 64) : (128 ≤ hd i l) ↔ i = 0 := by unfold hd; split <;> omega
theorem hd_last (i l : Nat) (hl : l = 0 ∨ l = 64) : (64 ≤ hd i l % 128) ↔ l = 64 := by unfold hd; split <;> omega
theorem hd_num (i l : Nat) (hl : l = 0 ∨ l = 64) : hd i l % 64 = i % 64 := by unfold hd; split <;> omega
theorem lbit_last (n i : Nat) : lbit n i = 64 ↔ i = lst n := by unfold lbit; split <;> simp_all
/-- The i-th message of a text. -/
theorem jMsg (w : World) (P : Nat → Prop) (g bad : Nat) (half bs : List Nat) (i : Nat) (B : Option Addr) (d : Nat) (hj : JT w P g half bad) (hb : bad ≤ 1000000)
    (ho : Own w 0 5 B (mg bs i).length d (U8 (mg bs i))) (hB : ∀ k, blk B = some k → ¬ P k) (hi : i ≤ lst bs.length) (hlen : bs.length ≤ 65536) (hh : i = 0 ∧ half.length ≤ 65000 ∨ half = bs.take (63 * i)) :
    Calls Try.prog 13 #[.pointer (some ⟨g, 0, none⟩), .slice B (mg bs i).length d] w
      (TakeOk w P g (bs.take (63 * (i + 1))) (bad + if i = 0 ∧ 0 < half.length then 1 else 0) (decide (i = lst bs.length))) := by
  have hml := mg_len bs i
  have hpl := part_length bs i
  obtain ⟨b, hA⟩ : ∃ b, B = some ⟨b, 0, none⟩ := by
    rcases ho.row.2 with ⟨hv, h0⟩ | ⟨g', cap, cur, hv, rest⟩
    · omega
    · injection hv with e1 e2 e3
      exact ⟨g', e1⟩
  subst hA
  have hf := hd_first i (lbit bs.length i) (lbit_or _ _)
  have hl := hd_last i (lbit bs.length i) (lbit_or _ _)
  have hn := hd_num i (lbit bs.length i) (lbit_or _ _)
  have hll := lbit_last bs.length i
  have hlt : i < lst bs.length → (part bs i).length = 63 := part_len bs i
  have hge := lst_ge (n := bs.length)
  have hle := lst_le (n := bs.length)
  have hdl := hd_lt i (lbit bs.length i) (lbit_or _ _)
  have hnz : i ≠ 0 → 63 * i < bs.length := fun h => by unfold lst at hi; omega
  have hhl : i ≠ 0 → half = bs.take (63 * i) ∧ half.length = 63 * i := fun h => by
    rcases hh with h1 | h1
    · omega
    · refine ⟨h1, ?_⟩
      have := hnz h
      rw [h1, List.length_take]; omega
  have hpart := take_part bs i
  have hz : i = 0 → half.length ≤ 65000 := fun h => by
    rcases hh with h1 | h1
    · exact h1.2
    · rw [h1, h]; simp
  have := jTake w P g bad half b 0 (mg bs i).length d (hd i (lbit bs.length i)) (part bs i) hj hb ho.rd (hB b rfl) hdl (by omega) ho.bounds.1
    (fun h => by rw [hl, hll] at h; have := hlt (by omega); omega) (fun h => by
      rw [hf]
      by_cases h0 : i = 0
      · exact .inl h0
      · have := hnz h0; exact .inr (by omega)) (by
      rw [hf, hn]
      by_cases h0 : i = 0
      · exact .inl ⟨h0, by rw [h0]⟩
      · obtain ⟨e1, e2⟩ := hhl h0
        exact .inr ⟨h0, by omega, by rw [e2]; omega⟩) (by
      by_cases h0 : i = 0
      · have := hz h0; omega
      · obtain ⟨e1, e2⟩ := hhl h0
        have := hnz h0
        omega)
  have e1 : ((if 128 ≤ hd i (lbit bs.length i) then [] else half) ++ part bs i) = bs.take (63 * (i + 1)) := by
    rw [← hpart]
    congr 1
    by_cases h0 : i = 0
    · rw [if_pos (hf.2 h0), h0]; rfl
    · rw [if_neg (fun h => h0 (hf.1 h))]; exact (hhl h0).1
  have e2 : (decide (64 ≤ hd i (lbit bs.length i) % 128)) = decide (i = lst bs.length) := decide_eq_decide.2 (by rw [hl, hll])
  rw [e1, e2] at this
  simp only [hf] at this
  exact this
theorem sPc : str (mg [97] 0) = ⟨#[192, 97]⟩ := by decide +kernel
theorem sPa : str [97] = ⟨#[97]⟩ := by decide +kernel
set_option maxHeartbeats 2000000 in
/-- The first test. -/
theorem splitsC (w : World) : Calls Try.prog 12 #[] w fun e w' => e = .returned (.bool true) ∧ Below w.heap.size w w' := by
  have kc := fun (w : World) (C : Array Value) (n c : Nat) => Lib.run_convert_bytes_const (P := Try.prog) w 22 5 C n c Try.underlying22 Try.underlying5
  have CS : Hid (∀ W W' : World, Below W.heap.size W W' → Rd W' W'.heap.size (some ⟨W.heap.size, 0, none⟩) 1 (U8 [97]) → Calls Try.prog 9 #[.slice (some ⟨W.heap.size, 0, none⟩) 1 1] W' fun e w' => ∃ A' c', e = .returned (.tuple #[.slice A' 1 c', .int .i64 0]) ∧ SplitOk W' [97] A' c' w') :=
    fun W W' hb hr => pSplit _ 1 1 [97] W' hr (fun e => by cases e) (by omega) (by omega) (by omega)
  have CN := Lib.hid pNew
  go_enter Try.func12, Try.ntmps12
  go_upto_region 3 with (first | (go_at_call 9; refine (CS.out w _ ((Below.refl _ _).alloc (Nat.le_refl _) _) (rd_block w 5 #[.int .u8 97] _ (U8 [97]) 1 rfl rfl)).mono ?_; rintro e w1 ⟨A1, c1, rfl, m1, b1⟩) | (go_at_call 11; refine (CN.out _).mono ?_; rintro e w2 ⟨rfl, j2, b2⟩))
  have hM2 := m1.after b2 (fun k hk => hk.2)
  have hb0 : w.heap.size ≤ w1.heap.size := by have := b1.size; simp at this; omega
  have bw2 : Below w.heap.size w w2 := (((Below.refl _ _).alloc (Nat.le_refl _) _).trans (b1.mono (by simp))).trans (b2.mono hb0)
  obtain ⟨b, off, B, d, hA, hbR, kc1, ob, hB⟩ := hM2.get 0 (show 0 < 1 by omega)
  subst hA
  have hB2 : ∀ k, blk B = some k → ¬ (k = w1.heap.size) := fun k hk e => by have := (hB k hk).2; omega
  have CT := jMsg w2 _ _ 0 [] [97] 0 B d j2 (by omega) ob hB2 (Nat.zero_le _) (by simp) (.inl ⟨rfl, by simp⟩)
  have CT' : Hid (Calls Try.prog 13 #[.pointer (some ⟨w1.heap.size, 0, none⟩), .slice B 2 d] w2 (TakeOk w2 (fun k => k = w1.heap.size) w1.heap.size [97] 0 true)) := CT
  have kc1' : w2.cell? ⟨b, off, none⟩ = some (.slice B 2 d) := kc1
  have ob' : Own w2 0 5 B 2 d (U8 (mg [97] 0)) := ob
  have HOB := Lib.hid ob'
  have HB2 := Lib.hid hB2
  have HBW := Lib.hid bw2
  have hlb : b < w2.heap.size := by have := hbR.2; have := b2.size; omega
  have hbg : ¬ b = w1.heap.size := by have := hbR.2; omega
  have hw2 : w1.heap.size < w2.heap.size := j2.lt _ rfl
  obtain ⟨gJ, hgJ⟩ : ∃ g, g = w1.heap.size := ⟨_, rfl⟩
  have HGJ : Hid (w.heap.size ≤ gJ) := by rw [hgJ]; exact hb0
  rw [← hgJ] at CT' hbg HB2 hw2
  rw [← hgJ]
  clear CS CN CT kc1 ob hB hB2 ob' hbR hM2 m1 b1 j2 b2 bw2 hgJ hb0
  go_upto_region 6 with (go_at_call 13; refine CT'.out.mono ?_; rintro e w3 ⟨k3, P3, hP3, h3⟩; rw [if_pos rfl] at h3; obtain ⟨⟨A5, c5, rfl, o5⟩, j3⟩ := h3)
  have kb3 := (World.cell?_of_block (a := ⟨b, off, none⟩) (k3.block b hlb hbg)).trans kc1'
  have ob3 := HOB.out.heap (fun k hk => k3.block k (HOB.out.blkLt k hk).2 (HB2.out k hk))
  have e1 : ∀ W, Below w3.heap.size w3 W → (convert 22 9 (.slice B 2 d)).run Try.prog W = .ok (.string ⟨#[192, 97]⟩) W := fun W hW => by rw [ob3.conv W hW, sPc]
  have e2 : ∀ W, Below w3.heap.size w3 W → (convert 22 9 (.slice A5 1 c5)).run Try.prog W = .ok (.string ⟨#[97]⟩) W := fun W hW => by
    have := o5.conv W hW
    rw [sPa] at this
    exact this
  have e1' := e1 w3 (Below.refl _ _)
  have e2' := e2 w3 (Below.refl _ _)
  have hbf : Hid (Below w.heap.size w w3) := HBW.out.trans (k3.below (fun k hk => by have : k = gJ := hk; rw [this]; exact HGJ.out) HBW.out.size)
  clear e1 e2 k3 hP3 j3 o5 ob3 kc1'
  go_wp2
  go_ret
  exact ⟨rfl, hbf.out⟩
end Go.Proofs.Ytoiibjblaafgpab
