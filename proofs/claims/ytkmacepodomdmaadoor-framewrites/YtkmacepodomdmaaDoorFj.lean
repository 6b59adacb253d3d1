/-
  The first test of layer 16: a frame of a message without bytes has eleven.
-/
import Derived.Test.YtkmacepodomdmaaDoorFi
namespace Go.Proofs.YtkmacepodomdmaaDoor
open Go.RowKit
set_option maxRecDepth 100000
set_option linter.unusedVariables false
set_option linter.unusedSimpArgs false

def D0 : List Nat := dataW 0 0 0 (List.replicate 38 0)
theorem d0_len : D0.length = 11 := by decide +kernel
theorem d0_lt : ∀ b ∈ D0, b < 256 := by decide +kernel
theorem d0_we : WE 1 0 0 (List.replicate 38 0) = 0 := by decide +kernel
theorem d0_wb : WB 1 0 0 0 (List.replicate 38 0) 0 0 = D0 := by decide +kernel
theorem d0_rd : rdX D0 = .nil := by kernel_rfl
theorem d0_kd : kd D0 = 1 := by decide +kernel
theorem nil_rd : rdX [] = .told 2 := by kernel_rfl
theorem restF_kind (k : Nat) (xs : List Nat) (B : Value) (h : k ≠ 2) : (restF k xs B)[0]? = some (.int .i64 1) := by unfold restF; rw [if_neg h]; rfl
set_option maxHeartbeats 2000000 in
theorem framesC (a : Nat → Addr) (w : World) (hE : ErrsAt w a) : Calls Tryd.prog 13 #[] w fun e w' => e = .returned (.bool true) ∧ Below w.heap.size w w' := by
  obtain ⟨i0, hi0, hz0, hz1, hz2⟩ := info_parts info5
  have HC1 := Lib.hid (fun (A : Option Addr) (n c : Nat) (W : World) (h : Rd W W.heap.size A n (U8 (List.replicate 38 0))) => writeC 1 0 0 0 A n c 0 0 (List.replicate 38 0) W (by omega) (by omega) h (by intro b hb; rw [List.eq_of_mem_replicate hb]; omega) (by rw [h.len8]; simp) (by omega) (by omega))
  rw [d0_we, d0_wb] at HC1
  have HC2 := Lib.hid (fun (A : Option Addr) (n c : Nat) (W : World) (h : Rd W W.heap.size A n (U8 D0)) (hnc : n ≤ c) (hc : c ≤ 9223372036854775807) (hE : ErrsAt W a) => readTopC A n c D0 a W h d0_lt hnc hc hE)
  have HC3 := Lib.hid (fun (W : World) (hE : ErrsAt W a) => readTopC none 0 0 [] a W ⟨rfl, fun h => absurd h (by omega)⟩ (by simp) (by omega) (by omega) hE)
  have C4 := Lib.hid (bitsC16 0)
  rw [show fb 0 = 38 from rfl] at C4
  have C5 := Lib.hid (headC 2)
  have C6 := Lib.hid (headC 3)
  go_enter Tryd.func13, Tryd.ntmps13
  go_upto_region 2 with (first | (at_make; refine wpList_make_full _ rfl _ _ 22 rfl w.heap.size 5 i0 (.int .u8 0) 1 Tryd.underlying22 hi0 hz0 hz1 .i64 .i64 _ _ 38 rfl rfl (by first | rfl | omega) (by first | rfl | omega) (by rw [hz2]; omega) (by unfold maxLen; omega) (Nat.le_refl _) ?_; intro w1 hown1 hgrow1; rw [made8] at hown1; have own1 : Own w1 w.heap.size 5 (some ⟨w.heap.size, 0, none⟩) 38 38 (U8 (List.replicate 38 0)) := ⟨hown1⟩; have rd1 := own1.rd) | (go_at_call 11; refine (HC1.out _ _ _ _ rd1).mono ?_; rintro e w2 ⟨A2, n2, c2, rfl, own2, b2⟩))
  have bel1 : Below w.heap.size w w1 := (Below.refl _ _).grown hgrow1 (Nat.le_refl _) (fun k h => by cases h)
  have bel2 := Below.then_ bel1 b2
  have rd2 := own2.rd
  have hn2 : n2 = 11 := rd2.len8.trans d0_len
  have hbd := own2.bounds
  have C2 : Hid (Calls Tryd.prog 15 #[.slice A2 n2 c2] w2 fun e w' => ∃ F, e = .returned (.tuple #[.agg F, .int .i64 0]) ∧ F.size = 7 ∧ F.all (·.oneCell') = true ∧ F[0]? = some (.int .i64 1) ∧ Below w2.heap.size w2 w') := by
    refine (HC2.out A2 n2 c2 w2 rd2 hbd.1 (by have := hbd.2; unfold maxLen at this; omega) (hE.below bel2)).mono ?_
    rintro e w' ⟨F, he, hy, _, hb⟩
    obtain ⟨A3, n3, c3, hF, _⟩ := hy d0_rd
    refine ⟨F, by rw [he, d0_rd]; rfl, by rw [hF]; exact restF_size _ _ _, by rw [hF]; exact restF_all _ _ _ _ _, by rw [hF]; exact restF_kind _ _ _ (by rw [d0_kd]; omega), hb⟩
  clear hown1 hgrow1 own1 rd1 hi0 hz0 hz1 hz2 HC1 HC2
  subst hn2
  go_upto_region 3 with (first | (go_at_call 15; refine C2.out.mono ?_; rintro e w3 ⟨F, rfl, hFs, hFa, hk5, b3⟩) | (refine at_alloc rfl 32 rfl _ zeroF ?_; intro w4 L4) | (refine at_store rfl 32 _ _ rfl w3.heap.size F rfl rfl 32 _ L4.row (infoF7 hFs) (hFs.symm ▸ rfl) hFa ?_; intro w5 H5))
  have b35 : Below w3.heap.size w3 w5 := L4.bel.trans (H5.below (Nat.le_refl _))
  have bel5 := Below.then_ (Below.then_ bel2 b3) b35
  have p5 : Blk w5 w3.heap.size 32 F := H5.row
  have C3 : Hid (Calls Tryd.prog 15 #[.slice none 0 0] w5 fun e w' => e = .returned (.tuple #[.agg (FV 0 0 0 0 (.slice none 0 0) 0 0), .int .i64 2]) ∧ Below w5.heap.size w5 w') := by
    refine (HC3.out w5 (hE.below bel5)).mono ?_
    rintro e w' ⟨F, he, _, hno, hb⟩
    exact ⟨by rw [he, hno (by rw [nil_rd]; simp), nil_rd]; rfl, hb⟩
  obtain ⟨g5, hg5⟩ : ∃ g, g = w3.heap.size := ⟨_, rfl⟩
  rw [← hg5] at p5 ⊢
  clear L4 H5 b35 hg5 HC3
  go_upto_region 4 with (first | (go_at_call 15; refine C3.out.mono ?_; rintro e w6 ⟨rfl, b6⟩) | (refine at_alloc rfl 32 rfl _ zeroF ?_; intro w7 L7) | (refine at_store rfl 32 _ _ rfl w6.heap.size (FV 0 0 0 0 (.slice none 0 0) 0 0) rfl rfl 32 _ L7.row (infoF _ _ _ _ _ _ _) rfl (FV_all _ _ _ _ _ _ _ _ _) ?_; intro w8 H8))
  have b68 : Below w6.heap.size w6 w8 := L7.bel.trans (H8.below (Nat.le_refl _))
  have bel8 := Below.then_ (Below.then_ bel5 b6) b68
  have p8 := (p5.after b6).after b68
  have c8 : w8.cell? ⟨g5, 0, none⟩ = some (.int .i64 1) := (p8.cell 0).trans hk5
  clear L7 H8 b68 p5 hk5
  go_wp2_with fail
  refine (C4.out _).mono ?_; rintro e w' ⟨rfl, rfl⟩
  go_wp2_with fail
  refine (C5.out _).mono ?_; rintro e w' ⟨rfl, rfl⟩
  go_wp2_with fail
  refine (C6.out _).mono ?_; rintro e w' ⟨rfl, rfl⟩
  go_wp2
  go_ret
  exact ⟨rfl, bel8⟩
end Go.Proofs.YtkmacepodomdmaaDoor
