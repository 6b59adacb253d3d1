/-
  Contract of layer 9: walk.
-/
import Derived.Test.YtknfpdlomgllhaaDoorVe
namespace Go.Proofs.YtknfpdlomgllhaaDoor
open Go.RowKit
set_option maxRecDepth 100000
set_option linter.unusedVariables false
set_option linter.unusedSimpArgs false

/-- The states that are come to by what is taken. -/
def wst (f : Nat → Nat → Nat) : Nat → Nat
  | 0 => 0
  | k + 1 => Cv.nx (wst f k) (f k (wst f k))
/-- The bits that are read off. -/
def wls (f : Nat → Nat → Nat) : Nat → List Nat
  | 0 => []
  | k + 1 => wls f k ++ [f k (wst f k)]
theorem wst_lt (f : Nat → Nat → Nat) (h : ∀ t s, f t s ≤ 1) : ∀ k, wst f k < 64
  | 0 => by simp [wst]
  | k + 1 => Cv.nx_lt _ _ (wst_lt f h k) (h _ _)
theorem run_idxS {P : Program} {t e : TypeId} {sz : Nat} (ht : P.underlying t = some (.slice e)) (hs : (P.info? e).map (·.size) = some sz) (g o n c i : Nat) (hi : i < n) (k : IntKind) (w : World) :
    (Instr.indexAt t (.slice (some ⟨g, o, none⟩) n c) (.int k (i : Int))).run P w = .ok (.pointer (some ⟨g, o + sz * i, none⟩)) w := by
  have h1 : (0 : Int) ≤ (i : Int) ∧ (i : Int) < (n : Int) := by omega
  cases hq : P.info? e with
  | none => simp [hq] at hs
  | some j =>
    have hj : j.size = sz := by simpa [hq] using hs
    simp [Instr.indexAt, run_underlying ht, asIntOf, sizeOf, typeInfo, hq, hj, hi, Addr.add, Nat.mul_comm]
/-- What is taken at a step, as cells. -/
def rowAt (f : Nat → Nat → Nat) (t : Nat) : List Nat := (List.range 64).map fun s => f t s
theorem rowAt_length (f : Nat → Nat → Nat) (t : Nat) : (rowAt f t).length = 64 := by simp [rowAt]
theorem rowAt_get (f : Nat → Nat → Nat) (t s : Nat) (hs : s < 64) : (rowAt f t).getD s 0 = f t s := by
  rw [Bm.getD_lt _ _ _ (by rw [rowAt_length]; exact hs)]; simp [rowAt]
theorem EA_to (s x : Nat) (hs : s < 64) (hx : x ≤ 1) : EA[14 * s + 7 * x + 1]? = some (.int .i64 (Cv.nx s x : Nat)) := EA_part s x hs hx 1 _ rfl

set_option maxHeartbeats 600000 in
set_option maxRecDepth 100000 in
/-- viterbi.walk. -/
theorem walkC (f : Nat → Nat → Nat) (hf : ∀ t s, f t s ≤ 1) (g n : Nat) (tk : Array Value) (w : World) (hk : Blk w g 158 tk) (ht : ∀ t, t < n → ∀ i u, (UA (rowAt f t)).toList[i]? = some u → tk[64 * t + i]? = some u) (hn : n ≤ 4096) :
    Calls Tryd.prog 95 #[.agg EA, .slice (some ⟨g, 0, none⟩) n n] w (Made w (wls f n)) := by
  obtain ⟨i0, hi0, hz0, hz1, hz2⟩ := info_parts info5
  have HT := Lib.hid ht
  have HF := Lib.hid hf
  have HST := Lib.hid (wst_lt f hf)
  have HTO := Lib.hid EA_to
  clear ht
  go_enter Tryd.func95, Tryd.ntmps95
  generalize EA = E at *
  go_wp2_with (first | (refine at_box rfl 152 _ rfl E rfl ?_; intro w1 h1) | (at_make; refine wpList_make_own _ rfl _ _ 23 rfl w1.heap.size 5 i0 (.int .u8 0) 1 Tryd.underlying23 hi0 hz0 hz1 .i64 .i64 _ n rfl rfl (by first | rfl | omega) (by rw [hz2]; omega) (by unfold maxLen; omega) (Nat.le_refl _) ?_; intro w2 hown2 hgrow2))
  clear hz0 hz1 hz2 hi0
  have b12 : Below w1.heap.size w1 w2 := (Below.refl _ _).grown hgrow2 (Nat.le_refl _) (fun k h => by cases h)
  have kN0 : Blk w1 w.heap.size 152 E := h1.row
  have kT0 := hk.after h1.bel
  have HB1 := Lib.hid h1.bel
  have hl1 : w.heap.size < w1.heap.size := by rw [h1.size]; omega
  have hgl : g < w1.heap.size := (hk.after h1.bel).lt
  generalize hg0 : w.heap.size = g2 at *
  have HG := Lib.hid hg0
  clear hg0 hk
  go_loopw [5, 6, 15] (fun s t i wr => ∃ k : Nat, k ≤ n ∧ i = .int .i64 k ∧ t = .int .i64 (wst f k : Nat) ∧ ∃ A1 c1, s = .slice A1 k c1 ∧ Own wr w1.heap.size 5 A1 k c1 (U8 (wls f k)) ∧ Below w1.heap.size w1 wr) (fun _ _ i _ => n - (intOf i).toNat)
  case atStart => exact ⟨0, Nat.zero_le _, rfl, rfl, _, _, rfl, ⟨hown2⟩, b12⟩
  case round =>
    clear hown2 hgrow2
    obtain ⟨k, hkn, rfl, rfl, A1, c1, rfl, hown, hbel⟩ := hrel
    have hsz := hbel.size
    have kT' := kT0.after hbel
    by_cases hlt : k < n
    · have hs := HST.out k
      have hx := HF.out k (wst f k)
      have ia := fun W => run_idxS (P := Tryd.prog) (sz := 64) Tryd.underlying156 (by kernel_rfl) g 0 n n k hlt .i64 W
      have hrange : wr.rangeAt g (64 * k) (UA (rowAt f k)).toList := kT'.range _ _ (HT.out k hlt)
      have iU : (Tryd.prog.info? 158).map (·.size) = some (UA (rowAt f k)).size := by rw [UA_size, rowAt_length]; exact infoW
      have oU := UA_one (rowAt f k)
      have zU : (UA (List.replicate 64 0)).size = (UA (rowAt f k)).size := by rw [UA_size, UA_size, rowAt_length, List.length_replicate]
      have HU : Hid (∀ W g, Blk W g 158 (UA (rowAt f k)) → W.cell? ⟨g, wst f k, none⟩ = some (.int .u8 ((f k (wst f k) : Nat) : Int))) := fun W g h => (h.cell _).trans (by rw [UA_get _ _ (by rw [rowAt_length]; exact hs), rowAt_get f k _ hs])
      have HC : Hid (∀ W, Blk W g2 152 E → W.cell? ⟨g2, 14 * wst f k + 7 * f k (wst f k) + 1, none⟩ = some (.int .i64 (Cv.nx (wst f k) (f k (wst f k)) : Nat))) := fun W h => (h.cell _).trans (HTO.out _ _ hs hx)
      have HS1 : Hid (wst f (k + 1) = Cv.nx (wst f k) (f k (wst f k))) := rfl
      have HL1 : Hid (wls f (k + 1) = wls f k ++ [f k (wst f k)]) := rfl
      have ib := fun (W : World) (g : Nat) => run_idx (P := Tryd.prog) (sz := 1) Tryd.underlying158 (by kernel_rfl) g 0 (wst f k) hs .i64 W
      have ic := fun (W : World) => run_idx (P := Tryd.prog) (sz := 14) Tryd.underlying152 (by kernel_rfl) g2 0 (wst f k) hs .i64 W
      have id := fun (W : World) => run_idx (P := Tryd.prog) (sz := 7) Tryd.underlying139 (by kernel_rfl) g2 (14 * wst f k) (f k (wst f k)) (by omega) .u8 W
      simp only [Nat.zero_add, Nat.one_mul] at ia ib ic id
      generalize Cv.nx (wst f k) (f k (wst f k)) = s2 at *
      generalize f k (wst f k) = x at *
      generalize wst f k = s1 at *
      generalize UA (rowAt f k) = UR at *
      go_wp2_with (first | (refine at_load_mid rfl 158 _ rfl g (64 * k) rfl UR _ hrange Tryd.underlying158 rfl iU ?_) | (refine at_alloc rfl 158 rfl (UA (List.replicate 64 0)) ZW_eq ?_; intro w5 h5) | (refine at_store rfl 158 _ _ rfl wr.heap.size UR rfl rfl 158 (UA (List.replicate 64 0)) h5.row iU zU oU ?_; intro w6 h6; have b6 := h5.bel.trans (h6.below (Nat.le_refl _)); have c1' := HU.out w6 _ h6.row; have own6 := hown.below b6 (Nat.le_refl _); have bel6 := hbel.trans (b6.mono hsz)) | (at_builtin; refine app8 _ rfl _ _ rfl w1.heap.size _ _ _ _ x _ rfl rfl own6 rfl (by omega) bel6.size ?_; intro A3 c3 w3 hown3 hgrow3; have bel3 := bel6.grown hgrow3 bel6.size (fun j hj => (own6.block j hj).1); have c2' := HC.out w3 (kN0.after bel3)))
      go_roundw
      case rel =>
        refine ⟨k + 1, by omega, by go_num, by rw [HS1.out], A3, c3, rfl, ?_, bel3⟩
        rw [HL1.out]
        exact hown3
      case measure => simp [intOf] <;> omega
    · go_wp2
      go_ret
      refine ⟨A1, k, c1, rfl, (hown.to rfl (by rw [show k = n by omega])).down ?_, ?_⟩
      · rw [HG.out]; omega
      · rw [HG.out]; exact HB1.out.trans (hbel.mono (by omega))
end Go.Proofs.YtknfpdlomgllhaaDoor
