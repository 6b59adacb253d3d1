/-
  Layer 12: Least and Mends.
-/
import Derived.Test.YtknfpdlomgllhaaDoorQe
namespace Go.Proofs.YtknfpdlomgllhaaDoor
open Go.RowKit
set_option maxRecDepth 100000
set_option linter.unusedVariables false
set_option linter.unusedSimpArgs false

/-- The weights of four numbers. -/
def wof (ws : List Nat) : Nat → Nat := fun v => ws.getD v 0
/-- What distance.Least gives. -/
def LeastOk (ws : List Nat) (w : World) (e : Ending) (w' : World) : Prop := ∃ n : Nat, e = .returned (.tuple #[.int .i64 (n : Int), .int .i64 0]) ∧ Cv.Lst (wof ws) n ∧ Below w.heap.size w w'
/-- What distance.Mends gives. -/
def MendsOk (ws : List Nat) (w : World) (e : Ending) (w' : World) : Prop := ∃ n q : Nat, e = .returned (.tuple #[.int .i64 (q : Int), .int .i64 0]) ∧ q = (n - 1) / 2 ∧ Cv.Lst (wof ws) n ∧ Below w.heap.size w w'
theorem inW_nw (ws : List Nat) (h : ∀ y ∈ ws, y ≤ 7) : inW (nw ws) = true := by
  refine List.all_eq_true.2 fun z hz => ?_
  obtain ⟨x, hx, rfl⟩ := List.mem_map.1 hz
  have := h x hx
  simp
  omega
theorem Lst_bound7 {ws : List Nat} (h : ∀ y ∈ ws, y ≤ 7) {n : Nat} (hn : Cv.Lst (wof ws) n) : n ≤ 196 := hn.bound fun v _ => getD_seven ws h v
theorem hopsCells {w : World} {base : Nat} {A : Option Addr} {c : Nat} {u : Nat → Nat} (h : OwnR w base 144 3 A 504 c (hops u 504)) : ∃ gh, A = some ⟨gh, 0, none⟩ ∧ base ≤ gh ∧ gh < w.heap.size ∧ ∀ i v, (hops u 504)[i]? = some v → w.cell? ⟨gh, i, none⟩ = some v := h.cells (by omega)
set_option maxHeartbeats 2000000 in
set_option maxRecDepth 100000 in
/-- distance.Least. -/
theorem leastYes (ws : List Nat) (w : World) (hl : ws.length = 4) (hb : ∀ y ∈ ws, y ≤ 7) (hT : Taps w) : Calls Tryd.prog 10 #[.agg (W4 (nw ws))] w (LeastOk ws w) := by
  have CS := Lib.hid (fun W (hT : Taps W) => dstarts ws W hl hb hT)
  have CI := Lib.hid (fun W (hT : Taps W) => dinside ws W hl hb hT)
  have iZ : Hid ((Tryd.prog.info? 22).map (·.size) = some (W4 (nw ws)).size) := by unfold Hid; rw [W4_size, nw_length, hl]; exact info4w
  have HB7 := Lib.hid (getD_seven ws hb)
  have HIX := Lib.hid (fun (k : Nat) (hk : k < 4) W => run_index1 (P := Tryd.prog) Tryd.underlying22 Tryd.underlying3 rfl info3one (W4 (nw ws)) k hk .i64 _ (W4nw_get ws k (by rw [hl]; exact hk)) W)
  have HU : Hid (∀ v, v < 4 → wof ws v ≤ 7) := fun v _ => getD_seven ws hb v
  clear hb hl
  go_enter Tryd.func10, Tryd.ntmps10
  generalize hZ : W4 (nw ws) = Z at *
  clear hZ
  go_upto_region 2 with (first | (refine at_box rfl 22 _ rfl Z rfl ?_; intro w1 h1) | (refine at_load rfl 22 _ rfl w.heap.size rfl 22 Z _ h1.row Tryd.underlying22 rfl iZ.out ?_))
  have q1 := h1.row
  have b1 := h1.bel
  obtain ⟨g1, hg1⟩ : ∃ g, g = w.heap.size := ⟨_, rfl⟩
  rw [← hg1] at q1
  rw [← hg1]
  clear h1 hg1
  go_loopw [11] (fun x wr => ∃ k : Nat, k ≤ 4 ∧ x = .int .i64 k ∧ wr = w1) (fun x _ => 4 - (intOf x).toNat)
  case atStart => exact ⟨0, by omega, rfl, rfl⟩
  case round =>
    obtain ⟨k, hk, rfl, rfl⟩ := hrel
    by_cases hlt : k < 4
    · have ix := HIX.out k hlt
      have hz := HB7.out k
      have dk : decide ((k : Int) < 4) = true := by simp <;> omega
      generalize ws.getD k 0 = z at *
      have d7 : decide ((7 : Int) < (z : Int)) = false := by simp <;> omega
      go_wp2
      go_roundw
      case rel => exact ⟨k + 1, by omega, by go_num, by simp⟩
      case measure => simp [intOf] <;> omega
    · have dk : decide ((k : Int) < 4) = false := by simp <;> omega
      have C1 := Lib.hid (CS.out wr (hT.after b1))
      obtain ⟨Y, hY⟩ : ∃ Y, Y = W4 (nw (List.replicate 256 0)) := ⟨_, rfl⟩
      have ZE : Hid ((Tryd.prog.info? 88).bind (fun i => i.zero.map (fun z => z.cells)) = some Y) := by rw [hY]; exact Z256_eq
      have HYS : Hid (Y.size = 256) := by rw [hY]; unfold Hid; rw [W4nw_size]; simp
      clear hY
      go_wp2_with (refine at_load rfl 22 _ rfl g1 rfl 22 Z _ q1 Tryd.underlying22 rfl iZ.out ?_)
      refine C1.out.mono ?_
      rintro e w2 ⟨A, rfl, hTA, hFA, b2⟩
      have HTA := Lib.hid hTA
      have HFA := Lib.hid hFA
      have iA : Hid ((Tryd.prog.info? 88).map (·.size) = some (W4 (nw A)).size) := by unfold Hid; rw [W4nw_size, hTA.len]; exact info256
      have HA1 := Lib.hid (W4_one (nw A))
      have HAS : Hid (Y.size = (W4 (nw A)).size) := by unfold Hid; rw [HYS.out, W4nw_size, hTA.len]
      obtain ⟨V, hV⟩ : ∃ V, V = W4 (nw A) := ⟨_, rfl⟩
      rw [← hV] at iA HA1 HAS
      rw [← hV]
      have q12 := q1.after b2
      have HV := Lib.hid hV
      clear hTA hFA C1 hV
      go_upto_region 8 with (first | (refine at_alloc rfl 88 rfl Y ZE.out ?_; intro w3 h3) | (refine at_store rfl 88 _ _ rfl w2.heap.size V rfl rfl 88 Y h3.row iA.out HAS.out HA1.out ?_; intro w4 h4))
      have qb := h4.row
      have b24 : Below w2.heap.size w2 w4 := h3.bel.trans (h4.below (Nat.le_refl _))
      have q14 := q12.after b24
      have bw4 := Below.then_ (Below.then_ b1 b2) b24
      have hgw : w.heap.size ≤ w2.heap.size := Nat.le_trans b1.size b2.size
      have hb4 := qb.lt
      obtain ⟨gb, hgb⟩ : ∃ g, g = w2.heap.size := ⟨_, rfl⟩
      rw [← hgb] at qb hb4 hgw
      rw [← hgb]
      have C2 := Lib.hid (CI.out w4 (hT.after bw4))
      clear h3 h4 hgb b24 q12
      go_wp2_with (refine at_load rfl 22 _ rfl g1 rfl 22 Z _ q14 Tryd.underlying22 rfl iZ.out ?_)
      refine C2.out.mono ?_
      rintro e w5 ⟨AH, cH, rfl, own5, b5⟩
      obtain ⟨gh, hAH, hgh, hgl, hcells⟩ := hopsCells own5
      subst hAH
      have qb5 := qb.after b5
      have bw5 := Below.then_ bw4 b5
      have hne : gh ≠ gb := by omega
      have hghw : w.heap.size ≤ gh := by omega
      rw [HV.out] at qb5
      clear own5 b5 C2 qb q14 bw4 CS CI hb4 hgh HA1 HAS iA ZE
      go_upto_region 9 with fail
      go_loopw [25] (fun _ wr => ∃ A, Blk wr gb 88 (W4 (nw A)) ∧ Hid (T2 (wof ws) A) ∧ Hid (F2 (wof ws) A 4) ∧ (∀ i v, (hops (wof ws) 504)[i]? = some v → wr.cell? ⟨gh, i, none⟩ = some v) ∧ gh < wr.heap.size ∧ Below w.heap.size w wr) (fun _ wr => bsum wr gb)
      case atStart => exact ⟨A, qb5, HTA.out, HFA.out, hcells, hgl, bw5⟩
      case round =>
        clear qb5 hcells hgl bw5 HTA HFA
        obtain ⟨A, qb, HTA, HFA, hcells, hgl, bel⟩ := hrel
        have CL := Lib.hid (dlower (wof ws) gb gh cH A wr HU.out qb HTA.out HFA.out hcells hgl hne)
        have HSUM := Lib.hid (bsum_blk qb)
        go_wp2_with fail
        refine CL.out.mono ?_
        rintro e w9 ⟨A9, cc, rfl, q9, hP, hoth, b9⟩
        have HP := Lib.hid hP
        have bel9 := bel.trans (b9.mono hgw)
        have hsz9 := b9.size
        have hc9 : ∀ i v, (hops (wof ws) 504)[i]? = some v → w9.cell? ⟨gh, i, none⟩ = some v := fun i v hv => by
          have := hoth gh hgl hne
          rw [← hcells i v hv]
          show World.cell? w9 _ = World.cell? _ _
          simp only [World.cell?, this]
        clear hP hoth b9 hcells CL
        cases cc
        · go_wp2
          go_loopw [8, 27] (fun r x wr => ∃ k b : Nat, k ≤ 4 ∧ x = .int .i64 k ∧ r = .int .i64 b ∧ Hid (Mn2 A9 b k) ∧ wr = w9) (fun _ x _ => 4 - (intOf x).toNat)
          case atStart => exact ⟨0, 7169, by omega, rfl, rfl, ⟨.inl rfl, Nat.le_refl _, fun t ht => by omega⟩, rfl⟩
          case round =>
            obtain ⟨k, b, hk, rfl, rfl, HM, rfl⟩ := hrel
            by_cases hlt : k < 4
            · have CP : Hid (∀ W, Calls Tryd.prog 50 #[.int .i64 (k : Int), .int .i64 0] W fun e w' => e = .returned (.int .i64 ((64 * k : Nat) : Int)) ∧ W = w') := fun W => by have := dplace k 0 W (by omega) (by omega); rw [Nat.mod_eq_of_lt hlt, Nat.add_zero] at this; exact this
              have hp : 64 * k < 256 := by omega
              have HN := Lib.hid HM.out.next
              have cl := (q9.cell (64 * k)).trans (W4nw_get A9 (64 * k) (by rw [HP.out.tab.len]; exact hp))
              have hle := HP.out.tab.le (64 * k)
              have hb := HM.out.2.1
              generalize 64 * k = p at *
              generalize A9.getD p 0 = v at *
              have ia := fun W => run_idx (P := Tryd.prog) (sz := 1) Tryd.underlying88 (by kernel_rfl) gb 0 p hp .i64 W
              simp only [Nat.zero_add, Nat.one_mul] at ia
              obtain ⟨m, hm⟩ : ∃ m, m = min b v := ⟨_, rfl⟩
              rw [← hm] at HN
              have m1 : (if (v : Int) < (b : Int) then (v : Int) else (b : Int)) = (m : Int) := by split <;> omega
              have m2 : min (b : Int) (v : Int) = (m : Int) := by omega
              have m3 : (if v < b then (v : Int) else (b : Int)) = (m : Int) := by split <;> omega
              have dk : decide ((k : Int) < 4) = true := by simp <;> omega
              clear hm
              go_wp2_with (go_at_call 50; refine (CP.out _).mono ?_; rintro e w' ⟨rfl, rfl⟩)
              go_roundw
              case rel => exact ⟨k + 1, m, by omega, by go_num, by first | rfl | (rw [m3]) | (rw [m1]) | (rw [m2]), HN.out, by simp⟩
              case measure => simp [intOf] <;> omega
            · have dk : decide ((k : Int) < 4) = false := by simp <;> omega
              have HK : Hid (k = 4) := by unfold Hid; omega
              have HL := Lib.hid (HP.out.lst (b := b) (by have := HM.out; rw [HK.out] at this; exact this) HU.out)
              go_wp2
              go_ret2
              exact ⟨b, rfl, HL.out, bel9⟩
        · have hlt : A9.sum < A.sum := by
            rcases HP.out.or_ with ⟨h, _⟩ | ⟨_, h⟩
            · cases h
            · exact h
          have HS9 := Lib.hid (bsum_blk q9)
          go_wp2
          go_roundw
          case rel => exact ⟨A9, q9, HP.out.tab, HP.out.fst, hc9, by omega, bel9⟩
          case measure => rw [HS9.out, HSUM.out]; exact hlt
set_option maxHeartbeats 400000 in
theorem leastNo (zs : List Int) (w : World) (hl : zs.length = 4) (hb : inW zs = false) : Calls Tryd.prog 10 #[.agg (W4 zs)] w fun e w' => e = .returned (.tuple #[.int .i64 0, .int .i64 1]) ∧ Below w.heap.size w w' := by
  have iZ : Hid ((Tryd.prog.info? 22).map (·.size) = some (W4 zs).size) := by unfold Hid; rw [W4_size, hl]; exact info4w
  have HIX := Lib.hid (fun (k : Nat) (hk : k < 4) W => run_index1 (P := Tryd.prog) Tryd.underlying22 Tryd.underlying3 rfl info3one (W4 zs) k hk .i64 _ (W4_get zs k (by rw [hl]; exact hk)) W)
  have HNO : Hid (¬ ∀ i, i < 4 → 0 ≤ zs.getD i 0 ∧ zs.getD i 0 ≤ 7) := fun h => by rw [inW_of_getD (fun i hi => h i (by rw [hl] at hi; exact hi))] at hb; cases hb
  clear hb hl
  go_enter Tryd.func10, Tryd.ntmps10
  generalize hZ : W4 zs = Z at *
  clear hZ
  go_upto_region 2 with (first | (refine at_box rfl 22 _ rfl Z rfl ?_; intro w1 h1) | (refine at_load rfl 22 _ rfl w.heap.size rfl 22 Z _ h1.row Tryd.underlying22 rfl iZ.out ?_))
  have b1 := h1.bel
  clear h1
  go_loopw [11] (fun x wr => ∃ k : Nat, k ≤ 4 ∧ x = .int .i64 k ∧ wr = w1 ∧ Hid (∀ i, i < k → 0 ≤ zs.getD i 0 ∧ zs.getD i 0 ≤ 7)) (fun x _ => 4 - (intOf x).toNat)
  case atStart => exact ⟨0, by omega, rfl, rfl, fun i hi => by omega⟩
  case round =>
    obtain ⟨k, hk, rfl, rfl, HA⟩ := hrel
    by_cases hlt : k < 4
    · have ix := HIX.out k hlt
      have dk : decide ((k : Int) < 4) = true := by simp <;> omega
      obtain ⟨z, hz⟩ : ∃ z, z = zs.getD k 0 := ⟨_, rfl⟩
      rw [← hz] at ix
      have HZ := Lib.hid hz
      clear hz
      by_cases h0 : z < 0
      · go_wp2
        go_ret2
        exact ⟨rfl, b1⟩
      · by_cases h7 : 7 < z
        · go_wp2
          go_ret2
          exact ⟨rfl, b1⟩
        · go_wp2
          go_roundw
          case rel => exact ⟨k + 1, by omega, by go_num, by simp, fun i hi => by
            by_cases e : i = k
            · rw [e, ← HZ.out]; omega
            · exact HA.out i (by omega)⟩
          case measure => simp [intOf] <;> omega
    · exact absurd (fun i hi => HA.out i (by omega)) HNO.out
end Go.Proofs.YtknfpdlomgllhaaDoor
