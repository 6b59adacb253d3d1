/-
  The walk of HarqAlone.
-/
import Derived.Test.YtcmoedhpedlalaaDoorHe
namespace Go.Proofs.YtcmoedhpedlalaaDoor
open Go.RowKit
set_option maxRecDepth 100000
set_option linter.unusedVariables false
set_option linter.unusedSimpArgs false

theorem infoCame7 : (Tryd.prog.info? 37).map (·.size) = some 5 := by kernel_rfl
/-- An index into a row of what came. -/
theorem idxCame7 (b off n c i : Nat) (hi : i < n) (W : World) : (Instr.indexAt 23 (.slice (some ⟨b, off, none⟩) n c) (.int .i64 (i : Int))).run Tryd.prog W = .ok (.pointer (some ⟨b, off + 5 * i, none⟩)) W :=
  run_idxR (P := Tryd.prog) (sz := 5) Tryd.underlying23 (by kernel_rfl) b off n c i hi .i64 W
theorem CH7.ok.up {w : World} {B B' : Nat} {e : CH7} (h : e.ok w B) (hB : B ≤ B') : e.ok w B' := ⟨h.at_.up hB, h.ab, h.raw.up hB, h.r256, h.rc, h.rc2, h.rnone, h.vin, h.nin⟩
/-- A made version, as a row of its own. -/
theorem made_at {w w1 : World} {A : Option Addr} {n c T : Nat} {p : List Nat} (own : Own w1 w.heap.size 5 A n c (U8 p)) (hp : p.length = T) (hT : 0 < T) : ∃ g, A = some ⟨g, 0, none⟩ ∧ n = T ∧ w.heap.size ≤ g ∧ g < w1.heap.size := by
  have h := own.rd.len8
  obtain ⟨g, e, h1, h2⟩ := own.at0 (by omega)
  exact ⟨g, e, by omega, h1, h2⟩
set_option maxHeartbeats 1000000 in
/-- HarqAlone. -/
theorem walkAlone7 (A A1 : Option Addr) (n0 c0 n1 c1 : Nat) (bs : List Nat) (es : Nat → CH7) (v0 : Int) (w : World) (hr : Rd w w.heap.size A n0 (U8 bs)) (hb : ∀ b ∈ bs, b < 256) (hnc : n0 ≤ c0) (hc0 : c0 ≤ 9223372036854775807) (hnone : A = none → n0 = 0 ∧ c0 = 0) (hR : CH7Row w w.heap.size A1 n1 es) (hn1 : n1 ≤ 9223372036854775807) (hT : Taps w) :
    Calls Tryd.prog 4 #[.slice A n0 c0, .slice A1 n1 c1, .int .i64 v0] w fun e w' => e = .returned (.bool true) ∧ Below w.heap.size w w' := by
  obtain ⟨n, hk, hk2, hk3⟩ := min_if n0 8
  obtain ⟨hm1, hm2⟩ := hk3 8 rfl
  clear hk3
  have r0 := hr.cut8 n hk2
  have HB := Lib.hid (take256 hb n)
  have hnc2 : n ≤ c0 := by omega
  have HNO : Hid (A = none → n = 0 ∧ c0 = 0) := fun h => by have := hnone h; omega
  have HL : Hid (n = (bs.take n).length) := r0.len8
  generalize bs.take n = m at *
  have hs := hT.pos
  clear hr hb hnone
  have CN := Lib.hid (hNew n w (by omega))
  have CR := Lib.hid (fun (W : World) (h : Below w.heap.size w W) => readsC W (hT.after h))
  obtain ⟨N, hN⟩ : ∃ N, N = 8 * (n + 4) := ⟨_, rfl⟩
  obtain ⟨T, hTT⟩ : ∃ T, T = N + 6 := ⟨_, rfl⟩
  have HN := Lib.hid hN
  have HT := Lib.hid hTT
  have HNm : Hid (N = 8 * (m.length + 4)) := by unfold Hid; rw [← HL.out]; exact hN
  have hT1 : 0 < T := by omega
  have hT2 : T ≤ 200 := by omega
  have CO : Hid (∀ (w0 : World) (v : Nat) (row : List (Nat × List Nat)) (P : Nat → Prop) (b c : Nat) (p : List Nat), v < 4 → PrS w0 P w.heap.size n row false → Rd w0 w0.heap.size (some ⟨b, 0, none⟩) T (U8 p) → (∀ x ∈ p, x ≤ 1) → ¬ P b → b < w0.heap.size → ¬ P 0 → Taps w0 → Calls Tryd.prog 13 #[.pointer (some ⟨w.heap.size, 0, none⟩), .int .i64 (n : Int), .int .i64 (v : Int), .slice (some ⟨b, 0, none⟩) T c] w0 (OffO w0 P w.heap.size n (anew n row n ++ [(v, p)]) (rdx N (anew n row n ++ [(v, p)]) v p))) :=
    fun w0 v row P b c p h0 h1 h2 h3 h4 h5 h6 h7 => offerC w0 P w.heap.size n n N T v c b 0 row p h1 (by omega) hN hTT h0 h2 h3 h4 h5 h6 h7
  clear hN hTT
  go_enter Tryd.func4, Tryd.ntmps4
  go_upto_region 5 with (first | (go_at_call 18; refine CN.out.mono ?_; rintro e w1 ⟨rfl, p1, b1⟩) | (go_at_call 14; refine (CR.out w1 b1).mono ?_; rintro e w2 ⟨rfl, b2⟩))
  have p2 := p1.after b2
  have bw2 := Below.then_ b1 b2
  clear p1 b1 b2 CN CR hm1 hm2
  go_wp2
  go_loopw [9] (fun x wr => ∃ i : Nat, i ≤ n1 ∧ i ≤ 6 ∧ x = .int .i64 i ∧ ∃ (row : List (Nat × List Nat)) (P : Nat → Prop), PrS wr P w.heap.size n row false ∧ (∀ k, P k → w.heap.size ≤ k) ∧ Below w.heap.size w wr) (fun x _ => 6 - (intOf x).toNat)
  case atStart => exact ⟨0, by omega, by omega, rfl, [], _, p2, (fun k hk => by rw [hk]; exact Nat.le_refl _), bw2⟩
  case round =>
    clear p2 bw2
    obtain ⟨i, hi1, hi2, rfl, row, P, pr, hP, bw⟩ := hrel
    have hTr := hT.after bw
    have rm : Rd wr wr.heap.size A n (U8 m) := (r0.below bw).up bw.size
    by_cases hlt : i < n1 ∧ i < 6
    · obtain ⟨hlt1, hlt2⟩ := hlt
      have hRr := hR.below bw
      obtain ⟨b, off, hA1, hb, hcell⟩ := hRr.at_ (by omega)
      subst hA1
      have hok := (hRr.ok i hlt1).up bw.size
      have ic := idxCame7 b off n1 c1 i hlt1
      have kv : wr.cell? ⟨b, off + 5 * i + 1, none⟩ = some (.int .i64 (es i).v) := hcell i hlt1 1 _ rfl
      have HRA : Hid (wr.rangeAt b (off + 5 * i) (es i).cells.toList) := fun j u hu => hcell i hlt1 j u (by rw [← Array.getElem?_toList]; exact hu)
      have iE : Hid ((Tryd.prog.info? 37).map (·.size) = some (es i).cells.size) := infoCame7
      obtain ⟨uu, hu, hu2⟩ := wrap_u64 (es i).v
      obtain ⟨v, hv, hv2⟩ : ∃ v : Nat, v < 4 ∧ (uu : Int) % 4 = (v : Int) := ⟨uu % 4, by omega, by omega⟩
      have CB := Lib.hid (bodyC (es i) A n c0 v m wr hok rm HB.out HNO.out (by omega) hv)
      have HPL : Hid ((bd m v (es i)).length = T) := by unfold Hid; rw [bd_length, ← HL.out, HT.out, HN.out]
      have HPB := Lib.hid (bd_bit m v (es i))
      have d1 : decide ((i : Int) < (n1 : Int)) = true := by simp; omega
      have d2 : decide ((i : Int) < 6) = true := by simp; omega
      clear hcell hok
      generalize (es i).cells = E at *
      generalize (es i).v = z at *
      generalize bd m v (es i) = p at *
      go_upto_region 9 with fail
      go_wp2_with (refine at_load_mid rfl 37 _ rfl b (off + 5 * i) rfl E _ HRA.out Tryd.underlying37 rfl iE.out ?_)
      refine CB.out.mono ?_
      rintro e w9 ⟨A9, n9, c9, rfl, own9, b9⟩
      obtain ⟨g9, rfl, hn9, hg9, hg9l⟩ := made_at own9 HPL.out hT1
      have hn9' := Lib.hid hn9
      have r9 : Rd w9 w9.heap.size (some ⟨g9, 0, none⟩) T (U8 p) := by rw [← hn9]; exact own9.rd
      have bw9 := Below.then_ bw b9
      have K := Lib.hid (CO.out w9 v row P g9 c9 p hv (pr.after b9) r9 HPB.out (fun h => by have := pr.lt _ h; omega) hg9l (fun h => by have := hP _ h; omega) (hT.after bw9))
      obtain rfl : n9 = T := hn9'.out
      have HRL := Lib.hid (fun x (h : rdx N (anew n row n ++ [(v, p)]) v p = some x) => rdx_len h HN.out)
      clear own9 b9 CB r9 hn9 kv
      generalize rdx N (anew n row n ++ [(v, p)]) v p = rr at *
      generalize anew n row n ++ [(v, p)] = row' at *
      go_wp2_with fail
      refine K.out.mono ?_
      rintro e w10 ⟨⟨P10, hP10, p10⟩, kr10, ho⟩
      have bw10 := bw9.trans (kr10.below hP bw9.size)
      rcases ho with ⟨mm, hmm, A5, k5, c5, rfl, own5⟩ | ⟨hmm, rfl⟩
      · rw [hmm] at p10
        have hk5 : k5 = n := by rw [own5.rd.len8]; exact HRL.out mm hmm
        have CD : Hid (Calls Tryd.prog 15 #[.pointer (some ⟨w.heap.size, 0, none⟩)] w10 fun e w' => e = .returned (.bool true) ∧ w10 = w') := hDone w10 _ _ _ _ _ p10
        subst hk5
        have t0 : ((k5 : Int) == (k5 : Int)) = true := by simp
        clear own5 hmm p10 kr10
        go_wp2_with (go_at_call 15; refine CD.out.mono ?_; rintro e w' ⟨rfl, rfl⟩)
        go_ret
        exact ⟨rfl, bw10⟩
      · rw [hmm] at p10
        clear hmm kr10
        go_wp2
        go_roundw
        case rel => exact ⟨i + 1, by omega, by omega, by go_num, row', P10, p10, (fun k hk => (hP10 k hk).elim (hP k) (fun h => Nat.le_trans bw9.size h)), bw10⟩
        case measure => simp [intOf] <;> omega
    · obtain ⟨uu, hu, hu2⟩ := wrap_u64 v0
      obtain ⟨v, hv, hv2⟩ : ∃ v : Nat, v < 4 ∧ (uu : Int) % 4 = (v : Int) := ⟨uu % 4, by omega, by omega⟩
      have CV := Lib.hid (refVer17 A n c0 v m wr rm HB.out HNO.out (by omega) hv)
      have HPL : Hid ((vm m v).length = T) := by unfold Hid; rw [vm_length, ← HL.out, HT.out, HN.out]
      have HPB := Lib.hid (vm_bit m v)
      have HX := Lib.hid (rdx_vm m HB.out v (anew n row n ++ [(v, vm m v)]))
      rw [← HNm.out] at HX
      have HRL := Lib.hid (fun x (h : rdx N (anew n row n ++ [(v, vm m v)]) v (vm m v) = some x) => rdx_len h HN.out)
      generalize vm m v = p at *
      by_cases ha : i < n1
      · have d1 : decide ((i : Int) < (n1 : Int)) = true := by simp; omega
        have d2 : decide ((i : Int) < 6) = false := by simp; omega
        clear hlt
        go_wp2_with fail
        refine CV.out.mono ?_
        rintro e w9 ⟨A9, n9, c9, rfl, own9, b9⟩
        obtain ⟨g9, rfl, hn9, hg9, hg9l⟩ := made_at own9 HPL.out hT1
        have hn9' := Lib.hid hn9
        have r9 : Rd w9 w9.heap.size (some ⟨g9, 0, none⟩) T (U8 p) := by rw [← hn9]; exact own9.rd
        have bw9 := Below.then_ bw b9
        have K := Lib.hid (CO.out w9 v row P g9 c9 p hv (pr.after b9) r9 HPB.out (fun h => by have := pr.lt _ h; omega) hg9l (fun h => by have := hP _ h; omega) (hT.after bw9))
        obtain rfl : n9 = T := hn9'.out
        clear own9 b9 CV r9 hn9
        generalize rdx N (anew n row n ++ [(v, p)]) v p = rr at *
        generalize anew n row n ++ [(v, p)] = row' at *
        go_wp2_with fail
        refine K.out.mono ?_
        rintro e w10 ⟨⟨P10, hP10, p10⟩, kr10, ho⟩
        have bw10 := bw9.trans (kr10.below hP bw9.size)
        rcases ho with ⟨mm, hmm, A5, k5, c5, rfl, own5⟩ | ⟨hmm, rfl⟩
        · rw [hmm] at p10
          have hk5 : k5 = n := by rw [own5.rd.len8]; exact HRL.out mm hmm
          have CD : Hid (Calls Tryd.prog 15 #[.pointer (some ⟨w.heap.size, 0, none⟩)] w10 fun e w' => e = .returned (.bool true) ∧ w10 = w') := hDone w10 _ _ _ _ _ p10
          subst hk5
          have t0 : ((k5 : Int) == (k5 : Int)) = true := by simp
          clear own5 hmm p10 kr10
          go_wp2_with (go_at_call 15; refine CD.out.mono ?_; rintro e w' ⟨rfl, rfl⟩)
          go_ret
          exact ⟨rfl, bw10⟩
        · obtain ⟨x, hx⟩ := HX.out
          rw [hmm] at hx
          cases hx
      · have d1 : decide ((i : Int) < (n1 : Int)) = false := by simp; omega
        clear hlt
        go_wp2_with fail
        refine CV.out.mono ?_
        rintro e w9 ⟨A9, n9, c9, rfl, own9, b9⟩
        obtain ⟨g9, rfl, hn9, hg9, hg9l⟩ := made_at own9 HPL.out hT1
        have hn9' := Lib.hid hn9
        have r9 : Rd w9 w9.heap.size (some ⟨g9, 0, none⟩) T (U8 p) := by rw [← hn9]; exact own9.rd
        have bw9 := Below.then_ bw b9
        have K := Lib.hid (CO.out w9 v row P g9 c9 p hv (pr.after b9) r9 HPB.out (fun h => by have := pr.lt _ h; omega) hg9l (fun h => by have := hP _ h; omega) (hT.after bw9))
        obtain rfl : n9 = T := hn9'.out
        clear own9 b9 CV r9 hn9
        generalize rdx N (anew n row n ++ [(v, p)]) v p = rr at *
        generalize anew n row n ++ [(v, p)] = row' at *
        go_wp2_with fail
        refine K.out.mono ?_
        rintro e w10 ⟨⟨P10, hP10, p10⟩, kr10, ho⟩
        have bw10 := bw9.trans (kr10.below hP bw9.size)
        rcases ho with ⟨mm, hmm, A5, k5, c5, rfl, own5⟩ | ⟨hmm, rfl⟩
        · rw [hmm] at p10
          have hk5 : k5 = n := by rw [own5.rd.len8]; exact HRL.out mm hmm
          have CD : Hid (Calls Tryd.prog 15 #[.pointer (some ⟨w.heap.size, 0, none⟩)] w10 fun e w' => e = .returned (.bool true) ∧ w10 = w') := hDone w10 _ _ _ _ _ p10
          subst hk5
          have t0 : ((k5 : Int) == (k5 : Int)) = true := by simp
          clear own5 hmm p10 kr10
          go_wp2_with (go_at_call 15; refine CD.out.mono ?_; rintro e w' ⟨rfl, rfl⟩)
          go_ret
          exact ⟨rfl, bw10⟩
        · obtain ⟨x, hx⟩ := HX.out
          rw [hmm] at hx
          cases hx
end Go.Proofs.YtcmoedhpedlalaaDoor
