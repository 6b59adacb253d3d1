/-
  The walk of HarqAnew.
-/
import Derived.Test.YtcmoedhpedlalaaDoorHf
namespace Go.Proofs.YtcmoedhpedlalaaDoor
open Go.RowKit
set_option maxRecDepth 100000
set_option linter.unusedVariables false
set_option linter.unusedSimpArgs false

theorem set_bit (l : List Nat) (hl : ∀ x ∈ l, x ≤ 1) (i y : Nat) (hy : y ≤ 1) : ∀ x ∈ l.set i y, x ≤ 1 := fun x hx => by
  rcases List.mem_or_eq_of_mem_set hx with h | h
  · exact hl x h
  · omega
/-- How many came, behind i of a message's versions. -/
def Turns (n n2 i : Nat) (row : List (Nat × List Nat)) : Prop := i = 0 ∧ n2 = n + 1 ∧ row = [] ∨ 0 < i ∧ n2 = n ∧ row.length = (i - 1) % 16 + 1
theorem Turns.next {n n2 i : Nat} {row : List (Nat × List Nat)} (h : Turns n n2 i row) (r : Nat × List Nat) : (anew n2 row n ++ [r]).length = i % 16 + 1 := by
  rw [List.length_append]
  unfold anew
  rcases h with ⟨h1, h2, h3⟩ | ⟨h1, h2, h3⟩
  · rw [if_pos (.inl (by omega)), h1]; rfl
  · by_cases h4 : 16 ≤ row.length
    · rw [if_pos (.inr h4)]; simp; omega
    · rw [if_neg (by omega)]; simp; omega
set_option maxHeartbeats 1000000 in
/-- HarqAnew. -/
theorem walkAnew7 (A : Option Addr) (n0 c0 : Nat) (bs : List Nat) (t0 v0 : Int) (w : World) (hr : Rd w w.heap.size A n0 (U8 bs)) (hb : ∀ b ∈ bs, b < 256) (hnc : n0 ≤ c0) (hc0 : c0 ≤ 9223372036854775807) (hnone : A = none → n0 = 0 ∧ c0 = 0) (hT : Taps w) :
    Calls Tryd.prog 7 #[.slice A n0 c0, .int .i64 t0, .int .i64 v0] w fun e w' => e = .returned (.bool true) ∧ Below w.heap.size w w' := by
  obtain ⟨n, hk, hk2, hk3⟩ := min_if n0 4
  obtain ⟨hm1, hm2⟩ := hk3 4 rfl
  clear hk3
  have r0 := hr.cut8 n hk2
  have HB := Lib.hid (take256 hb n)
  have hnc2 : n ≤ c0 := by omega
  have HNO : Hid (A = none → n = 0 ∧ c0 = 0) := fun h => by have := hnone h; omega
  have HL : Hid (n = (bs.take n).length) := r0.len8
  generalize bs.take n = m at *
  have hs := hT.pos
  clear hr hb hnone
  have CN := Lib.hid (hNew (n + 1) w (by omega))
  have CR := Lib.hid (fun (W : World) (h : Below w.heap.size w W) => readsC W (hT.after h))
  rw [show ((n + 1 : Nat) : Int) = (n : Int) + 1 by omega] at CN
  obtain ⟨N, hN⟩ : ∃ N, N = 8 * (n + 4) := ⟨_, rfl⟩
  obtain ⟨T, hTT⟩ : ∃ T, T = N + 6 := ⟨_, rfl⟩
  have HN := Lib.hid hN
  have HT := Lib.hid hTT
  have hT1 : 0 < T := by omega
  have hT2 : T ≤ 200 := by omega
  have CO : Hid (∀ (w0 : World) (v n2 : Nat) (row : List (Nat × List Nat)) (P : Nat → Prop) (b c : Nat) (p : List Nat), v < 4 → PrS w0 P w.heap.size n2 row false → Rd w0 w0.heap.size (some ⟨b, 0, none⟩) T (U8 p) → (∀ x ∈ p, x ≤ 1) → ¬ P b → b < w0.heap.size → ¬ P 0 → Taps w0 → Calls Tryd.prog 13 #[.pointer (some ⟨w.heap.size, 0, none⟩), .int .i64 (n : Int), .int .i64 (v : Int), .slice (some ⟨b, 0, none⟩) T c] w0 (OffO w0 P w.heap.size n (anew n2 row n ++ [(v, p)]) (rdx N (anew n2 row n ++ [(v, p)]) v p))) :=
    fun w0 v n2 row P b c p h0 h1 h2 h3 h4 h5 h6 h7 => offerC w0 P w.heap.size n2 n N T v c b 0 row p h1 (by omega) hN hTT h0 h2 h3 h4 h5 h6 h7
  clear hN hTT
  obtain ⟨uu, hu, hu2⟩ := wrap_u64 v0
  obtain ⟨v, hv, hv2⟩ : ∃ v : Nat, v < 4 ∧ (uu : Int) % 4 = (v : Int) := ⟨uu % 4, by omega, by omega⟩
  obtain ⟨tt, ht, ht2⟩ := wrap_u64 t0
  obtain ⟨tm, htm, htm2⟩ : ∃ t : Nat, t < 20 ∧ (tt : Int) % 20 = (t : Int) := ⟨tt % 20, by omega, by omega⟩
  have tne : (((n : Int) + 1) != ((n : Int) + 1)) = false := by simp
  go_enter Tryd.func7, Tryd.ntmps7
  go_upto_region 3 with (go_at_call 18; refine CN.out.mono ?_; rintro e w1 ⟨rfl, p1, b1⟩)
  have CLn : Hid (∀ W, Below w1.heap.size w1 W → Calls Tryd.prog 17 #[.pointer (some ⟨w.heap.size, 0, none⟩)] W fun e w' => e = .returned (.int .i64 ((n : Int) + 1)) ∧ W = w') := fun W h => by
    have := hLen W _ _ _ _ _ (p1.after h)
    rw [show ((n + 1 : Nat) : Int) = (n : Int) + 1 by omega] at this
    exact this
  go_upto_region 5 with (first | (go_at_call 14; refine (CR.out w1 b1).mono ?_; rintro e w2 ⟨rfl, b2⟩) | (go_at_call 17; refine (CLn.out w2 b2).mono ?_; rintro e w' ⟨rfl, rfl⟩))
  have p2 := p1.after b2
  have bw2 := Below.then_ b1 b2
  have rm2 : Rd w2 w2.heap.size A n (U8 m) := (r0.below bw2).up bw2.size
  have CV := Lib.hid (refVer17 A n c0 v m w2 rm2 HB.out HNO.out (by omega) hv)
  have HPL : Hid ((vm m v).length = T) := by unfold Hid; rw [vm_length, ← HL.out, HT.out, HN.out]
  have HPB := Lib.hid (vm_bit m v)
  generalize vm m v = p at *
  clear p1 b1 b2 CN CR hm1 hm2 CLn
  go_upto_region 7 with (go_at_call 22; refine CV.out.mono ?_; rintro e w9 ⟨A9, n9, c9, rfl, own9, b9⟩)
  obtain ⟨g9, rfl, hn9, hg9, hg9l⟩ := made_at own9 HPL.out hT1
  have p9 := p2.after b9
  have bw9 := Below.then_ bw2 b9
  have own9' : Own w9 w2.heap.size 5 (some ⟨g9, 0, none⟩) T c9 (U8 p) := by rw [← hn9]; exact own9
  have hn9' := Lib.hid hn9
  have hgP2 := p2.lt _ rfl
  have hne : w.heap.size < g9 := by omega
  clear own9 hn9 p2 bw2 rm2 CV b9
  obtain rfl : n9 = T := hn9'.out
  go_wp2
  go_loopw [11] (fun x wr => ∃ (j : Nat) (l : List Nat), j ≤ n9 + 1 ∧ x = .int .i64 j ∧ Own wr w2.heap.size 5 (some ⟨g9, 0, none⟩) n9 c9 (U8 l) ∧ Hid (∀ x ∈ l, x ≤ 1) ∧ PrS wr (fun k => k = w.heap.size) w.heap.size (n + 1) [] false ∧ Below w.heap.size w wr) (fun x _ => n9 + 1 - (intOf x).toNat)
  case atStart => exact ⟨0, p, by omega, rfl, own9', HPB.out, p9, bw9⟩
  case round =>
    clear own9' p9 bw9
    obtain ⟨j, l, hj, rfl, own, HLB, pr, bw⟩ := hrel
    by_cases hlt : j < n9
    · obtain ⟨g, hg, hg1, hg2, hgc, hgf, hgs⟩ := own.slot j hlt
      injection hg with hg
      injection hg with hg _
      subst hg
      have hjl : j < l.length := by have := own.rd.len8; omega
      have hx : l.getD j 0 ≤ 1 := Bm.bit_le l HLB.out j
      have kx : wr.cell? ⟨g9, j, none⟩ = some (.int .u8 ((l.getD j 0 : Nat) : Int)) := by rw [hgc, U8_get l j hjl]
      obtain ⟨x, hxe⟩ : ∃ x, x = l.getD j 0 := ⟨_, rfl⟩
      rw [← hxe] at hx kx
      have hX : bits BinOp.xor IntKind.u8 (x : Int) 1 = ((x ^^^ 1 : Nat) : Int) := u8_xor_nat x 1 (by omega) (by omega)
      have hy : x ^^^ 1 ≤ 1 := by
        have : x = 0 ∨ x = 1 := by omega
        rcases this with e | e <;> rw [e] <;> decide
      have own2 := hgs (.int .u8 ((x ^^^ 1 : Nat) : Int))
      rw [U8_set] at own2
      have HLB2 := Lib.hid (set_bit l HLB.out j (x ^^^ 1) hy)
      have pr2 := pr.of_heap (w' := wr.setCell ⟨g9, j, none⟩ (.int .u8 ((x ^^^ 1 : Nat) : Int))) (fun k hk => heap_setCell_other wr ⟨g9, j, none⟩ k _ (by show k ≠ g9; omega)) (by simp)
      have bw2 : Below w.heap.size w (wr.setCell ⟨g9, j, none⟩ (.int .u8 ((x ^^^ 1 : Nat) : Int))) := bw.setCell (by show w.heap.size ≤ g9; omega) _
      have dj : decide ((j : Int) < (n9 : Int)) = true := by simp <;> omega
      generalize x ^^^ 1 = y at *
      clear hxe hgs hgc pr own
      go_wp2
      go_roundw
      case rel => exact ⟨j + 2, l.set j y, by omega, by go_num, own2, HLB2.out, pr2, bw2⟩
      case measure => simp [intOf] <;> omega
    · have r9 := own.rd
      have HSZ := Lib.hid bw.size
      clear own
      go_wp2
      clear htm2 hv2 hu2 ht2
      go_loopw [13] (fun x wo => ∃ i : Nat, i ≤ tm ∧ x = .int .i64 i ∧ ∃ (row : List (Nat × List Nat)) (P : Nat → Prop) (n2 : Nat), PrS wo P w.heap.size n2 row false ∧ (∀ k, P k → w.heap.size ≤ k ∧ k ≠ g9) ∧ Rd wo wo.heap.size (some ⟨g9, 0, none⟩) n9 (U8 l) ∧ Hid (Turns n n2 i row) ∧ Below w.heap.size w wo) (fun x _ => tm - (intOf x).toNat)
      case atStart => exact ⟨0, by omega, rfl, [], _, n + 1, pr, (fun k hk => by rw [hk]; exact ⟨Nat.le_refl _, by omega⟩), r9, .inl ⟨rfl, rfl, rfl⟩, bw⟩
      case round =>
        clear pr r9 bw
        obtain ⟨i, hi, rfl, row, P, n2, pr, hP, r9, HTu, bw⟩ := hrel
        by_cases hlt2 : i < tm
        · obtain ⟨g', off', e', hgl, _⟩ := r9.cell8 0 hT1
          injection e' with e'
          injection e' with e1 e2
          subst e1 e2
          have K := Lib.hid (CO.out wr v n2 row P g9 c9 l hv pr r9 HLB.out (fun h => (hP _ h).2 rfl) hgl (fun h => by have := (hP _ h).1; omega) (hT.after bw))
          have HNx := Lib.hid (HTu.out.next (v, l))
          generalize rdx N (anew n2 row n ++ [(v, l)]) v l = rr at *
          generalize anew n2 row n ++ [(v, l)] = row' at *
          have di : decide ((i : Int) < (tm : Int)) = true := by simp <;> omega
          clear pr
          go_wp2_with fail
          refine K.out.mono ?_
          rintro e w10 ⟨⟨P10, hP10, p10⟩, kr10, ho⟩
          have bw10 := bw.trans (kr10.below (fun k hk => (hP k hk).1) bw.size)
          have r10 := r9.kr kr10 (fun h => (hP _ h).2 rfl)
          rcases ho with ⟨mm, hmm, A5, k5, c5, rfl, own5⟩ | ⟨hmm, rfl⟩
          · rw [hmm] at p10
            have CD : Hid (Calls Tryd.prog 15 #[.pointer (some ⟨w.heap.size, 0, none⟩)] w10 fun e w' => e = .returned (.bool true) ∧ w10 = w') := hDone w10 _ _ _ _ _ p10
            clear own5 hmm p10 kr10
            go_wp2_with (go_at_call 15; refine CD.out.mono ?_; rintro e w' ⟨rfl, rfl⟩)
            go_ret
            exact ⟨rfl, bw10⟩
          · rw [hmm] at p10
            have CC := hCame w10 _ _ _ _ _ p10
            rw [HNx.out] at CC
            replace CC := Lib.hid CC
            have CL := Lib.hid (hLen w10 _ _ _ _ _ p10)
            obtain ⟨q, hq⟩ : ∃ q, q = i % 16 := ⟨_, rfl⟩
            have e1 : (i : Int) % 16 = (q : Int) := by omega
            have e2 : (i : Int).tmod 16 = (q : Int) := by rw [Int.tmod_eq_emod_of_nonneg (by omega)]; exact e1
            have e3 : ((q + 1 : Nat) : Int) = (q : Int) + 1 := by omega
            have t1 : (((q : Int) + 1) != ((q : Int) + 1)) = false := by simp
            have t2 : ((n : Int) != (n : Int)) = false := by simp
            rw [← hq, e3] at CC
            have HNn : Hid (Turns n n (i + 1) row') := .inr ⟨by omega, rfl, by rw [HNx.out]; rfl⟩
            have HP10 : Hid (∀ k, P10 k → w.heap.size ≤ k ∧ k ≠ g9) := fun k hk => by
              rcases hP10 k hk with h | h
              · exact hP k h
              · have := bw.size; exact ⟨by omega, by omega⟩
            clear hmm kr10 hq
            go_wp2_with (first | (go_at_call 16; refine CC.out.mono ?_; rintro e w' ⟨rfl, rfl⟩) | (go_at_call 17; refine CL.out.mono ?_; rintro e w' ⟨rfl, rfl⟩))
            go_roundw
            case rel => first | exact ⟨i + 1, by omega, by go_num, row', P10, n, p10, HP10.out, r10, HNn.out, bw10⟩ | ((repeat apply Exists.intro); exact ⟨⟨i + 1, by omega, by go_num, row', P10, n, p10, HP10.out, r10, HNn.out, bw10⟩, rfl⟩)
            case measure => simp [intOf] <;> omega
        · have di : decide ((i : Int) < (tm : Int)) = false := by simp <;> omega
          have CD := Lib.hid (hDone wr _ _ _ _ _ pr)
          go_wp2_with (go_at_call 15; refine CD.out.mono ?_; rintro e w' ⟨rfl, rfl⟩)
          go_ret
          exact ⟨rfl, bw⟩
end Go.Proofs.YtcmoedhpedlalaaDoor
