/-
  Layer 13: Reset; the walk of CombineWhole.
-/
import Derived.Test.YtibddlldgmidlabDoorUz
namespace Go.Proofs.YtibddlldgmidlabDoor
open Go.RowKit
set_option maxRecDepth 100000
set_option linter.unusedVariables false
set_option linter.unusedSimpArgs false

section
variable {P : Program} {ops : Array Oper} {o : Oper} {a : Act} {K : Act → World → Prop} {Q : Exit → Act → World → Prop} {E0 : Prop}
/-- 'make' in a region that draws, behind a guard or not. -/
theorem step_make {w : World} (hw : Region.wanted o (yielded ops a.tmps) = true) (l c : Operand) (t : TypeId) (hop : o.op = Op.makeSlice t l c)
    (base : Nat) (e : TypeId) (i : TypeInfo) (z : Value) (size : Nat) (h1 : P.underlying t = some (.slice e)) (h2 : P.info? e = some i) (h3 : i.zero = some z) (h4 : i.size = size)
    (kl kc : IntKind) (n : Nat) (hl : a.eval l = .int kl (n : Int)) (hc : a.eval c = .int kc (n : Int)) (b2 : i.bytes * n ≤ 281474976710656) (b3 : n ≤ maxLen) (b4 : base ≤ w.heap.size)
    (h : ∀ w', w'.ownsRow base e size (.slice (some ⟨w.heap.size, 0, none⟩) n n) n (madeCells z.cells (n * size)).toList → w.grownBy w' none → K (a.put o.dst (.slice (some ⟨w.heap.size, 0, none⟩) n n)) w') :
    if Region.wanted o (yielded ops a.tmps) = true then Oper.wp P o a w K Q else E0 := by
  rw [if_pos hw]
  obtain ⟨w', hrun, r1, r2⟩ := run_make_full (P := P) w base t e i z size h1 h2 h3 h4 kl kc n b2 b3 b4
  unfold Oper.wp
  simp [execOp, hop, hl, hc, hrun, Result.andThen]
  exact h w' r1 r2
end
theorem idxCame' (b off n c i : Nat) (hi : i < n) (W : World) : (Instr.indexAt 23 (.slice (some ⟨b, off, none⟩) n c) (.int .i64 (i : Int))).run Tryd.prog W = .ok (.pointer (some ⟨b, off + 4 * i, none⟩)) W :=
  run_idxR (P := Tryd.prog) (sz := 4) Tryd.underlying23 (by kernel_rfl) b off n c i hi .i64 W
theorem BF0_one (n : Nat) : (BF n (Cv.cv []) (.slice none 0 0)).all (·.oneCell') = true := by simp [BF, Value.oneCell']
set_option maxHeartbeats 400000 in
/-- (*Buffer).Reset. -/
theorem resetC (gB n : Nat) (row : List (Nat × List Nat)) (S : Value) (w : World) (hB : BufS w gB n row S) :
    Calls Tryd.prog 9 #[.pointer (some ⟨gB, 0, none⟩)] w fun e w' => e = .returned (.tuple #[]) ∧ BufS w' gB n [] (.slice none 0 0) ∧ Below gB w w' ∧ w'.heap.size = w.heap.size := by
  have k0 : w.cell? ⟨gB, 0, none⟩ = some (.int .i64 (n : Int)) := hB.blk.cell 0
  have q := hB.blk
  have H1 := Lib.hid (BF0_one n)
  have HS : Hid ((BF n (Cv.cv row) S).size = (BF n (Cv.cv []) (.slice none 0 0)).size) := rfl
  have iB : Hid ((Tryd.prog.info? 68).map (·.size) = some (BF n (Cv.cv []) (.slice none 0 0)).size) := infoBuf
  generalize BF n (Cv.cv row) S = V at *
  clear hB
  go_enter Tryd.func9, Tryd.ntmps9
  go_wp2_with (refine at_store rfl 68 _ _ rfl gB (BF n (Cv.cv []) (.slice none 0 0)) rfl rfl 68 V q iB.out HS.out H1.out ?_; intro w1 h1)
  refine bodyPost_end (v := .tuple #[]) (results_none rfl _ _ _) rfl ?_
  exact ⟨rfl, ⟨h1.row, .inl ⟨rfl, rfl⟩⟩, h1.below (Nat.le_refl _), h1.size⟩
theorem made8s (k : Nat) (w wm : World) (g : Nat) (h : wm.ownsRow w.heap.size 5 1 (.slice (some ⟨g, 0, none⟩) k k) k (madeCells (Value.int .u8 0).cells (k * 1)).toList) : convO (some ⟨g, 0, none⟩) k k wm = .ok (.string (str (List.replicate k 0))) wm := by
  rw [made8] at h
  exact Own.convO (w := wm) (base := w.heap.size) ⟨h⟩ wm (Below.refl _ _)
set_option maxHeartbeats 2000000 in
set_option maxRecDepth 100000 in
/-- CombineWhole. -/
theorem walkCombineWhole (A : Option Addr) (n c : Nat) (xs : List Nat) (A2 : Option Addr) (n2 c2 : Nat) (cs : List Nat) (A1 : Option Addr) (n1 c1 : Nat) (es : Nat → CE) (w : World) (h1 : Rd w w.heap.size A n (U8 xs)) (b1 : ∀ b ∈ xs, b < 256) (hn2 : n ≤ 9223372036854775807) (hC : Rd w w.heap.size A2 n2 (U8 cs)) (hcb : ∀ b ∈ cs, b < 256) (hn22 : n2 ≤ 9223372036854775807) (hR : CRow w w.heap.size A1 n1 es) (hn1 : n1 ≤ 9223372036854775807) (hT : Taps w) :
    Calls Tryd.prog 6 #[.slice A n c, .slice A2 n2 c2, .slice A1 n1 c1] w fun e w' => e = .returned (.bool true) ∧ Below w.heap.size w w' := by
  have CF : Hid (Calls Tryd.prog 17 #[.slice A n c, .int .i64 40] w (Made w (Bm.few xs 40))) := fewC A n c 40 xs w h1 b1 (by omega) hn2
  have hlen := Bm.few_length xs 40
  have hbits := Bm.few_bit xs 40
  generalize Bm.few xs 40 = ls at *
  have HL := Lib.hid hbits
  have CCo := Lib.hid combinesC
  have hpos := hT.pos
  clear h1 b1 hbits
  go_enter Tryd.func6, Tryd.ntmps6
  go_upto_region 2 with (go_at_call 17; refine CF.out.mono ?_; rintro e w5 ⟨A5, k, c5, rfl, own, bel⟩)
  have rl := own.rd
  have HN := Lib.hid rl.len8
  have hk : k ≤ 40 := by rw [HN.out]; omega
  have CN := Lib.hid (newC k w5 (by omega))
  have hT5 := hT.after bel
  clear CF hlen
  go_upto_region 6 with (first | (go_at_call 16; refine CN.out.mono ?_; rintro e w6 ⟨rfl, hB, b6, s6⟩) | (go_at_call 11; refine (CCo.out w6 (hT5.after b6)).mono ?_; rintro e w7 ⟨rfl, b7⟩))
  replace hB := hB.after b7
  have bel7 : Below w5.heap.size w5 w7 := Below.then_ b6 b7
  have hs7 : w5.heap.size < w7.heap.size := by have := b7.size; omega
  obtain ⟨gB, hgB⟩ : ∃ g, g = w5.heap.size := ⟨_, rfl⟩
  rw [← hgB] at hB bel7 hs7
  rw [← hgB]
  have HGB := Lib.hid hgB
  have hwB : w.heap.size ≤ gB := by rw [hgB]; exact bel.size
  clear b6 b7 s6 CN hgB CCo
  go_loopw [9] (fun x wr => ∃ i : Nat, i ≤ n1 ∧ i ≤ 5 ∧ x = .int .i64 i ∧ ∃ (row : List (Nat × List Nat)) (S : Value), BufS wr gB k row S ∧ row.length ≤ i ∧ (∀ j, S.ownBlock = some j → gB ≤ j) ∧ Below gB w5 wr ∧ gB < wr.heap.size) (fun x _ => 5 - (intOf x).toNat)
  case atStart => exact ⟨0, by omega, by omega, rfl, [], _, hB, Nat.le_refl _, (fun j hj => by cases hj), bel7, hs7⟩
  case round =>
    clear hB bel7 hs7
    obtain ⟨i, hi1, hi2, rfl, row, S, hB, hrl, hS, bl, hGr⟩ := hrel
    have hTr : Taps wr := hT5.low bl (by omega)
    have rlr : Rd wr wr.heap.size A5 k (U8 ls) := by
      have h0 := rl
      rw [← HGB.out] at h0
      exact (h0.below bl).up (by omega)
    by_cases hlt : i < n1 ∧ i < 5
    · obtain ⟨hlt1, hlt2⟩ := hlt
      have hRr := (hR.below bel).below (bl.mono hwB)
      obtain ⟨b, off, hA1, hb, hcell⟩ := hRr.at_ (by omega)
      subst hA1
      have hok := hRr.ok i hlt1
      have ic := idxCame' b off n1 c1 i hlt1
      have kv : wr.cell? ⟨b, off + 4 * i + 1, none⟩ = some (.int .i64 (es i).v) := hcell i hlt1 1 _ rfl
      have HRA : Hid (wr.rangeAt b (off + 4 * i) (es i).cells.toList) := fun j u hu => hcell i hlt1 j u (by rw [← Array.getElem?_toList]; exact hu)
      have iE : Hid ((Tryd.prog.info? 42).map (·.size) = some (es i).cells.size) := infoCame
      obtain ⟨uu, hu, hu2⟩ := wrap_u64 (es i).v
      obtain ⟨v, hv, hv2⟩ : ∃ v : Nat, v < 4 ∧ (uu : Int) % 4 = (v : Int) := ⟨uu % 4, by omega, by omega⟩
      have CP := Lib.hid (partC (es i) A5 k c5 v ls wr ⟨hok.at_.up (by omega), hok.ab, hok.raw.up (by omega), hok.r256, hok.rc, hok.rc2, hok.rnone⟩ rlr HL.out (by omega) hv)
      have HPL : Hid ((pt ls v (es i)).length = k + 6) := by unfold Hid; rw [pt_length, ← HN.out]
      have HPB := Lib.hid (pt_bit ls HL.out v (es i))
      have d1 : decide ((i : Int) < (n1 : Int)) = true := by simp; omega
      have d2 : decide ((i : Int) < 5) = true := by simp; omega
      clear hcell hok
      generalize (es i).cells = E at *
      generalize (es i).v = z at *
      generalize pt ls v (es i) = p at *
      obtain ⟨T, hTT⟩ : ∃ T, T = k + 6 := ⟨_, rfl⟩
      have HTT := Lib.hid hTT
      have HPT : Hid (p.length = T) := by unfold Hid; rw [HPL.out, HTT.out]
      have hT6 : 6 ≤ T := by omega
      have hT7 : T ≤ 46 := by omega
      clear hTT HPL
      go_wp2_with (refine at_load_mid rfl 42 _ rfl b (off + 4 * i) rfl E _ HRA.out Tryd.underlying42 rfl iE.out ?_)
      refine CP.out.mono ?_
      rintro e w9 ⟨A9, n9, c9, rfl, own9, b9⟩
      have hn9 : n9 = T := by rw [own9.rd.len8, HPT.out]
      subst hn9
      obtain ⟨g9, rfl, hg9, hg9l⟩ := own9.at0 (by omega)
      have hB9 := hB.after b9
      have r9 := own9.rd
      have hSg : S.ownBlock ≠ some g9 := fun e => by have := hB.lt g9 e; omega
      have CA := Lib.hid (addC gB k v n9 c9 g9 0 row p S w9 hB9 (by omega) (by omega) hv HTT.out r9 HPB.out (by omega) hg9l hSg)
      have hs9 := b9.size
      clear CP own9 hu2 hv2
      go_wp2_with fail
      refine CA.out.mono ?_
      rintro e w10 ⟨rfl, S', hB10, hK, hO⟩
      have bl10 := (bl.trans (b9.mono (by omega))).trans (hK.below (Nat.le_refl _) hS (by omega))
      have hs10 := hK.size
      have hS10 : ∀ j, S'.ownBlock = some j → gB ≤ j := fun j hj => by
        rcases hO with e | ⟨j2, e, hj2⟩
        · exact hS j (by rw [← e]; exact hj)
        · rw [e] at hj; injection hj with hj; omega
      clear hO hB9 hB CA r9
      go_wp2
      go_roundw
      case rel => exact ⟨i + 1, by omega, by omega, by go_num, row ++ [(v, p)], S', hB10, by rw [List.length_append]; simp; omega, hS10, bl10, by omega⟩
      case measure => simp [intOf] <;> omega
    · have CRs := Lib.hid (resetC gB k row S wr hB)
      have hfin : ¬ (i < n1 ∧ i < 5) := hlt
      clear hB hS
      by_cases hi12 : i < n1
      · have d1 : decide ((i : Int) < (n1 : Int)) = true := by simp; omega
        have d2 : decide ((i : Int) < 5) = false := by simp; omega
        clear hlt hfin rlr hTr
        go_upto_region 13 with (go_at_call 9; refine CRs.out.mono ?_; rintro e w8 ⟨rfl, hB, b8, s8⟩)
        have bl8 := bl.trans b8
        have hG8 : gB < w8.heap.size := by omega
        clear b8 s8 CRs bl hGr
        obtain ⟨wo, hwo⟩ : ∃ wo : World, wo = wr := ⟨_, rfl⟩
        clear hwo
        go_loopw [11] (fun x wr => ∃ i : Nat, i ≤ n2 ∧ i ≤ 9 ∧ x = .int .i64 i ∧ ∃ (row : List (Nat × List Nat)) (S : Value), BufS wr gB k row S ∧ Hid (∀ r ∈ row, r.1 < 4 ∧ r.2 = Cv.pick (Cv.code ls) r.1) ∧ row.length = i ∧ (∀ j, S.ownBlock = some j → gB ≤ j) ∧ Below gB w5 wr ∧ gB < wr.heap.size) (fun x _ => 9 - (intOf x).toNat)
        case atStart => exact ⟨0, by omega, by omega, rfl, [], _, hB, (fun r hr => by cases hr), rfl, (fun j hj => by cases hj), bl8, hG8⟩
        case round =>
          clear hB bl8 hG8
          obtain ⟨i, hi1, hi2, rfl, row, S, hB, HWh, hrl, hS, bl, hGr⟩ := hrel
          have hTr : Taps wr := hT5.low bl (by omega)
          have rlr : Rd wr wr.heap.size A5 k (U8 ls) := by
            have h0 := rl
            rw [← HGB.out] at h0
            exact (h0.below bl).up (by omega)
          by_cases hlt : i < n2 ∧ i < 9
          · obtain ⟨hlt1, hlt2⟩ := hlt
            obtain ⟨b, off, hA2, hb, kx⟩ := ((hC.below bel).below (bl.mono hwB)).cell8 i hlt1
            subst hA2
            have hx := Bm.byte_lt cs hcb i
            generalize cs.getD i 0 = x at *
            obtain ⟨v, hv, hv2⟩ : ∃ v : Nat, v < 4 ∧ (x : Int) % 4 = (v : Int) := ⟨x % 4, by omega, by omega⟩
            have C1 := Lib.hid (refCode A5 k c5 ls wr rlr HL.out (by omega))
            obtain ⟨T, hTT⟩ : ∃ T, T = k + 6 := ⟨_, rfl⟩
            have HTT := Lib.hid hTT
            have HCL : Hid ((Cv.code ls).length = 4 * T) := by unfold Hid; rw [Cv.code_length, ← HN.out, HTT.out]
            have hT6 : 6 ≤ T := by omega
            have hT7 : T ≤ 46 := by omega
            have C2 := Lib.hid (fun (Ac : Option Addr) (nc cc : Nat) (W : World) (h : Rd W W.heap.size Ac nc (U8 (Cv.code ls))) => refPick Ac nc cc T v (Cv.code ls) W h (by rw [h.len8, HCL.out]) (by omega) hv)
            have HQL : Hid ((Cv.pick (Cv.code ls) v).length = T) := by unfold Hid; rw [Cv.pick_length, HCL.out]; omega
            have HQB := Lib.hid (Cv.pick_bit _ (Cv.code_bit ls HL.out) v)
            have HW2 : Hid (∀ r ∈ row ++ [(v, Cv.pick (Cv.code ls) v)], r.1 < 4 ∧ r.2 = Cv.pick (Cv.code ls) r.1) := fun r hr => by
              rcases List.mem_append.1 hr with h | h
              · exact HWh.out r h
              · rw [List.mem_singleton.1 h]; exact ⟨hv, rfl⟩
            generalize Cv.pick (Cv.code ls) v = p at *
            have d1 : decide ((i : Int) < (n2 : Int)) = true := by simp; omega
            have d2 : decide ((i : Int) < 9) = true := by simp; omega
            clear hTT
            go_wp2_with fail
            refine C1.out.mono ?_
            rintro e w12 ⟨A12, n12, c12, rfl, own12, b12⟩
            go_wp2_with fail
            refine (C2.out A12 n12 c12 w12 own12.rd).mono ?_
            rintro e w13 ⟨A13, n13, c13, rfl, own13, b13⟩
            have hn13 : n13 = T := by rw [own13.rd.len8, HQL.out]
            subst hn13
            obtain ⟨g9, rfl, hg9, hg9l⟩ := own13.at0 (by omega)
            have b1113 := Below.then_ b12 b13
            have hB9 := hB.after b1113
            have hs9 := b1113.size
            have hs12 := b12.size
            have hSg : S.ownBlock ≠ some g9 := fun e => by have := hB.lt g9 e; omega
            have CA := Lib.hid (addC gB k v n13 c13 g9 0 row p S w13 hB9 (by omega) (by omega) hv HTT.out own13.rd HQB.out (by omega) hg9l hSg)
            clear own12 own13 C1 C2 b12 b13 hv2 kx
            go_wp2_with fail
            refine CA.out.mono ?_
            rintro e w10 ⟨rfl, S', hB10, hK, hO⟩
            have bl10 := (bl.trans (b1113.mono (by omega))).trans (hK.below (Nat.le_refl _) hS (by omega))
            have hs10 := hK.size
            have hS10 : ∀ j, S'.ownBlock = some j → gB ≤ j := fun j hj => by
              rcases hO with e | ⟨j2, e, hj2⟩
              · exact hS j (by rw [← e]; exact hj)
              · rw [e] at hj; injection hj with hj; omega
            clear hO hB9 hB CA
            go_wp2
            go_roundw
            case rel => exact ⟨i + 1, by omega, by omega, by go_num, row ++ [(v, p)], S', hB10, HW2.out, by rw [List.length_append]; simp; omega, hS10, bl10, by omega⟩
            case measure => simp [intOf] <;> omega
          · have CDe := Lib.hid (bdecode gB k row S wr hB (by omega) (by omega) hTr)
            have hbl5 : Below w5.heap.size w5 wr := by rw [← HGB.out]; exact bl
            have HB9a := Lib.hid (Below.then_ bel hbl5)
            have HCV := Lib.hid (fun (W : World) (h : Below wr.heap.size wr W) => own.conv W (Below.then_ hbl5 h))
            have hfin : ¬ (i < n2 ∧ i < 9) := hlt
            clear hB hS
            by_cases h0 : n2 = 0
            · have hiz : i = 0 := by omega
              have hrow : row = [] := List.eq_nil_of_length_eq_zero (by omega)
              have HRB : Hid (Cv.rb (Cv.softs (k + 6) row) k 0 0 = List.replicate k 0) := by
                unfold Hid
                rw [hrow]
                exact (Cv.rb_best _ _).uniq (Cv.best_noughts (4 * (k + 6)) k)
              rw [HRB.out] at CDe
              have d1 : decide ((i : Int) < (n2 : Int)) = false := by simp; omega
              have tn : ((n2 : Int) == 0) = true := by rw [h0]; rfl
              have hni : ¬ i < n2 := by omega
              obtain ⟨i0, hi0', hz0, hz1, hz2⟩ := info_parts info5
              have hi0 := hi0'
              have HMK0 := Lib.hid (made8s k)
              clear h0 hlt hfin hrow hiz
              go_wp2_with fail
              refine CDe.out.mono ?_
              rintro e w9 ⟨A10, n10, c10, rfl, own10, b10⟩
              have HK0 := Lib.hid (fun (W : World) (h : Below w9.heap.size w9 W) => own10.convO W h)
              obtain ⟨s0, hs0⟩ : ∃ s, str (List.replicate k 0) = s := ⟨_, rfl⟩
              rw [hs0] at HK0
              have HMK : Hid (∀ (g : Nat) (wm : World), wm.ownsRow w9.heap.size 5 1 (.slice (some ⟨g, 0, none⟩) k k) k (madeCells (Value.int .u8 0).cells (k * 1)).toList → convO (some ⟨g, 0, none⟩) k k wm = .ok (.string s0) wm) := fun g wm h => by rw [← hs0]; exact made8s k w9 wm g h
              have HB9 := Lib.hid (Below.then_ HB9a.out b10)
              have HK : Hid (∀ W, Below w9.heap.size w9 W → (Below w9.heap.size w9 W ∧ convO A10 n10 c10 W = .ok (.string s0) W)) := fun W h => ⟨h, HK0.out W h⟩
              have ts : (s0.toList == s0.toList) = true := by simp
              have hany := convO_eq
              clear own10 hs0 HMK0 HK0
              go_wp2_with fail
              refine wp_region_noPanic ?_
              refine wp_region_held_drew (S := fun W => Below w9.heap.size w9 W ∧ convO A10 n10 c10 W = .ok (.string s0) W) (by kernel_rfl) (HK.out _ (Below.refl _ _).drew) (fun hHeld => ?_)
              refine wpAnyH_take (i := 0) (oi := ⟨some 92, _, _, _, _, _⟩) (v := ?_) rfl (by kernel_rfl) (by kernel_rfl) (by kernel_rfl) (fun _ _ _ h => h) (Or.inl ⟨by rfl, ?_⟩) hHeld ?_
              rotate_left
              · intro W hSW; obtain ⟨hSW0, hSW1⟩ := hSW; go_simp; first | done | with_reducible rfl
              (try simp only [Act.put, List.setIfInBounds_toArray, List.set_cons_zero, List.set_cons_succ])
              refine wpAnyH_take (i := 1) (oi := ⟨some 93, _, _, _, _, _⟩) (v := ?_) rfl (by kernel_rfl) (by kernel_rfl) (by kernel_rfl) (fun _ _ _ h => h) (Or.inl ⟨by rfl, ?_⟩) hHeld ?_
              rotate_left
              · intro W hSW; obtain ⟨hSW0, hSW1⟩ := hSW; go_simp; first | done | with_reducible rfl
              (try simp only [Act.put, List.setIfInBounds_toArray, List.set_cons_zero, List.set_cons_succ])
              refine wpAnyH_take (i := 2) (oi := ⟨some 94, _, _, _, _, _⟩) (v := ?_) rfl (by kernel_rfl) (by kernel_rfl) (by kernel_rfl) (fun _ _ _ h => h) (Or.inl ⟨by rfl, ?_⟩) hHeld ?_
              rotate_left
              · intro W hSW; obtain ⟨hSW0, hSW1⟩ := hSW; go_simp; first | done | with_reducible rfl
              (try simp only [Act.put, List.setIfInBounds_toArray, List.set_cons_zero, List.set_cons_succ])
              refine wpAnyH_take (i := 3) (oi := ⟨some 95, _, _, _, _, _⟩) (v := ?_) rfl (by kernel_rfl) (by kernel_rfl) (by kernel_rfl) (fun _ _ _ h => h) (Or.inl ⟨by rfl, ?_⟩) hHeld ?_
              rotate_left
              · intro W hSW; obtain ⟨hSW0, hSW1⟩ := hSW; go_simp; first | done | with_reducible rfl
              (try simp only [Act.put, List.setIfInBounds_toArray, List.set_cons_zero, List.set_cons_succ])
              refine wpAnyH_take (i := 4) (oi := ⟨some 96, _, _, _, _, _⟩) (v := ?_) rfl (by kernel_rfl) (by kernel_rfl) (by kernel_rfl) (fun _ _ _ h => h) (Or.inl ⟨by rfl, ?_⟩) hHeld ?_
              rotate_left
              · intro W hSW; obtain ⟨hSW0, hSW1⟩ := hSW; go_simp; first | done | with_reducible rfl
              (try simp only [Act.put, List.setIfInBounds_toArray, List.set_cons_zero, List.set_cons_succ])
              refine wpAnyH_take (i := 5) (oi := ⟨some 97, _, _, _, _, _⟩) (v := ?_) rfl (by kernel_rfl) (by kernel_rfl) (by kernel_rfl) (fun _ _ _ h => h) (Or.inl ⟨by rfl, ?_⟩) hHeld ?_
              rotate_left
              · intro W hSW; obtain ⟨hSW0, hSW1⟩ := hSW; go_simp; first | done | with_reducible rfl
              (try simp only [Act.put, List.setIfInBounds_toArray, List.set_cons_zero, List.set_cons_succ])
              refine wpAnyH_take (i := 6) (oi := ⟨some 98, _, _, _, _, _⟩) (v := ?_) rfl (by kernel_rfl) (by kernel_rfl) (by kernel_rfl) (fun _ _ _ h => h) (Or.inl ⟨by rfl, ?_⟩) hHeld ?_
              rotate_left
              · intro W hSW; obtain ⟨hSW0, hSW1⟩ := hSW; go_simp; first | done | with_reducible rfl
              (try simp only [Act.put, List.setIfInBounds_toArray, List.set_cons_zero, List.set_cons_succ])
              refine wpAnyH_ready (rs := [7]) (by kernel_rfl) (by simp) ?_
              refine AllReadyH.cons (o := ⟨some 99, _, _, _, _, _⟩) rfl (fun K hK => ?_) (AllReadyH.nil)
              refine step_make (by rfl) _ _ 22 (by rfl) w9.heap.size 5 i0 (.int .u8 0) 1 Tryd.underlying22 hi0 hz0 hz1 .i64 .i64 k (by rfl) (by rfl) (by rw [hz2]; omega) (by unfold maxLen; omega) (hHeld.1).size ?_
              intro wm om gm
              have hq : convO (some ⟨w9.heap.size, 0, none⟩) k k wm = .ok (.string s0) wm := HMK.out _ _ om
              have bm : Below w9.heap.size w9 wm := hHeld.1.grown gm hHeld.1.size (fun j h => by cases h)
              clear hHeld om gm
              refine hK.out _ _ ?_ (fun hHeld => ?_)
              · exact HK.out _ bm
              clear hK K
              (try simp only [Act.put, List.setIfInBounds_toArray, List.set_cons_zero, List.set_cons_succ])
              refine wpAnyH_ready (rs := [8]) (by kernel_rfl) (by simp) ?_
              refine AllReadyH.cons (o := ⟨some 100, _, _, _, _, _⟩) rfl (fun K hK => ?_) (AllReadyH.nil)
              go_simp
              clear hHeld
              refine hK.out _ _ ?_ (fun hHeld => ?_)
              · exact HK.out _ bm
              clear hK K
              (try simp only [Act.put, List.setIfInBounds_toArray, List.set_cons_zero, List.set_cons_succ])
              refine wpAnyH_take (i := 9) (oi := ⟨some 101, _, _, _, _, _⟩) (v := ?_) rfl (by kernel_rfl) (by kernel_rfl) (by kernel_rfl) (fun _ _ _ h => h) (Or.inl ⟨by rfl, ?_⟩) hHeld ?_
              rotate_left
              · intro W hSW; obtain ⟨hSW0, hSW1⟩ := hSW; go_simp; first | done | with_reducible rfl
              (try simp only [Act.put, List.setIfInBounds_toArray, List.set_cons_zero, List.set_cons_succ])
              refine wpAnyH_take (i := 10) (oi := ⟨some 102, _, _, _, _, _⟩) (v := ?_) rfl (by kernel_rfl) (by kernel_rfl) (by kernel_rfl) (fun _ _ _ h => h) (Or.inl ⟨by rfl, ?_⟩) hHeld ?_
              rotate_left
              · intro W hSW; obtain ⟨hSW0, hSW1⟩ := hSW; go_simp; first | done | with_reducible rfl
              (try simp only [Act.put, List.setIfInBounds_toArray, List.set_cons_zero, List.set_cons_succ])
              refine wpAnyH_take (i := 11) (oi := ⟨some 6, _, _, _, _, _⟩) (v := ?_) rfl (by kernel_rfl) (by kernel_rfl) (by kernel_rfl) (fun _ _ _ h => h) (Or.inl ⟨by rfl, ?_⟩) hHeld ?_
              rotate_left
              · intro W hSW; obtain ⟨hSW0, hSW1⟩ := hSW; go_simp; first | done | with_reducible rfl
              (try simp only [Act.put, List.setIfInBounds_toArray, List.set_cons_zero, List.set_cons_succ])
              refine wpAnyH_done (by kernel_rfl) ?_ _
              refine NoPanic.normal ?_
              clear hHeld
              go_wp2
              go_ret
              exact ⟨rfl, Below.then_ HB9.out bm⟩
            · have hne : row ≠ [] := fun e => by rw [e] at hrl; simp at hrl; omega
              have HRB : Hid (Cv.rb (Cv.softs (k + 6) row) k 0 0 = ls) := by
                unfold Hid
                rw [HN.out]
                exact (Cv.rb_best _ _).uniq (Cv.row_whole ls HL.out row hne HWh.out)
              rw [HRB.out] at CDe
              have tn : ((n2 : Int) == 0) = false := by simp; omega
              clear hne
              by_cases hi9 : i < n2
              · have d1 : decide ((i : Int) < (n2 : Int)) = true := by simp; omega
                have d2 : decide ((i : Int) < 9) = false := by simp; omega
                clear hlt hfin h0
                go_wp2_with fail
                refine CDe.out.mono ?_
                rintro e w10 ⟨A10, n10, c10, rfl, own10, b10⟩
                have hq1 := own10.conv w10 (Below.refl _ _)
                have hq2 := HCV.out w10 b10
                generalize str ls = s0 at *
                have ts : (s0.toList == s0.toList) = true := by simp
                clear own10
                go_wp2
                go_ret
                exact ⟨rfl, Below.then_ HB9a.out b10⟩
              · have d1 : decide ((i : Int) < (n2 : Int)) = false := by simp; omega
                clear hlt hfin h0
                go_wp2_with fail
                refine CDe.out.mono ?_
                rintro e w10 ⟨A10, n10, c10, rfl, own10, b10⟩
                have hq1 := own10.conv w10 (Below.refl _ _)
                have hq2 := HCV.out w10 b10
                generalize str ls = s0 at *
                have ts : (s0.toList == s0.toList) = true := by simp
                clear own10
                go_wp2
                go_ret
                exact ⟨rfl, Below.then_ HB9a.out b10⟩
      · have d1 : decide ((i : Int) < (n1 : Int)) = false := by simp; omega
        clear hlt hfin rlr hTr
        go_upto_region 13 with (go_at_call 9; refine CRs.out.mono ?_; rintro e w8 ⟨rfl, hB, b8, s8⟩)
        have bl8 := bl.trans b8
        have hG8 : gB < w8.heap.size := by omega
        clear b8 s8 CRs bl hGr
        obtain ⟨wo, hwo⟩ : ∃ wo : World, wo = wr := ⟨_, rfl⟩
        clear hwo
        go_loopw [11] (fun x wr => ∃ i : Nat, i ≤ n2 ∧ i ≤ 9 ∧ x = .int .i64 i ∧ ∃ (row : List (Nat × List Nat)) (S : Value), BufS wr gB k row S ∧ Hid (∀ r ∈ row, r.1 < 4 ∧ r.2 = Cv.pick (Cv.code ls) r.1) ∧ row.length = i ∧ (∀ j, S.ownBlock = some j → gB ≤ j) ∧ Below gB w5 wr ∧ gB < wr.heap.size) (fun x _ => 9 - (intOf x).toNat)
        case atStart => exact ⟨0, by omega, by omega, rfl, [], _, hB, (fun r hr => by cases hr), rfl, (fun j hj => by cases hj), bl8, hG8⟩
        case round =>
          clear hB bl8 hG8
          obtain ⟨i, hi1, hi2, rfl, row, S, hB, HWh, hrl, hS, bl, hGr⟩ := hrel
          have hTr : Taps wr := hT5.low bl (by omega)
          have rlr : Rd wr wr.heap.size A5 k (U8 ls) := by
            have h0 := rl
            rw [← HGB.out] at h0
            exact (h0.below bl).up (by omega)
          by_cases hlt : i < n2 ∧ i < 9
          · obtain ⟨hlt1, hlt2⟩ := hlt
            obtain ⟨b, off, hA2, hb, kx⟩ := ((hC.below bel).below (bl.mono hwB)).cell8 i hlt1
            subst hA2
            have hx := Bm.byte_lt cs hcb i
            generalize cs.getD i 0 = x at *
            obtain ⟨v, hv, hv2⟩ : ∃ v : Nat, v < 4 ∧ (x : Int) % 4 = (v : Int) := ⟨x % 4, by omega, by omega⟩
            have C1 := Lib.hid (refCode A5 k c5 ls wr rlr HL.out (by omega))
            obtain ⟨T, hTT⟩ : ∃ T, T = k + 6 := ⟨_, rfl⟩
            have HTT := Lib.hid hTT
            have HCL : Hid ((Cv.code ls).length = 4 * T) := by unfold Hid; rw [Cv.code_length, ← HN.out, HTT.out]
            have hT6 : 6 ≤ T := by omega
            have hT7 : T ≤ 46 := by omega
            have C2 := Lib.hid (fun (Ac : Option Addr) (nc cc : Nat) (W : World) (h : Rd W W.heap.size Ac nc (U8 (Cv.code ls))) => refPick Ac nc cc T v (Cv.code ls) W h (by rw [h.len8, HCL.out]) (by omega) hv)
            have HQL : Hid ((Cv.pick (Cv.code ls) v).length = T) := by unfold Hid; rw [Cv.pick_length, HCL.out]; omega
            have HQB := Lib.hid (Cv.pick_bit _ (Cv.code_bit ls HL.out) v)
            have HW2 : Hid (∀ r ∈ row ++ [(v, Cv.pick (Cv.code ls) v)], r.1 < 4 ∧ r.2 = Cv.pick (Cv.code ls) r.1) := fun r hr => by
              rcases List.mem_append.1 hr with h | h
              · exact HWh.out r h
              · rw [List.mem_singleton.1 h]; exact ⟨hv, rfl⟩
            generalize Cv.pick (Cv.code ls) v = p at *
            have d1 : decide ((i : Int) < (n2 : Int)) = true := by simp; omega
            have d2 : decide ((i : Int) < 9) = true := by simp; omega
            clear hTT
            go_wp2_with fail
            refine C1.out.mono ?_
            rintro e w12 ⟨A12, n12, c12, rfl, own12, b12⟩
            go_wp2_with fail
            refine (C2.out A12 n12 c12 w12 own12.rd).mono ?_
            rintro e w13 ⟨A13, n13, c13, rfl, own13, b13⟩
            have hn13 : n13 = T := by rw [own13.rd.len8, HQL.out]
            subst hn13
            obtain ⟨g9, rfl, hg9, hg9l⟩ := own13.at0 (by omega)
            have b1113 := Below.then_ b12 b13
            have hB9 := hB.after b1113
            have hs9 := b1113.size
            have hs12 := b12.size
            have hSg : S.ownBlock ≠ some g9 := fun e => by have := hB.lt g9 e; omega
            have CA := Lib.hid (addC gB k v n13 c13 g9 0 row p S w13 hB9 (by omega) (by omega) hv HTT.out own13.rd HQB.out (by omega) hg9l hSg)
            clear own12 own13 C1 C2 b12 b13 hv2 kx
            go_wp2_with fail
            refine CA.out.mono ?_
            rintro e w10 ⟨rfl, S', hB10, hK, hO⟩
            have bl10 := (bl.trans (b1113.mono (by omega))).trans (hK.below (Nat.le_refl _) hS (by omega))
            have hs10 := hK.size
            have hS10 : ∀ j, S'.ownBlock = some j → gB ≤ j := fun j hj => by
              rcases hO with e | ⟨j2, e, hj2⟩
              · exact hS j (by rw [← e]; exact hj)
              · rw [e] at hj; injection hj with hj; omega
            clear hO hB9 hB CA
            go_wp2
            go_roundw
            case rel => exact ⟨i + 1, by omega, by omega, by go_num, row ++ [(v, p)], S', hB10, HW2.out, by rw [List.length_append]; simp; omega, hS10, bl10, by omega⟩
            case measure => simp [intOf] <;> omega
          · have CDe := Lib.hid (bdecode gB k row S wr hB (by omega) (by omega) hTr)
            have hbl5 : Below w5.heap.size w5 wr := by rw [← HGB.out]; exact bl
            have HB9a := Lib.hid (Below.then_ bel hbl5)
            have HCV := Lib.hid (fun (W : World) (h : Below wr.heap.size wr W) => own.conv W (Below.then_ hbl5 h))
            have hfin : ¬ (i < n2 ∧ i < 9) := hlt
            clear hB hS
            by_cases h0 : n2 = 0
            · have hiz : i = 0 := by omega
              have hrow : row = [] := List.eq_nil_of_length_eq_zero (by omega)
              have HRB : Hid (Cv.rb (Cv.softs (k + 6) row) k 0 0 = List.replicate k 0) := by
                unfold Hid
                rw [hrow]
                exact (Cv.rb_best _ _).uniq (Cv.best_noughts (4 * (k + 6)) k)
              rw [HRB.out] at CDe
              have d1 : decide ((i : Int) < (n2 : Int)) = false := by simp; omega
              have tn : ((n2 : Int) == 0) = true := by rw [h0]; rfl
              have hni : ¬ i < n2 := by omega
              obtain ⟨i0, hi0', hz0, hz1, hz2⟩ := info_parts info5
              have hi0 := hi0'
              have HMK0 := Lib.hid (made8s k)
              clear h0 hlt hfin hrow hiz
              go_wp2_with fail
              refine CDe.out.mono ?_
              rintro e w9 ⟨A10, n10, c10, rfl, own10, b10⟩
              have HK0 := Lib.hid (fun (W : World) (h : Below w9.heap.size w9 W) => own10.convO W h)
              obtain ⟨s0, hs0⟩ : ∃ s, str (List.replicate k 0) = s := ⟨_, rfl⟩
              rw [hs0] at HK0
              have HMK : Hid (∀ (g : Nat) (wm : World), wm.ownsRow w9.heap.size 5 1 (.slice (some ⟨g, 0, none⟩) k k) k (madeCells (Value.int .u8 0).cells (k * 1)).toList → convO (some ⟨g, 0, none⟩) k k wm = .ok (.string s0) wm) := fun g wm h => by rw [← hs0]; exact made8s k w9 wm g h
              have HB9 := Lib.hid (Below.then_ HB9a.out b10)
              have HK : Hid (∀ W, Below w9.heap.size w9 W → (Below w9.heap.size w9 W ∧ convO A10 n10 c10 W = .ok (.string s0) W)) := fun W h => ⟨h, HK0.out W h⟩
              have ts : (s0.toList == s0.toList) = true := by simp
              have hany := convO_eq
              clear own10 hs0 HMK0 HK0
              go_wp2_with fail
              refine wp_region_noPanic ?_
              refine wp_region_held_drew (S := fun W => Below w9.heap.size w9 W ∧ convO A10 n10 c10 W = .ok (.string s0) W) (by kernel_rfl) (HK.out _ (Below.refl _ _).drew) (fun hHeld => ?_)
              refine wpAnyH_take (i := 0) (oi := ⟨some 92, _, _, _, _, _⟩) (v := ?_) rfl (by kernel_rfl) (by kernel_rfl) (by kernel_rfl) (fun _ _ _ h => h) (Or.inl ⟨by rfl, ?_⟩) hHeld ?_
              rotate_left
              · intro W hSW; obtain ⟨hSW0, hSW1⟩ := hSW; go_simp; first | done | with_reducible rfl
              (try simp only [Act.put, List.setIfInBounds_toArray, List.set_cons_zero, List.set_cons_succ])
              refine wpAnyH_take (i := 1) (oi := ⟨some 93, _, _, _, _, _⟩) (v := ?_) rfl (by kernel_rfl) (by kernel_rfl) (by kernel_rfl) (fun _ _ _ h => h) (Or.inl ⟨by rfl, ?_⟩) hHeld ?_
              rotate_left
              · intro W hSW; obtain ⟨hSW0, hSW1⟩ := hSW; go_simp; first | done | with_reducible rfl
              (try simp only [Act.put, List.setIfInBounds_toArray, List.set_cons_zero, List.set_cons_succ])
              refine wpAnyH_take (i := 2) (oi := ⟨some 94, _, _, _, _, _⟩) (v := ?_) rfl (by kernel_rfl) (by kernel_rfl) (by kernel_rfl) (fun _ _ _ h => h) (Or.inl ⟨by rfl, ?_⟩) hHeld ?_
              rotate_left
              · intro W hSW; obtain ⟨hSW0, hSW1⟩ := hSW; go_simp; first | done | with_reducible rfl
              (try simp only [Act.put, List.setIfInBounds_toArray, List.set_cons_zero, List.set_cons_succ])
              refine wpAnyH_take (i := 3) (oi := ⟨some 95, _, _, _, _, _⟩) (v := ?_) rfl (by kernel_rfl) (by kernel_rfl) (by kernel_rfl) (fun _ _ _ h => h) (Or.inl ⟨by rfl, ?_⟩) hHeld ?_
              rotate_left
              · intro W hSW; obtain ⟨hSW0, hSW1⟩ := hSW; go_simp; first | done | with_reducible rfl
              (try simp only [Act.put, List.setIfInBounds_toArray, List.set_cons_zero, List.set_cons_succ])
              refine wpAnyH_take (i := 4) (oi := ⟨some 96, _, _, _, _, _⟩) (v := ?_) rfl (by kernel_rfl) (by kernel_rfl) (by kernel_rfl) (fun _ _ _ h => h) (Or.inl ⟨by rfl, ?_⟩) hHeld ?_
              rotate_left
              · intro W hSW; obtain ⟨hSW0, hSW1⟩ := hSW; go_simp; first | done | with_reducible rfl
              (try simp only [Act.put, List.setIfInBounds_toArray, List.set_cons_zero, List.set_cons_succ])
              refine wpAnyH_take (i := 5) (oi := ⟨some 97, _, _, _, _, _⟩) (v := ?_) rfl (by kernel_rfl) (by kernel_rfl) (by kernel_rfl) (fun _ _ _ h => h) (Or.inl ⟨by rfl, ?_⟩) hHeld ?_
              rotate_left
              · intro W hSW; obtain ⟨hSW0, hSW1⟩ := hSW; go_simp; first | done | with_reducible rfl
              (try simp only [Act.put, List.setIfInBounds_toArray, List.set_cons_zero, List.set_cons_succ])
              refine wpAnyH_take (i := 6) (oi := ⟨some 98, _, _, _, _, _⟩) (v := ?_) rfl (by kernel_rfl) (by kernel_rfl) (by kernel_rfl) (fun _ _ _ h => h) (Or.inl ⟨by rfl, ?_⟩) hHeld ?_
              rotate_left
              · intro W hSW; obtain ⟨hSW0, hSW1⟩ := hSW; go_simp; first | done | with_reducible rfl
              (try simp only [Act.put, List.setIfInBounds_toArray, List.set_cons_zero, List.set_cons_succ])
              refine wpAnyH_ready (rs := [7]) (by kernel_rfl) (by simp) ?_
              refine AllReadyH.cons (o := ⟨some 99, _, _, _, _, _⟩) rfl (fun K hK => ?_) (AllReadyH.nil)
              refine step_make (by rfl) _ _ 22 (by rfl) w9.heap.size 5 i0 (.int .u8 0) 1 Tryd.underlying22 hi0 hz0 hz1 .i64 .i64 k (by rfl) (by rfl) (by rw [hz2]; omega) (by unfold maxLen; omega) (hHeld.1).size ?_
              intro wm om gm
              have hq : convO (some ⟨w9.heap.size, 0, none⟩) k k wm = .ok (.string s0) wm := HMK.out _ _ om
              have bm : Below w9.heap.size w9 wm := hHeld.1.grown gm hHeld.1.size (fun j h => by cases h)
              clear hHeld om gm
              refine hK.out _ _ ?_ (fun hHeld => ?_)
              · exact HK.out _ bm
              clear hK K
              (try simp only [Act.put, List.setIfInBounds_toArray, List.set_cons_zero, List.set_cons_succ])
              refine wpAnyH_ready (rs := [8]) (by kernel_rfl) (by simp) ?_
              refine AllReadyH.cons (o := ⟨some 100, _, _, _, _, _⟩) rfl (fun K hK => ?_) (AllReadyH.nil)
              go_simp
              clear hHeld
              refine hK.out _ _ ?_ (fun hHeld => ?_)
              · exact HK.out _ bm
              clear hK K
              (try simp only [Act.put, List.setIfInBounds_toArray, List.set_cons_zero, List.set_cons_succ])
              refine wpAnyH_take (i := 9) (oi := ⟨some 101, _, _, _, _, _⟩) (v := ?_) rfl (by kernel_rfl) (by kernel_rfl) (by kernel_rfl) (fun _ _ _ h => h) (Or.inl ⟨by rfl, ?_⟩) hHeld ?_
              rotate_left
              · intro W hSW; obtain ⟨hSW0, hSW1⟩ := hSW; go_simp; first | done | with_reducible rfl
              (try simp only [Act.put, List.setIfInBounds_toArray, List.set_cons_zero, List.set_cons_succ])
              refine wpAnyH_take (i := 10) (oi := ⟨some 102, _, _, _, _, _⟩) (v := ?_) rfl (by kernel_rfl) (by kernel_rfl) (by kernel_rfl) (fun _ _ _ h => h) (Or.inl ⟨by rfl, ?_⟩) hHeld ?_
              rotate_left
              · intro W hSW; obtain ⟨hSW0, hSW1⟩ := hSW; go_simp; first | done | with_reducible rfl
              (try simp only [Act.put, List.setIfInBounds_toArray, List.set_cons_zero, List.set_cons_succ])
              refine wpAnyH_take (i := 11) (oi := ⟨some 6, _, _, _, _, _⟩) (v := ?_) rfl (by kernel_rfl) (by kernel_rfl) (by kernel_rfl) (fun _ _ _ h => h) (Or.inl ⟨by rfl, ?_⟩) hHeld ?_
              rotate_left
              · intro W hSW; obtain ⟨hSW0, hSW1⟩ := hSW; go_simp; first | done | with_reducible rfl
              (try simp only [Act.put, List.setIfInBounds_toArray, List.set_cons_zero, List.set_cons_succ])
              refine wpAnyH_done (by kernel_rfl) ?_ _
              refine NoPanic.normal ?_
              clear hHeld
              go_wp2
              go_ret
              exact ⟨rfl, Below.then_ HB9.out bm⟩
            · have hne : row ≠ [] := fun e => by rw [e] at hrl; simp at hrl; omega
              have HRB : Hid (Cv.rb (Cv.softs (k + 6) row) k 0 0 = ls) := by
                unfold Hid
                rw [HN.out]
                exact (Cv.rb_best _ _).uniq (Cv.row_whole ls HL.out row hne HWh.out)
              rw [HRB.out] at CDe
              have tn : ((n2 : Int) == 0) = false := by simp; omega
              clear hne
              by_cases hi9 : i < n2
              · have d1 : decide ((i : Int) < (n2 : Int)) = true := by simp; omega
                have d2 : decide ((i : Int) < 9) = false := by simp; omega
                clear hlt hfin h0
                go_wp2_with fail
                refine CDe.out.mono ?_
                rintro e w10 ⟨A10, n10, c10, rfl, own10, b10⟩
                have hq1 := own10.conv w10 (Below.refl _ _)
                have hq2 := HCV.out w10 b10
                generalize str ls = s0 at *
                have ts : (s0.toList == s0.toList) = true := by simp
                clear own10
                go_wp2
                go_ret
                exact ⟨rfl, Below.then_ HB9a.out b10⟩
              · have d1 : decide ((i : Int) < (n2 : Int)) = false := by simp; omega
                clear hlt hfin h0
                go_wp2_with fail
                refine CDe.out.mono ?_
                rintro e w10 ⟨A10, n10, c10, rfl, own10, b10⟩
                have hq1 := own10.conv w10 (Below.refl _ _)
                have hq2 := HCV.out w10 b10
                generalize str ls = s0 at *
                have ts : (s0.toList == s0.toList) = true := by simp
                clear own10
                go_wp2
                go_ret
                exact ⟨rfl, Below.then_ HB9a.out b10⟩
end Go.Proofs.YtibddlldgmidlabDoor
