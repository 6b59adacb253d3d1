/-
  The walk of layer 2's statement BitioPuts.
-/
import Derived.Test.YtcddbcknjcedfaaPn
import Derived.Deep.RegionHeld3
import Derived.Deep.RegionLaw
namespace Go.Proofs.Ytcddbcknjcedfaa
open Go.RowKit
set_option linter.unusedVariables false
set_option linter.unusedSimpArgs false

theorem hb_lt (l : List Nat) (hl : ∀ x ∈ l, x ≤ 1) (i : Nat) : Bm.hb l i < 256 := by
  unfold Bm.hb
  have h0 := Bm.bit_le l hl i
  have h1 := Bm.bit_le l hl (i + 1)
  have h2 := Bm.bit_le l hl (i + 2)
  have h3 := Bm.bit_le l hl (i + 3)
  have h4 := Bm.bit_le l hl (i + 4)
  have h5 := Bm.bit_le l hl (i + 5)
  have h6 := Bm.bit_le l hl (i + 6)
  have h7 := Bm.bit_le l hl (i + 7)
  omega
theorem toBytes_lt (l : List Nat) (hl : ∀ x ∈ l, x ≤ 1) : ∀ b ∈ Bm.toBytes l, b < 256 := by
  intro b hb
  unfold Bm.toBytes at hb
  obtain ⟨j, _, rfl⟩ := List.mem_map.1 hb
  exact hb_lt l hl _
theorem Fr.after {w w1 w2 : World} {g : Nat} (h : Fr w w1 g none) (k : Fr w1 w2 g none) : Fr w w2 g none :=
  ⟨k.os.trans h.os, k.tape.trans h.tape, k.output.trans h.output, Nat.le_trans h.size k.size, fun i hi hg hr => (k.block i (Nat.lt_of_lt_of_le hi h.size) hg hr).trans (h.block i hi hg hr)⟩
/-- The bits from the j-th number on. -/
theorem bits_step (ps : List (Int × Int)) (hf : ∀ p ∈ ps, Fits p) (j : Nat) (hj : j < ps.length) :
    ∃ N wd : Nat, ps.getD j (0, 0) = ((N : Int), (wd : Int)) ∧ 1 ≤ wd ∧ wd ≤ 32 ∧ N < 2 ^ wd ∧ bitsP (ps.drop j) = pre N wd wd ++ bitsP (ps.drop (j + 1)) := by
  have e : ps.getD j (0, 0) = ps[j] := by simp [List.getD, hj]
  obtain ⟨N, wd, e2, h1, h2, h3⟩ := hf ps[j] (List.getElem_mem hj)
  refine ⟨N, wd, e.trans e2, h1, h2, h3, ?_⟩
  rw [List.drop_eq_getElem_cons hj]
  simp only [bitsP, List.flatMap_cons, e2, Int.toNat_natCast]
theorem padE_zeros (k : Nat) (h : k < 8) : padE (List.replicate k 0) = 0 := by
  unfold padE
  rw [if_neg (by rw [List.length_replicate]; omega), if_pos (wt_replicate k)]
theorem bit_zeros (l : List Nat) (hl : ∀ x ∈ l, x ≤ 1) (k : Nat) : ∀ x ∈ l ++ List.replicate k 0, x ≤ 1 := by
  intro x hx
  rcases List.mem_append.1 hx with h | h
  · exact hl x h
  · rw [List.eq_of_mem_replicate h]; omega
/-- Behind a round that put. -/
theorem PuSt.inv {w : World} {g : Nat} {Aa : Option Addr} {na ca ni ci q : Nat} {Ai : Option Addr} {ps : List (Int × Int)} {Aw : Option Addr} {cw : Nat} {As : Option Addr} {ns cs N wd : Nat} {pr : List Nat} {W : World}
    (h : PuSt w g Aa (na + wd) ca (bitsP ps ++ pre N wd wd) Ai (ni + 1) ci (ps ++ [((N : Int), (wd : Int))]) Aw (na + wd) cw (bitsP ps ++ pre N wd wd) As ns cs pr W) (hf : ∀ p ∈ ps, Fits p) (hp : Fits ((N : Int), (wd : Int))) (hq : ni ≤ q) (hl : na ≤ 32 * ni) (hw : wd ≤ 32) :
    PuInv w g Aa (na + wd) ca Ai (ni + 1) ci (q + 1) W Aw cw (ps ++ [((N : Int), (wd : Int))]) := by
  refine ⟨by rw [bitsP_snoc]; exact h.wri, by rw [bitsP_snoc]; exact h.all, h.inn, fun p hpm => ?_, h.ap1, h.bel, by omega, by omega⟩
  rcases List.mem_append.1 hpm with h1 | h1
  · exact hf p h1
  · rw [List.mem_singleton.1 h1]; exact hp

set_option maxHeartbeats 4000000 in
set_option maxRecDepth 100000 in
/-- BitioPuts. -/
theorem walk7 (A : Option Addr) (n c : Nat) (zs : List (Int × Int)) (w : World) (h1 : RdN w w.heap.size A n zs) (b1 : ∀ p ∈ zs, (-9223372036854775808 ≤ p.1 ∧ p.1 ≤ 9223372036854775807) ∧ (-9223372036854775808 ≤ p.2 ∧ p.2 ≤ 9223372036854775807)) (hnc : n ≤ c) (hc : c ≤ 9223372036854775807) :
    Calls Try.prog 7 #[.slice A n c] w fun e w' => e = .returned (.bool true) ∧ Below w.heap.size w w' := by
  go_enter Try.func7, Try.ntmps7
  go_wp2_with fail
  refine (puts _).mono ?_
  rintro e wp ⟨rfl, bep⟩
  go_wp2_with fail
  refine (putNil _ _ _).mono ?_
  rintro e w' ⟨rfl, rfl⟩
  go_wp2_with fail
  refine (wbytesNil _).mono ?_
  rintro e w' ⟨rfl, rfl⟩
  go_wp2_with fail
  refine (wlenNil _).mono ?_
  rintro e w' ⟨rfl, rfl⟩
  go_wp2_with fail
  obtain ⟨g, hg⟩ : ∃ g, g = wp.heap.size := ⟨_, rfl⟩
  obtain ⟨w0, hw0⟩ : ∃ w0, w0 = wp.alloc (.cells #[.slice none 0 0] 44) := ⟨_, rfl⟩
  have wr0 : Wr w0 w.heap.size g none 0 0 [] := by rw [hw0, hg]; exact newWr wp _
  have bel0 : Below w.heap.size w w0 := by rw [hw0]; exact bep.trans ((Below.refl _ _).alloc bep.size _)
  have hgw : w.heap.size ≤ g := by rw [hg]; exact bep.size
  rw [← hw0, ← hg]
  clear hw0 hg bep
  go_loopw [5, 6, 7] (fun all inn i wr => ∃ Aa na ca Ai ni ci q Aw cw ps, q ≤ n ∧ q ≤ 20 ∧ i = .int .i64 (q : Nat) ∧ all = .slice Aa na ca ∧ inn = .slice Ai ni ci ∧ PuInv w g Aa na ca Ai ni ci q wr Aw cw ps) (fun _ _ i _ => n - (intOf i).toNat)
  case atStart => exact ⟨none, 0, 0, none, 0, 0, 0, none, 0, [], Nat.zero_le _, Nat.zero_le _, rfl, rfl, rfl, wr0, Own.nil _ _ _, OwnN.nil _ _, by simp, by simp [Value.ownBlock], bel0, Nat.le_refl _, Nat.zero_le _⟩
  case round =>
    clear wr0 bel0
    obtain ⟨Aa, na, ca, Ai, ni, ci, q, Aw, cw, ps, hq1, hq2, rfl, rfl, rfl, hinv⟩ := hrel
    by_cases hlt2 : q < n ∧ q < 20
    · obtain ⟨hlt3, hlt4⟩ := hlt2
      have t1 : decide ((q : Int) < (n : Int)) = true := by simp; omega
      have t2 : decide ((q : Int) < 20) = true := by simp; omega
      have hl0 := h1.len
      obtain ⟨b', off', rfl, hlt5, hc1, hc2⟩ := (h1.below hinv.bel).cells q hlt3
      have hb := b1 (zs.getD q (0, 0)) (by rw [List.getD_eq_getElem?_getD, List.getElem?_eq_getElem (by omega)]; exact List.getElem_mem _)
      obtain ⟨⟨x, z⟩, hz⟩ : ∃ z, z = zs.getD q (0, 0) := ⟨_, rfl⟩
      rw [← hz] at hc1 hc2 hb
      dsimp only at hc1 hc2 hb
      have HK : Hid (∀ W, Below w.heap.size w W → (Below w.heap.size w W ∧ W.cell? ⟨b', off' + q * 2, none⟩ = some (.int .i64 x) ∧ W.cell? ⟨b', off' + q * 2 + 1, none⟩ = some (.int .i64 z))) := by
        intro W hB
        obtain ⟨b2, off2, e2, _, k1, k2⟩ := (h1.below hB).cells q hlt3
        injection e2 with e2
        injection e2 with e3 e4
        subst e3 e4
        rw [← hz] at k1 k2
        exact ⟨hB, k1, k2⟩
      clear hc1 hc2 hz b1 hl0
      have hbw := hinv.bel
      have HINV := Lib.hid hinv
      clear hinv
      by_cases hz1 : z < 1 ∨ 32 < z
      · have CA := Lib.hid (fun w => refPutArg x z w hz1)
        have CB := Lib.hid (fun w => putArg g x z w hz1)
        clear hz1
        go_wp2_with fail
        go_region_held3 (fun W => Below w.heap.size w W ∧ W.cell? ⟨b', off' + q * 2, none⟩ = some (.int .i64 x) ∧ W.cell? ⟨b', off' + q * 2 + 1, none⟩ = some (.int .i64 z))
          (first
            | assumption
            | exact HK.out _ hbw.drew)
          (first
            | (go_at_call 32; refine (CA.out _).mono ?_; rintro e w' ⟨rfl, rfl⟩))
        go_wp2_with fail
        go_region_held3 (fun W => Below w.heap.size w W ∧ W.cell? ⟨b', off' + q * 2, none⟩ = some (.int .i64 x) ∧ W.cell? ⟨b', off' + q * 2 + 1, none⟩ = some (.int .i64 z))
          (first
            | assumption
            | exact HK.out _ hbw.drew.drew)
          (first
            | (go_at_call 29; refine (CB.out _).mono ?_; rintro e w' ⟨rfl, rfl⟩))
        go_wp2_with fail
        go_roundw
        case rel => exact ⟨Aa, na, ca, Ai, ni, ci, q + 1, Aw, cw, ps, by omega, by omega, by go_num, rfl, rfl, HINV.out.next (Below.refl _ _).drew.drew⟩
        case measure => simp [intOf] <;> omega
      · obtain ⟨wd, rfl⟩ := Int.eq_ofNat_of_zero_le (show 0 ≤ z by omega)
        have hw1 : 1 ≤ wd := by omega
        have hw2 : wd ≤ 32 := by omega
        clear hz1
        by_cases hfit : x < 0 ∨ 2 ^ wd ≤ x
        · have CA := Lib.hid (fun w => refPutField x wd w hw1 hw2 hfit)
          have CB := Lib.hid (fun w => putField g x wd w hw1 hw2 hb.1.1 hb.1.2 hfit)
          clear hfit
          go_wp2_with fail
          go_region_held3 (fun W => Below w.heap.size w W ∧ W.cell? ⟨b', off' + q * 2, none⟩ = some (.int .i64 x) ∧ W.cell? ⟨b', off' + q * 2 + 1, none⟩ = some (.int .i64 (wd : Int)))
            (first
              | assumption
              | exact HK.out _ hbw.drew)
            (first
              | (go_at_call 32; refine (CA.out _).mono ?_; rintro e w' ⟨rfl, rfl⟩))

          go_wp2_with fail
          go_region_held3 (fun W => Below w.heap.size w W ∧ W.cell? ⟨b', off' + q * 2, none⟩ = some (.int .i64 x) ∧ W.cell? ⟨b', off' + q * 2 + 1, none⟩ = some (.int .i64 (wd : Int)))
            (first
              | assumption
              | exact HK.out _ hbw.drew.drew)
            (first
              | (go_at_call 29; refine (CB.out _).mono ?_; rintro e w' ⟨rfl, rfl⟩))

          go_wp2_with fail
          go_roundw
          case rel => exact ⟨Aa, na, ca, Ai, ni, ci, q + 1, Aw, cw, ps, by omega, by omega, by go_num, rfl, rfl, HINV.out.next (Below.refl _ _).drew.drew⟩
          case measure => simp [intOf] <;> omega
        · obtain ⟨N, rfl⟩ := Int.eq_ofNat_of_zero_le (show 0 ≤ x by omega)
          have hN : N < 2 ^ wd := by
            have e : ((2 ^ wd : Nat) : Int) = (2 : Int) ^ wd := by simp
            have : ¬ ((2 ^ wd : Nat) : Int) ≤ (N : Int) := by rw [e]; exact fun h => hfit (.inr h)
            omega
          have HFIT : Hid (Fits ((N : Int), (wd : Int))) := ⟨N, wd, rfl, hw1, hw2, hN⟩
          have CA := Lib.hid (fun w => refPutOk N wd w hw1 hw2 hN)
          have CB := Lib.hid (fun (W : World) (hB : Below wr.heap.size wr W) => putOk w.heap.size g Aw na cw (bitsP ps) N wd W (HINV.out.wri.below hB) (Nat.le_trans HINV.out.bel.size hB.size) hw1 hw2 hN (by have := HINV.out.len; have := HINV.out.few; omega))
          clear hfit hN
          go_wp2_with fail
          go_region_held3 (fun W => Below w.heap.size w W ∧ W.cell? ⟨b', off' + q * 2, none⟩ = some (.int .i64 (N : Int)) ∧ W.cell? ⟨b', off' + q * 2 + 1, none⟩ = some (.int .i64 (wd : Int)))
            (first
              | assumption
              | exact HK.out _ hbw.drew
              | exact HK.out _ (Below.then_ hbw.drew be1))
            (first
              | (go_at_call 32; refine (CA.out _).mono ?_; rintro e w1 ⟨As, ns, cs, rfl, os1, be1⟩))

          have bw1 : Below wr.heap.size wr w1.drew := Below.trans (Below.refl _ _).drew be1.drew
          have bww1 := Below.then_ hbw bw1
          go_wp2_with fail
          go_region_held3 (fun W => Below w.heap.size w W ∧ W.cell? ⟨b', off' + q * 2, none⟩ = some (.int .i64 (N : Int)) ∧ W.cell? ⟨b', off' + q * 2 + 1, none⟩ = some (.int .i64 (wd : Int)))
            (first
              | assumption
              | exact HK.out _ bww1
              | exact HK.out _ stp.bel)
            (first
              | (go_at_call 29; refine (CB.out _ bw1).mono ?_; rintro e w2 ⟨rfl, A2, n2, c2, wri2, hn2, fr2, hr2⟩; have stp := HINV.out.put hgw bw1 ⟨os1.row.drew⟩ wri2 fr2 hr2))

          obtain rfl : ns = wd := by have := os1.rd.len8; rw [pre_length] at this; exact this
          obtain ⟨b8, o8, rfl, _, _⟩ := os1.rd.at_ (by omega)
          obtain rfl := hn2
          have s0 := stp.below (Below.refl _ _).drew
          have hk2 := HK.out _ stp.bel
          have hk21 := hk2.2.1
          have hk22 := hk2.2.2
          clear hk2 stp os1 bw1 bww1 be1 fr2 hr2 CA CB
          go_wp2_with fail
          go_region_law (first
            | (refine step_appB _ (by rfl) _ _ (by rfl) w.heap.size Aa na ca _ (by rfl) s0.all b8 o8 ns cs _ (by rfl) s0.src.rd (by have := HINV.out.len; have := HINV.out.few; omega) (by omega) s0.bel.size ?_; intro A3 c3 w3 ho3 hg3 hat3; have sA := s0.appA ho3 hg3 hat3; have hkA := HK.out _ sA.bel; have hkA1 := hkA.2.1; have hkA2 := hkA.2.2; clear hkA; clear ho3 hg3 hat3)
            | (refine step_appB _ (by rfl) _ _ (by rfl) w.heap.size Aa na ca _ (by rfl) (s0.alloc _).all b8 o8 ns cs _ (by rfl) (s0.alloc _).src.rd (by have := HINV.out.len; have := HINV.out.few; omega) (by omega) (s0.alloc _).bel.size ?_; intro A3 c3 w3 ho3 hg3 hat3; have sA := (s0.alloc _).appA ho3 hg3 hat3; have gc1 := (World.cell?_of_block (a := ⟨w2.drew.heap.size, 0, none⟩) (hg3.block _ (by simp) (fun e => absurd (s0.all.block _ e.symm).2 (Nat.lt_irrefl _)))).trans (by simp : _ = some (Value.int .i64 (N : Int))); have gc2 := (World.cell?_of_block (a := ⟨w2.drew.heap.size, 1, none⟩) (hg3.block _ (by simp) (fun e => absurd (s0.all.block _ e.symm).2 (Nat.lt_irrefl _)))).trans (by simp : _ = some (Value.int .i64 (ns : Int))); have hkA := HK.out _ sA.bel; have hkA1 := hkA.2.1; have hkA2 := hkA.2.2; clear hkA; clear ho3 hg3 hat3)
           
            | (refine step_appN _ (by rfl) _ _ (by rfl) w.heap.size Ai ni ci ps ((N : Int), (ns : Int)) (by rfl) (sA.alloc _).inn _ (by rfl) (by simp) (by simp) (by have := HINV.out.few; omega) (sA.alloc _).bel.size ?_; intro A4 c4 w4 ho4 hg4 hat4; have sZ := (sA.alloc _).appN ho4 hg4; clear ho4 hg4 hat4)
            | (refine step_appN _ (by rfl) _ _ (by rfl) w.heap.size Ai ni ci ps ((N : Int), (ns : Int)) (by rfl) sA.inn _ (by rfl) gc1 gc2 (by have := HINV.out.few; omega) sA.bel.size ?_; intro A4 c4 w4 ho4 hg4 hat4; have sZ := sA.appN ho4 hg4; clear ho4 hg4 hat4))
          all_goals
            go_wp2_with fail
            have inv2 := sZ.inv HINV.out.fit HFIT.out HINV.out.few HINV.out.len (by omega)
            clear sZ
            go_roundw
            case rel => exact ⟨A3, na + ns, c3, A4, ni + 1, c4, q + 1, A2, c2, _, by omega, by omega, by go_num, rfl, rfl, inv2⟩
            case measure => simp [intOf] <;> omega
    · have hna := hinv.len
      have hni := hinv.few
      have hbits := bitsP_bit ps
      have hbw := hinv.bel
      have CW := Lib.hid (wbytes w.heap.size g Aw na cw (bitsP ps) wr hinv.wri hbits (by omega))
      have HINV := Lib.hid hinv
      have HB := Lib.hid hbits
      have hna2 : na ≤ 640 := by omega
      clear hinv hbits hna
      by_cases hq3 : q < n
      all_goals first
        | (have t1 : decide ((q : Int) < (n : Int)) = true := by simp; omega
           have t2 : decide ((q : Int) < 20) = false := by simp; omega)
        | have t1 : decide ((q : Int) < (n : Int)) = false := by simp; omega
      all_goals
        go_wp2_with fail
        refine CW.out.mono ?_
        rintro e w5 ⟨A5, n5, c5, rfl, ow5, be5⟩
        go_wp2_with fail
        have HC5 := Lib.hid ow5.convO
        have C25 := Lib.hid (fun (W : World) (hB : Below w5.heap.size w5 W) => refBytes Aa na ca (bitsP ps) W (HINV.out.all.rdOf (Below.then_ be5 hB)) HB.out (by omega))
        have CL := Lib.hid (fun (W : World) (hB : Below w5.heap.size w5 W) => wlen w.heap.size g Aw na cw (bitsP ps) W (HINV.out.wri.below (Below.then_ be5 hB)))
        obtain ⟨s5, hs5⟩ : ∃ s5, str (Bm.toBytes (bitsP ps)) = s5 := ⟨_, rfl⟩
        rw [hs5] at HC5
        have HK : Hid (∀ W, Below w5.heap.size w5 W → (Below w5.heap.size w5 W ∧ convO A5 n5 c5 W = .ok (.string s5) W)) := fun W hB => ⟨hB, HC5.out W hB⟩
        have hany := convO_eq
        have OW5 := Lib.hid ow5
        have BE5 := Lib.hid be5
        clear ow5 be5 HC5
        go_wp2_with fail
        refine wp_region_noPanic ?_
        refine wp_region_held_drew (S := fun W => Below w5.heap.size w5 W ∧ convO A5 n5 c5 W = .ok (.string s5) W) (by kernel_rfl) (HK.out _ (Below.refl _ _).drew) (fun hHeld => ?_)
        refine wpAnyH_take (i := 0) (oi := ⟨some 87, _, _, _, _, _⟩) (v := ?_) rfl (by kernel_rfl) (by kernel_rfl) (by kernel_rfl) (fun _ _ _ h => h) (Or.inl ⟨by rfl, ?_⟩) (by assumption) ?_
        rotate_left
        · intro W hSW; obtain ⟨hSW0, hSW1⟩ := hSW; go_simp; first | done | with_reducible rfl
        (try simp only [Act.put, List.setIfInBounds_toArray, List.set_cons_zero, List.set_cons_succ])
        refine wpAnyH_take (i := 1) (oi := ⟨some 88, _, _, _, _, _⟩) (v := ?_) rfl (by kernel_rfl) (by kernel_rfl) (by kernel_rfl) (fun _ _ _ h => h) (Or.inl ⟨by rfl, ?_⟩) (by assumption) ?_
        rotate_left
        · intro W hSW; obtain ⟨hSW0, hSW1⟩ := hSW; go_simp; first | done | with_reducible rfl
        (try simp only [Act.put, List.setIfInBounds_toArray, List.set_cons_zero, List.set_cons_succ])
        refine wpAnyH_take (i := 2) (oi := ⟨some 89, _, _, _, _, _⟩) (v := ?_) rfl (by kernel_rfl) (by kernel_rfl) (by kernel_rfl) (fun _ _ _ h => h) (Or.inl ⟨by rfl, ?_⟩) (by assumption) ?_
        rotate_left
        · intro W hSW; obtain ⟨hSW0, hSW1⟩ := hSW; go_simp; first | done | with_reducible rfl
        (try simp only [Act.put, List.setIfInBounds_toArray, List.set_cons_zero, List.set_cons_succ])
        refine wpAnyH_ready (rs := [3]) (by kernel_rfl) (by simp) ?_
        refine AllReadyH.cons (o := ⟨some 90, _, _, _, _, _⟩) rfl (fun K hK => ?_) AllReadyH.nil
        go_simp
        refine (C25.out _ hHeld.1).mono ?_
        rintro e w6 ⟨A6, n6, c6, rfl, ow6, be6⟩
        have hcv6 := ow6.convO w6 (Below.refl _ _)
        rw [hs5] at hcv6
        have hB6 := Below.then_ hHeld.1 be6
        clear hHeld
        refine hK.out _ _ ?_ (fun hHeld => ?_)
        · exact HK.out _ hB6
        clear hK K
        (try simp only [Act.put, List.setIfInBounds_toArray, List.set_cons_zero, List.set_cons_succ])
        refine wpAnyH_ready (rs := [4]) (by kernel_rfl) (by simp) ?_
        refine AllReadyH.cons (o := ⟨some 91, _, _, _, _, _⟩) rfl (fun K hK => ?_) AllReadyH.nil
        go_simp
        refine hK.out _ _ ?_ (fun hHeld => ?_)
        · exact HK.out _ hB6
        clear hK K
        (try simp only [Act.put, List.setIfInBounds_toArray, List.set_cons_zero, List.set_cons_succ])
        refine wpAnyH_take (i := 5) (oi := ⟨some 92, _, _, _, _, _⟩) (v := ?_) rfl (by kernel_rfl) (by kernel_rfl) (by kernel_rfl) (fun _ _ _ h => h) (Or.inl ⟨by rfl, ?_⟩) (by assumption) ?_
        rotate_left
        · intro W hSW; obtain ⟨hSW0, hSW1⟩ := hSW; go_simp; first | done | with_reducible rfl
        (try simp only [Act.put, List.setIfInBounds_toArray, List.set_cons_zero, List.set_cons_succ])
        refine wpAnyH_take (i := 6) (oi := ⟨some 93, _, _, _, _, _⟩) (v := ?_) rfl (by kernel_rfl) (by kernel_rfl) (by kernel_rfl) (fun _ _ _ h => h) (Or.inl ⟨by rfl, ?_⟩) (by assumption) ?_
        rotate_left
        · intro W hSW; obtain ⟨hSW0, hSW1⟩ := hSW; go_simp; first | done | with_reducible rfl
        (try simp only [Act.put, List.setIfInBounds_toArray, List.set_cons_zero, List.set_cons_succ])
        refine wpAnyH_take (i := 7) (oi := ⟨some 94, _, _, _, _, _⟩) (v := ?_) rfl (by kernel_rfl) (by kernel_rfl) (by kernel_rfl) (fun _ _ _ h => h) (Or.inl ⟨by rfl, ?_⟩) (by assumption) ?_
        rotate_left
        · intro W hSW; obtain ⟨hSW0, hSW1⟩ := hSW; go_simp; first | done | with_reducible rfl
        (try simp only [Act.put, List.setIfInBounds_toArray, List.set_cons_zero, List.set_cons_succ])
        refine wpAnyH_take (i := 9) (oi := ⟨some 96, _, _, _, _, _⟩) (v := ?_) rfl (by kernel_rfl) (by kernel_rfl) (by kernel_rfl) (fun _ _ _ h => h) (Or.inl ⟨by rfl, ?_⟩) (by assumption) ?_
        rotate_left
        · intro W hSW; obtain ⟨hSW0, hSW1⟩ := hSW; go_simp; first | done | with_reducible rfl
        (try simp only [Act.put, List.setIfInBounds_toArray, List.set_cons_zero, List.set_cons_succ])
        refine wpAnyH_take (i := 10) (oi := ⟨some 97, _, _, _, _, _⟩) (v := ?_) rfl (by kernel_rfl) (by kernel_rfl) (by kernel_rfl) (fun _ _ _ h => h) (Or.inl ⟨by rfl, ?_⟩) (by assumption) ?_
        rotate_left
        · intro W hSW; obtain ⟨hSW0, hSW1⟩ := hSW; go_simp; first | done | with_reducible rfl
        (try simp only [Act.put, List.setIfInBounds_toArray, List.set_cons_zero, List.set_cons_succ])
        refine wpAnyH_ready (rs := [8]) (by kernel_rfl) (by simp) ?_
        refine AllReadyH.cons (o := ⟨some 95, _, _, _, _, _⟩) rfl (fun K hK => ?_) AllReadyH.nil
        go_simp
        refine (CL.out _ hB6).mono ?_
        rintro e w' ⟨rfl, rfl⟩
        refine hK.out _ _ ?_ (fun hHeld => ?_)
        · exact HK.out _ hB6
        clear hK K
        (try simp only [Act.put, List.setIfInBounds_toArray, List.set_cons_zero, List.set_cons_succ])
        refine wpAnyH_take (i := 11) (oi := ⟨some 98, _, _, _, _, _⟩) (v := ?_) rfl (by kernel_rfl) (by kernel_rfl) (by kernel_rfl) (fun _ _ _ h => h) (Or.inl ⟨by rfl, ?_⟩) (by assumption) ?_
        rotate_left
        · intro W hSW; obtain ⟨hSW0, hSW1⟩ := hSW; go_simp; first | done | with_reducible rfl
        (try simp only [Act.put, List.setIfInBounds_toArray, List.set_cons_zero, List.set_cons_succ])
        refine wpAnyH_take (i := 12) (oi := ⟨some 99, _, _, _, _, _⟩) (v := ?_) rfl (by kernel_rfl) (by kernel_rfl) (by kernel_rfl) (fun _ _ _ h => h) (Or.inl ⟨by rfl, ?_⟩) (by assumption) ?_
        rotate_left
        · intro W hSW; obtain ⟨hSW0, hSW1⟩ := hSW; go_simp; first | done | with_reducible rfl
        (try simp only [Act.put, List.setIfInBounds_toArray, List.set_cons_zero, List.set_cons_succ])
        refine wpAnyH_done (by kernel_rfl) ?_ _
        refine NoPanic.normal ?_
        clear hHeld hany hs5 C25 CL HK hcv6 ow6
        have ow56 := OW5.out.below hB6 (Nat.le_refl _)
        have hn5 : n5 ≤ 100 := by
          have h1 := ow56.rd.len8
          have h2 := HINV.out.all.rd.len8
          rw [Bm.toBytes_length, ← h2] at h1
          omega
        have CO := Lib.hid (ofC A5 n5 c5 (Bm.toBytes (bitsP ps)) w6 (ow56.rdOf (Below.refl _ _)) (toBytes_lt _ HB.out) (by omega))
        obtain ⟨pad, hpad, hpe⟩ := ofBytes_toBytes (bitsP ps) HB.out
        rw [hpe] at CO
        clear hpe
        go_wp2_with fail
        refine CO.out.mono ?_
        rintro e w7 ⟨w8, A8, n8, c8, rfl, rfl, ow8, be8⟩
        have bwr8 : Below wr.heap.size wr w8 := Below.then_ (Below.then_ BE5.out hB6) be8
        have bel8 := Below.then_ hbw bwr8
        have inn8 := (HINV.out.inn.below bwr8).rd
        have hlen := inn8.len
        have FIT := Lib.hid HINV.out.fit
        have bd8 := ow8.bounds
        obtain ⟨gr, hgr⟩ : ∃ gr, gr = w8.heap.size := ⟨_, rfl⟩
        obtain ⟨w9, hw9⟩ : ∃ w9, w9 = w8.alloc (.cells #[.slice A8 n8 c8] 78) := ⟨_, rfl⟩
        have be9 : Below w8.heap.size w8 w9 := by rw [hw9]; exact (Below.refl _ _).alloc (Nat.le_refl _) _
        have rr9 : Rr w9 gr A8 n8 c8 (bitsP ps ++ List.replicate pad 0) := by
          refine ⟨by rw [hw9, hgr]; exact heap_alloc_new w8 _, (ow8.below be9 (Nat.le_refl _)).rdOf (Below.refl _ _), bd8.1, by unfold maxLen at bd8; omega⟩
        have bel9 := Below.then_ bel8 be9
        have inn9 := inn8.below be9
        have hgw9 : w.heap.size ≤ gr := by rw [hgr]; exact bel8.size
        rw [← hw9]
        rw [← hgr] at inn9 ⊢
        clear hw9 hgr be9 ow8 be8 bwr8 bel8 inn8 bd8 OW5 ow56 hB6 BE5 CO CW HINV hn5
        go_wp2_with fail
        go_loopw [12] (fun i wr2 => ∃ j Ar nr cr, j ≤ ni ∧ i = .int .i64 (j : Nat) ∧ Rr wr2 gr Ar nr cr (bitsP (ps.drop j) ++ List.replicate pad 0) ∧ Fr w9 wr2 gr none) (fun i _ => ni - (intOf i).toNat)
        case atStart => exact ⟨0, A8, n8, c8, Nat.zero_le _, rfl, by rw [List.drop_zero]; exact rr9, Fr.refl _ _ _⟩
        case round =>
          have hgl := rr9.box.lt
          clear rr9
          obtain ⟨j, Ar, nr, cr, hj, rfl, hrr, hfr⟩ := hrel
          have bel10 : Below gr w9 wr := hfr.below (Nat.le_refl _) (fun k h => by cases h) (Nat.le_of_lt hgl)
          by_cases hlt : j < ni
          · obtain ⟨N, wd, ep, h1w, h2w, hN, eb⟩ := bits_step ps FIT.out j (by omega)
            obtain ⟨bi, oi, rfl, hlti, hc1, hc2⟩ := (inn9.below bel10).cells j hlt
            rw [ep] at hc1 hc2
            dsimp only at hc1 hc2
            rw [eb, List.append_assoc] at hrr
            obtain ⟨tl, htl⟩ : ∃ tl, tl = bitsP (ps.drop (j + 1)) ++ List.replicate pad 0 := ⟨_, rfl⟩
            have hbt : ∀ x ∈ pre N wd wd ++ tl, x ≤ 1 := by
              rw [htl, ← List.append_assoc, ← eb]
              exact bit_zeros _ (bitsP_bit _) pad
            rw [← htl] at hrr
            have hnr := hrr.rd.len8
            rw [List.length_append, pre_length] at hnr
            have CT := Lib.hid (takeC gr Ar nr cr wd _ wr hrr hbt h1w h2w (by omega))
            have htk : (pre N wd wd ++ tl).take wd = pre N wd wd := by rw [List.take_append_of_le_length (by rw [pre_length]; omega), List.take_of_length_le (by rw [pre_length]; omega)]
            have hdr : (pre N wd wd ++ tl).drop wd = tl := by rw [List.drop_append_of_le_length (by rw [pre_length]; omega), List.drop_of_length_le (by rw [pre_length]; omega), List.nil_append]
            have HE : Hid (num ((pre N wd wd ++ tl).take wd) = N) := by unfold Hid; rw [htk, num_all N wd hN]
            have HDR := Lib.hid hdr
            have HTL := Lib.hid htl
            have HEP := Lib.hid ep
            clear htk hdr hnr hbt hrr htl eb hN ep
            go_wp2_with fail
            refine CT.out.mono ?_
            rintro e w10 ⟨he, hf10, A10, n10, c10, hr10⟩
            rw [HE.out] at he
            rw [HDR.out, HTL.out] at hr10
            subst he
            have fr10 := hfr.after hf10
            have bel11 : Below gr w9 w10 := fr10.below (Nat.le_refl _) (fun k h => by cases h) (Nat.le_of_lt hgl)
            obtain ⟨bi2, oi2, e2, _, hd1, _⟩ := (inn9.below bel11).cells j hlt
            injection e2 with e2
            injection e2 with e3 e4
            subst e3 e4
            rw [HEP.out] at hd1
            dsimp only at hd1
            clear hc1 hc2 CT HE HDR HTL HEP
            go_wp2_with fail
            go_roundw
            case rel => exact ⟨j + 1, A10, n10, c10, by omega, by go_num, hr10, fr10⟩
            case measure => simp [intOf] <;> omega
          · have hd : ps.drop j = [] := List.drop_of_length_le (by omega)
            rw [hd] at hrr
            have hrr2 : Rr wr gr Ar nr cr (List.replicate pad 0) := hrr
            have hnr := hrr2.rd.len8
            rw [List.length_replicate] at hnr
            have CP := Lib.hid (padC gr Ar nr cr _ wr hrr2 (fun x hx => by rw [List.eq_of_mem_replicate hx]; omega) (by omega))
            have HPE := Lib.hid (padE_zeros pad hpad)
            clear hd hrr hrr2 hnr
            go_wp2_with fail
            refine CP.out.mono ?_
            rintro e w11 ⟨he, A11, n11, c11, ls11, hf11, hr11, hz11, hn11⟩
            rw [HPE.out] at he
            subst he
            obtain rfl : n11 = 0 := by rw [hr11.rd.len8, hz11 HPE.out]; rfl
            have CQ := Lib.hid (leftC gr A11 0 c11 ls11 w11 hr11)
            have bel11 : Below w.heap.size w w11 := bel9.trans ((hfr.after hf11).below hgw9 (fun k h => by cases h) bel9.size)
            clear hz11 hn11 hr11 hf11 CP
            go_wp2_with fail
            refine CQ.out.mono ?_
            rintro e w' ⟨rfl, rfl⟩
            go_wp2_with fail
            go_ret
            exact ⟨rfl, bel11⟩
end Go.Proofs.Ytcddbcknjcedfaa
