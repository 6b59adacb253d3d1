/-
  Contract of layer 9: Decode.
-/
import Derived.Test.YtknfpdlomgllhaaDoorVg
namespace Go.Proofs.YtknfpdlomgllhaaDoor
open Go.RowKit
set_option maxRecDepth 100000
set_option linter.unusedVariables false
set_option linter.unusedSimpArgs false

set_option maxHeartbeats 400000 in
/-- viterbi.count of a code's count. -/
theorem countYes (N n : Nat) (w : World) (hN : N = 4 * (n + 6)) (hn : n ≤ 4096) : Calls Tryd.prog 89 #[.int .i64 (N : Int)] w fun e w' => e = .returned (.tuple #[.int .i64 (n : Int), .bool true]) ∧ w = w' := by
  have C := Lib.hid (stepsC 0 w (by omega))
  have e0 : (N : Int) / 4 = (n : Int) + 6 := by omega
  have e1 : (N : Int) % 4 = 0 := by omega
  have e2 : (n : Int) + 6 - 6 = (n : Int) := by omega
  have d1 : decide ((0 : Int) ≤ (n : Int)) = true := by simp
  have d2 : decide ((n : Int) ≤ 4096) = true := by simp <;> omega
  have hN2 : N ≤ 100000 := by omega
  clear hN
  go_enter Tryd.func89, Tryd.ntmps89
  go_wp2_with (go_at_call 97; refine C.out.mono ?_; rintro e w' ⟨rfl, rfl⟩)
  go_ret2
  exact ⟨rfl, rfl⟩
set_option maxHeartbeats 400000 in
/-- viterbi.count of what no code has. -/
theorem countNo (N : Nat) (w : World) (hN : N % 4 ≠ 0 ∨ N < 24 ∨ 16408 < N) (hN2 : N ≤ 1000000) : Calls Tryd.prog 89 #[.int .i64 (N : Int)] w fun e w' => (∃ v : Int, e = .returned (.tuple #[.int .i64 v, .bool false])) ∧ w = w' := by
  have C := Lib.hid (stepsC 0 w (by omega))
  obtain ⟨q, hq⟩ : ∃ q : Nat, q = N / 4 := ⟨_, rfl⟩
  obtain ⟨r, hr⟩ : ∃ r : Nat, r = N % 4 := ⟨_, rfl⟩
  have e0 : (N : Int) / 4 = (q : Int) := by omega
  have e1 : (N : Int) % 4 = (r : Int) := by omega
  have hq2 : q ≤ 1000000 := by omega
  have hc : r ≠ 0 ∨ (r = 0 ∧ q < 6) ∨ (r = 0 ∧ 4102 < q) := by omega
  clear hq hr hN
  rcases hc with h | ⟨h, h2⟩ | ⟨h, h2⟩
  · have t0 : ((r : Int) == 0) = false := by simp <;> omega
    go_enter Tryd.func89, Tryd.ntmps89
    go_wp2_with (go_at_call 97; refine C.out.mono ?_; rintro e w' ⟨rfl, rfl⟩)
    go_ret2
    exact ⟨⟨_, rfl⟩, rfl⟩
  · subst h
    have t1 : decide ((0 : Int) ≤ (q : Int) - 6) = false := by simp <;> omega
    have t2 : decide ((6 : Int) ≤ (q : Int)) = false := by simp <;> omega
    have t3 : decide (6 ≤ q) = false := by simp <;> omega
    go_enter Tryd.func89, Tryd.ntmps89
    go_wp2_with (go_at_call 97; refine C.out.mono ?_; rintro e w' ⟨rfl, rfl⟩)
    go_ret2
    exact ⟨⟨_, rfl⟩, rfl⟩
  · subst h
    obtain ⟨u, hu⟩ : ∃ u : Nat, q = u + 6 := ⟨q - 6, by omega⟩
    subst hu
    have e2 : ((u + 6 : Nat) : Int) - 6 = (u : Int) := by omega
    rw [show ((u + 6 : Nat) : Int) = (u : Int) + 6 by omega] at e0 e2
    have t1 : decide ((0 : Int) ≤ (u : Int)) = true := by simp
    have t2 : decide ((u : Int) ≤ 4096) = false := by simp <;> omega
    go_enter Tryd.func89, Tryd.ntmps89
    go_wp2_with (go_at_call 97; refine C.out.mono ?_; rintro e w' ⟨rfl, rfl⟩)
    go_ret2
    exact ⟨⟨_, rfl⟩, rfl⟩
set_option maxHeartbeats 400000 in
/-- viterbi.within. -/
theorem vWithin (A : Option Addr) (n c : Nat) (zs : List Int) (w : World) (hr : Rd w w.heap.size A n (I64 zs)) (hn : n ≤ 65536) :
    Calls Tryd.prog 90 #[.slice A n c] w fun e w' => e = .returned (.bool (Cv.inB zs)) ∧ w = w' := by
  have HN := Lib.hid hr.len64
  go_enter Tryd.func90, Tryd.ntmps90
  go_wp2
  go_loop [7] (fun i => ∃ k : Nat, k ≤ n ∧ i = .int .i64 k ∧ Hid (∀ j, j < k → -31 ≤ zs.getD j 0 ∧ zs.getD j 0 ≤ 31)) (fun i => n - (intOf i).toNat)
  case atStart => exact ⟨0, Nat.zero_le _, rfl, fun j hj => by omega⟩
  case round =>
    obtain ⟨k, hk, rfl, HR⟩ := hrel
    by_cases hlt : k < n
    · obtain ⟨b', off, rfl, hlt2, hcell⟩ := hr.cell64 k hlt
      obtain ⟨x, hxe⟩ : ∃ x, x = zs.getD k 0 := ⟨_, rfl⟩
      have HX := Lib.hid hxe
      rw [← hxe] at hcell
      clear hxe
      by_cases hb : -31 ≤ x ∧ x ≤ 31
      · have e : (x != Cv.clip x) = false := by rw [← (Cv.clip_eq x).2 hb]; simp
        go_wp2_with (go_at_call 98; refine (softClip x _).mono ?_; rintro e w' ⟨rfl, rfl⟩)
        go_round
        case rel =>
          refine ⟨k + 1, by omega, by go_num, fun j hj => ?_⟩
          by_cases hjk : j = k
          · rw [hjk, ← HX.out]; exact hb
          · exact HR.out j (by omega)
        case measure => simp [intOf] <;> omega
      · have e : (x != Cv.clip x) = true := by
          have : x ≠ Cv.clip x := fun h => hb ((Cv.clip_eq x).1 h)
          simpa using this
        go_wp2_with (go_at_call 98; refine (softClip x _).mono ?_; rintro e w' ⟨rfl, rfl⟩)
        go_ret
        exact ⟨ret_bool (Cv.inB_false k (by rw [← HN.out]; exact hlt) (by rw [← HX.out]; exact hb)).symm, rfl⟩
    · go_wp2
      go_ret
      exact ⟨ret_bool (Cv.inB_of_getD (fun i hi => HR.out i (by rw [← HN.out] at hi; omega))).symm, rfl⟩
/-- What Decode gives. -/
def Decoded (w : World) (bs : List Nat) (v : Int) (e : Ending) (w' : World) : Prop := ∃ A n c, e = .returned (.tuple #[.slice A n c, .int .i64 v, .int .i64 0]) ∧ Own w' w.heap.size 5 A n c (U8 bs) ∧ Below w.heap.size w w'
theorem infoWy : ∃ i z, Tryd.prog.info? 158 = some i ∧ i.zero = some z ∧ i.size = 64 ∧ i.bytes = 64 := by
  have h : ((Tryd.prog.info? 158).map fun i => (i.zero.isSome, i.size, i.bytes)) = some (true, 64, 64) := by kernel_rfl
  cases hi : Tryd.prog.info? 158 with
  | none => rw [hi] at h; cases h
  | some i =>
    rw [hi] at h
    simp only [Option.map_some, Option.some.injEq, Prod.mk.injEq] at h
    obtain ⟨z, hz⟩ := Option.isSome_iff_exists.1 h.1
    exact ⟨i, z, rfl, hz, h.2.1, h.2.2⟩
/-- One row more. -/
theorem rows_more (f : Nat → Nat → Nat) (n m t : Nat) (ht : t = n - 1 - m) (hm : m < n) (tk tk3 : Array Value) (hs : tk.size = 64 * n) (h : ∀ t', n - m ≤ t' → t' < n → ∀ i u, (UA (rowAt f t')).toList[i]? = some u → tk[64 * t' + i]? = some u)
    (hg : ∀ i, tk3[i]? = if 64 * t ≤ i ∧ i < 64 * t + (UA (rowAt f t)).size then (UA (rowAt f t))[i - 64 * t]? else tk[i]?) : ∀ t', n - (m + 1) ≤ t' → t' < n → ∀ i u, (UA (rowAt f t')).toList[i]? = some u → tk3[64 * t' + i]? = some u := by
  intro t' h1 h2 i u hu
  have hi : i < 64 := by
    have := (List.getElem?_eq_some_iff.1 hu).1
    rw [Array.length_toList, UA_size, rowAt_length] at this
    exact this
  rw [hg, UA_size, rowAt_length]
  by_cases htt : t' = t
  · subst htt
    rw [if_pos (by omega), show 64 * t' + i - 64 * t' = i by omega, ← Array.getElem?_toList]
    exact hu
  · rw [if_neg (by omega)]
    exact h t' (by omega) h2 i u hu

set_option maxHeartbeats 600000 in
set_option maxRecDepth 100000 in
/-- viterbi.Decode. -/
theorem decodeC (b off N n c : Nat) (l : List Int) (w : World) (hr : Rd w w.heap.size (some ⟨b, off, none⟩) N (I64 l)) (hin : ∀ z ∈ l, -31 ≤ z ∧ z ≤ 31) (hN : N = 4 * (n + 6)) (hn : n ≤ 4096) (hc : N ≤ c) (hc2 : c ≤ 9223372036854775807) (hT : Taps w) :
    Calls Tryd.prog 53 #[.slice (some ⟨b, off, none⟩) N c] w (Decoded w (Cv.rb l n 0 0) (Cv.mb l n 0 0)) := by
  have hll : l.length = 4 * (n + 6) := by rw [← hr.len64, hN]
  obtain ⟨p, hp⟩ : ∃ p, 4 * n = p := ⟨_, rfl⟩
  have ep : 4 * (n : Int) = (p : Int) := by omega
  have hNp : N - p = 24 := by omega
  have hpN : p + 24 ≤ N := by omega
  have hp2 : p ≤ 20000 := by omega
  have hN2 : N ≤ 20000 := by omega
  have C1 := Lib.hid (countYes N n w hN hn)
  have C2 := Lib.hid (vWithin (some ⟨b, off, none⟩) N c l w hr (by omega))
  rw [Cv.inB_of hin] at C2
  have C3 := Lib.hid (allC w hT)
  have HB := Lib.hid (dl_bounds hin n hll)
  have HMB := Lib.hid (dl_mb l n hll n (Nat.le_refl _) 0 (by omega))
  rw [Nat.sub_self] at HMB
  have HROW := Lib.hid (fq_row l n hll)
  have HRB := Lib.hid (wls_all l n)
  have HLEN : Hid (l.length = 4 * (n + 6)) := hll
  have HIN := Lib.hid hin
  have hrd24 : Rd w w.heap.size (some ⟨b, off + p, none⟩) 24 (I64 (l.drop p)) := by
    refine ⟨by rw [I64_length, List.length_drop, hll]; omega, fun _ => ?_⟩
    obtain ⟨b', off', e, hlt, hcl⟩ := hr.at_ (by omega)
    injection e with e
    injection e with e1 e2
    subst e1 e2
    refine ⟨b, off + p, rfl, hlt, fun i u hu => ?_⟩
    rw [Nat.add_assoc]
    refine hcl (p + i) u ?_
    unfold I64 at *
    rw [List.map_drop, List.getElem?_drop] at hu
    exact hu
  have HD24 : Hid (l.drop p = l.drop (4 * n)) := by unfold Hid; rw [hp]
  have CE0 := Lib.hid (fun (W : World) (hB : Below w.heap.size w W) => endsC b (off + p) (c - p) (l.drop p) W ((hrd24.below hB).up hB.size) (drop_in hin p) (by omega) (by omega))
  rw [← hNp] at CE0
  have HE0 : Hid (en (l.drop p) 6 = dl l n 0) := by unfold Hid; rw [HD24.out]; rfl
  rw [HE0.out] at CE0
  have iE := Lib.hid infoEA
  have oE := Lib.hid EA_one
  have zE : Hid (Z896.size = EA.size) := by unfold Hid; rw [Z896_size, EA_size]
  have ZE := Lib.hid Z64_eq
  have HCC := Lib.hid (fun (m : Nat) (hm : m < n) (A : Option Addr) (cc : Nat) (W : World) (hR : Rd W W.heap.size A 4 (I64 (nums l (n - 1 - m)))) => chooseC A cc (nums l (n - 1 - m)) (dl l n m) W hR (nums_in hin _) (dl_length l n m) (fun i => by have := dl_bounds hin n hll m (by omega) i; omega))
  have HWK := Lib.hid (fun (g : Nat) (tk : Array Value) (W : World) (hk : Blk W g 158 tk) (ht : ∀ t, t < n → ∀ i u, (UA (rowAt (fq l n) t)).toList[i]? = some u → tk[64 * t + i]? = some u) => walkC (fq l n) (fq_bit l n) g n tk W hk ht hn)
  rw [HRB.out] at HWK
  clear hll hNp hin hrd24 hN
  go_enter Tryd.func53, Tryd.ntmps53
  generalize EA = E at *
  generalize hZ8 : Z896 = Z8 at *
  go_upto_region 7 with (first | (go_at_call 89; refine C1.out.mono ?_; rintro e w' ⟨rfl, rfl⟩) | (go_at_call 90; refine C2.out.mono ?_; rintro e w' ⟨rfl, rfl⟩) | (go_at_call 91; refine C3.out.mono ?_; rintro e w1 ⟨rfl, hb1⟩) | (refine at_alloc rfl 152 rfl Z8 (by rw [← hZ8]; exact Z896_eq) ?_; intro w2 h2) | (refine at_store rfl 152 _ _ rfl w1.heap.size E rfl rfl 152 Z8 h2.row iE.out zE.out oE.out ?_; intro w3 h3))
  have HP := Lib.hid hp
  have n0 := h3.row
  have be3 := (Below.then_ hb1 h2.bel).trans (h3.below hb1.size)
  have hs3 : w1.heap.size < w3.heap.size := n0.lt
  have hg1w : w.heap.size ≤ w1.heap.size := hb1.size
  have hT3 := hT.after be3
  have hR3 := (hr.below be3).up (B' := w3.heap.size) be3.size
  have CE := Lib.hid (fun (W : World) (hB : Below w3.heap.size w3 W) => CE0.out W (be3.trans (hB.mono be3.size)))
  have iR : Hid ((Tryd.prog.info? 154).map (·.size) = some (IA (dl l n 0)).size) := by unfold Hid; rw [IA_size, dl_length]; exact info64
  have oR := Lib.hid (IA_one (dl l n 0))
  have zR : Hid ((IA (List.replicate 64 0)).size = (IA (dl l n 0)).size) := by unfold Hid; rw [IA_size, IA_size, dl_length, List.length_replicate]
  generalize hR0 : IA (dl l n 0) = R at *
  generalize hZ0 : IA (List.replicate 64 0) = Z at *
  have HR0 := Lib.hid hR0
  generalize hgw : w.heap.size = gw at *
  have HG := Lib.hid hgw
  generalize w1.heap.size = g7 at *
  clear hp hZ8 h2 h3 hb1 C1 C2 C3 CE0 hR0 hZ0 hgw hT zE
  (try simp only [Act.put, List.setIfInBounds_toArray, List.set_cons_zero, List.set_cons_succ])
  go_cut [8] from 23 to 28 (fun s8 wc => ∃ g8 : Nat, s8 = .pointer (some ⟨g8, 0, none⟩) ∧ g7 < g8 ∧ Blk wc g7 152 E ∧ Blk wc g8 154 R ∧ Below w3.heap.size w3 wc)
  case first =>
    have n_0 := n0.drew
    have bel_0 : Below w3.heap.size w3 w3.drew := (Below.refl _ _).drew
    have sw : w3.heap.size ≤ w3.drew.heap.size := Nat.le_refl _
    have f1 : IntKind.i64.wrap (p : Int) = (p : Int) := IntWalk.i64_in _ (by omega)
    have f2 : (0 : Int) ≤ (p : Int) := by omega
    have f3 : (p : Int) ≤ (N : Int) := by omega
    have f4 : ¬ c = p := by omega
    obtain ⟨W0, hW0⟩ : ∃ W0, w3.drew = W0 := ⟨_, rfl⟩
    refine wp_region_noPanic ?_
    refine wp_region_held_drew (S := fun W => Blk W g7 152 E) (by kernel_rfl) n_0 (fun hHeld => ?_)
    rw [hW0] at n_0 bel_0 sw hHeld ⊢
    clear hW0
    refine wpAnyH_take (i := 0) (oi := ⟨some 23, _, _, _, _, _⟩) (v := _) rfl (by kernel_rfl) (by kernel_rfl) (by kernel_rfl) (fun _ _ _ h => h) (yields_row (by rfl) 152 _ (by rfl) g7 (by rfl) 152 E _ (fun W h => h) Tryd.underlying152 rfl iE.out) (by assumption) ?_
    (try simp only [Act.put, List.setIfInBounds_toArray, List.set_cons_zero, List.set_cons_succ])
    refine wpAnyH_take (i := 1) (oi := ⟨some 24, _, _, _, _, _⟩) (v := ?_) rfl (by kernel_rfl) (by kernel_rfl) (by kernel_rfl) (fun _ _ _ h => h) (Or.inl ⟨by rfl, ?_⟩) (by assumption) ?_
    rotate_left
    · intro W hSW; have hSW0 := hSW; go_simp; first | done | with_reducible rfl
    (try simp only [Act.put, List.setIfInBounds_toArray, List.set_cons_zero, List.set_cons_succ])
    refine wpAnyH_take (i := 2) (oi := ⟨some 25, _, _, _, _, _⟩) (v := ?_) rfl (by kernel_rfl) (by kernel_rfl) (by kernel_rfl) (fun _ _ _ h => h) (Or.inl ⟨by rfl, ?_⟩) (by assumption) ?_
    rotate_left
    · intro W hSW; have hSW0 := hSW; go_simp; first | done | with_reducible rfl
    (try simp only [Act.put, List.setIfInBounds_toArray, List.set_cons_zero, List.set_cons_succ])
    refine wpAnyH_take (i := 3) (oi := ⟨some 26, _, _, _, _, _⟩) (v := ?_) rfl (by kernel_rfl) (by kernel_rfl) (by kernel_rfl) (fun _ _ _ h => h) (Or.inl ⟨by rfl, ?_⟩) (by assumption) ?_
    rotate_left
    · intro W hSW; have hSW0 := hSW; go_simp; first | done | with_reducible rfl
    (try simp only [Act.put, List.setIfInBounds_toArray, List.set_cons_zero, List.set_cons_succ])
    refine wpAnyH_take (i := 4) (oi := ⟨some 27, _, _, _, _, _⟩) (v := ?_) rfl (by kernel_rfl) (by kernel_rfl) (by kernel_rfl) (fun _ _ _ h => h) (Or.inl ⟨by rfl, ?_⟩) (by assumption) ?_
    rotate_left
    · intro W hSW; have hSW0 := hSW; go_simp; first | done | with_reducible rfl
    (try simp only [Act.put, List.setIfInBounds_toArray, List.set_cons_zero, List.set_cons_succ])
    refine wpAnyH_ready (rs := [5, 6]) (by kernel_rfl) (by simp) ?_
    refine AllReadyH.cons (o := ⟨some 28, _, _, _, _, _⟩) rfl (fun K hK => ?_) (AllReadyH.cons (o := ⟨some 8, _, _, _, _, _⟩) rfl (fun K hK => ?_) (AllReadyH.nil))
    · go_simp
      refine (CE.out _ bel_0).mono ?_
      rintro e W1 ⟨rfl, hb_1⟩
      have n_1 := n_0.after hb_1
      have bel_1 := bel_0.trans (hb_1.mono bel_0.size)
      have sz_1 := hb_1.size
      clear hHeld
      refine hK.out _ _ ?_ (fun hHeld => ?_)
      · exact n_1
      clear hK K
      (try simp only [Act.put, List.setIfInBounds_toArray, List.set_cons_zero, List.set_cons_succ])
      refine wpAnyH_ready (rs := [6]) (by kernel_rfl) (by simp) ?_
      refine AllReadyH.cons (o := ⟨some 8, _, _, _, _, _⟩) rfl (fun K hK => ?_) (AllReadyH.nil)
      refine step_alloc (by rfl) 154 (by rfl) Z ZE.out ?_
      intro W2 hl_2
      have hb_2 := hl_2.bel
      have n_2 := n_1.after hb_2
      have p8_2 := hl_2.row
      have bel_2 := bel_1.trans (hb_2.mono bel_1.size)
      have sz_2 : W1.heap.size < W2.heap.size := by rw [hl_2.size]; omega
      clear hHeld
      refine hK.out _ _ ?_ (fun hHeld => ?_)
      · exact n_2
      clear hK K
      (try simp only [Act.put, List.setIfInBounds_toArray, List.set_cons_zero, List.set_cons_succ])
      refine wpAnyH_ready (rs := [7]) (by kernel_rfl) (by simp) ?_
      refine AllReadyH.cons (o := ⟨none, _, _, _, _, _⟩) rfl (fun K hK => ?_) (AllReadyH.nil)
      refine step_store (by rfl) 154 _ _ (by rfl) (W1.heap.size) R (by rfl) (by rfl) 154 Z p8_2 iR.out zR.out oR.out ?_
      intro W3 hu_3
      have n_3 := hu_3.blk n_2 (by have q0 := n_0.lt; omega)
      have p8_3 := hu_3.row
      have bel_3 := bel_2.trans (hu_3.below (by omega))
      clear hHeld
      refine hK.out _ _ ?_ (fun hHeld => ?_)
      · exact n_3
      clear hK K
      (try simp only [Act.put, List.setIfInBounds_toArray, List.set_cons_zero, List.set_cons_succ])
      refine wpAnyH_done (by kernel_rfl) ?_ _
      refine NoPanic.normal ?_
      go_wp2_with fail
      go_meet
      exact ⟨W1.heap.size, rfl, by have q0 := n_0.lt; omega, n_3, p8_3, bel_3⟩
    · refine step_alloc (by rfl) 154 (by rfl) Z ZE.out ?_
      intro W1 hl_1
      have hb_1 := hl_1.bel
      have n_1 := n_0.after hb_1
      have p8_1 := hl_1.row
      have bel_1 := bel_0.trans (hb_1.mono bel_0.size)
      have sz_1 : W0.heap.size < W1.heap.size := by rw [hl_1.size]; omega
      clear hHeld
      refine hK.out _ _ ?_ (fun hHeld => ?_)
      · exact n_1
      clear hK K
      (try simp only [Act.put, List.setIfInBounds_toArray, List.set_cons_zero, List.set_cons_succ])
      refine wpAnyH_ready (rs := [5]) (by kernel_rfl) (by simp) ?_
      refine AllReadyH.cons (o := ⟨some 28, _, _, _, _, _⟩) rfl (fun K hK => ?_) (AllReadyH.nil)
      go_simp
      refine (CE.out _ bel_1).mono ?_
      rintro e W2 ⟨rfl, hb_2⟩
      have n_2 := n_1.after hb_2
      have p8_2 := p8_1.after hb_2
      have bel_2 := bel_1.trans (hb_2.mono bel_1.size)
      have sz_2 := hb_2.size
      clear hHeld
      refine hK.out _ _ ?_ (fun hHeld => ?_)
      · exact n_2
      clear hK K
      (try simp only [Act.put, List.setIfInBounds_toArray, List.set_cons_zero, List.set_cons_succ])
      refine wpAnyH_ready (rs := [7]) (by kernel_rfl) (by simp) ?_
      refine AllReadyH.cons (o := ⟨none, _, _, _, _, _⟩) rfl (fun K hK => ?_) (AllReadyH.nil)
      refine step_store (by rfl) 154 _ _ (by rfl) (W0.heap.size) R (by rfl) (by rfl) 154 Z p8_2 iR.out zR.out oR.out ?_
      intro W3 hu_3
      have n_3 := hu_3.blk n_2 (by have q0 := n_0.lt; omega)
      have p8_3 := hu_3.row
      have bel_3 := bel_2.trans (hu_3.below (by omega))
      clear hHeld
      refine hK.out _ _ ?_ (fun hHeld => ?_)
      · exact n_3
      clear hK K
      (try simp only [Act.put, List.setIfInBounds_toArray, List.set_cons_zero, List.set_cons_succ])
      refine wpAnyH_done (by kernel_rfl) ?_ _
      refine NoPanic.normal ?_
      go_wp2_with fail
      go_meet
      exact ⟨W0.heap.size, rfl, by have q0 := n_0.lt; omega, n_3, p8_3, bel_3⟩
  case rest =>
    obtain ⟨g8, rfl, h78, k7, k8, belc⟩ := hcut
    clear CE n0
    obtain ⟨i0, z0, hi0, hz0, hz1, hz2⟩ := infoWy
    go_wp2_with (at_make; refine wpList_make_full _ rfl _ _ 156 rfl wc.heap.size 158 i0 z0 64 Tryd.underlying156 hi0 hz0 hz1 .i64 .i64 _ _ n rfl rfl (by first | rfl | omega) (by first | rfl | omega) (by rw [hz2]; omega) (by unfold maxLen; omega) (Nat.le_refl _) ?_; intro w5 hown5 hgrow5)
    have b5 : Below wc.heap.size wc w5 := (Below.refl _ _).grown hgrow5 (Nat.le_refl _) (fun k h => by cases h)
    obtain ⟨tk0, hk0, hks0⟩ : ∃ tk0 : Array Value, Blk w5 wc.heap.size 158 tk0 ∧ tk0.size = n * 64 := by
      rcases hown5.2 with ⟨hv, _⟩ | ⟨g, cap, cur, hv, hbg, hg, q1, q2, q3, q4⟩
      · cases hv
      · injection hv with e1 e2 e3
        injection e1 with e1
        injection e1 with e1
        subst e1 e3
        exact ⟨cur, hg, q3⟩
    have k7' := k7.after b5
    have k8' := k8.after b5
    have l8 : g8 < wc.heap.size := k8.lt
    have HKS := Lib.hid hks0
    have hgww : gw ≤ w3.heap.size := by omega
    have belr : Below gw w w5 := (be3.trans (belc.mono hgww)).trans (b5.mono (Nat.le_trans hgww belc.size))
    generalize wc.heap.size = g9 at *
    clear hown5 hgrow5 hi0 hz0 hz1 hz2 hks0 k7 k8 b5
    go_loopw [10] (fun i wr => ∃ m : Nat, m ≤ n ∧ i = .int .i64 ((n : Int) - 1 - (m : Int)) ∧ Blk wr g7 152 E ∧ Blk wr g8 154 (IA (dl l n m)) ∧ Below gw w wr ∧ ∃ tk : Array Value, Blk wr g9 158 tk ∧ Hid (tk.size = 64 * n ∧ ∀ t', n - m ≤ t' → t' < n → ∀ i u, (UA (rowAt (fq l n) t')).toList[i]? = some u → tk[64 * t' + i]? = some u)) (fun i _ => (intOf i + 1).toNat)
    case atStart => exact ⟨0, by omega, by simp, k7', by rw [HR0.out]; exact k8', belr, tk0, hk0, by rw [HKS.out]; omega, fun t' h1 h2 => by omega⟩
    case round =>
      clear k7' k8' hk0 belr HKS
      obtain ⟨m, hm, rfl, k7, k8, belr, tk, k9, HS⟩ := hrel
      by_cases hlt : m < n
      · obtain ⟨t, ht⟩ : ∃ t, n - 1 - m = t := ⟨_, rfl⟩
        have et : (n : Int) - 1 - (m : Int) = (t : Int) := by omega
        rw [et]
        have htn : t < n := by omega
        have htp : 4 * t + 4 ≤ N := by have := HP.out; omega
        have d0 : decide ((0 : Int) ≤ (t : Int)) = true := by simp
        have CS := Lib.hid (fun W => stepC (some ⟨b, off, none⟩) b off N c t W rfl htp hc hc2 (by omega))
        have HRn : Hid (∀ W, Below wr.heap.size wr W → Rd W W.heap.size (some ⟨b, off + 4 * t, none⟩) 4 (I64 (nums l t))) := by
          intro W hB
          have q1 := k7.lt
          have q2 := hB.size
          exact (rd_nums (hr.below (belr.trans (hB.mono (by omega)))) t htp).up (by omega)
        have CC := Lib.hid (fun (W : World) (hB : Below wr.heap.size wr W) => HCC.out m hlt (some ⟨b, off + 4 * t, none⟩) (c - 4 * t) W (by rw [ht]; exact HRn.out W hB))
        have HNX : Hid (dl l n (m + 1) = chL (nums l (n - 1 - m)) (dl l n m)) := rfl
        rw [← HNX.out, ← HROW.out m hlt, ht] at CC
        have iB : Hid ((Tryd.prog.info? 154).map (·.size) = some (IA (dl l n m)).size) := by unfold Hid; rw [IA_size, dl_length]; exact info64
        have iR : Hid ((Tryd.prog.info? 154).map (·.size) = some (IA (dl l n (m + 1))).size) := by unfold Hid; rw [IA_size, dl_length]; exact info64
        have oR := Lib.hid (IA_one (dl l n (m + 1)))
        have zR : Hid ((IA (dl l n m)).size = (IA (dl l n (m + 1))).size) := by unfold Hid; rw [IA_size, IA_size, dl_length, dl_length]
        have iW : Hid ((Tryd.prog.info? 158).map (·.size) = some (UA (rowAt (fq l n) t)).size) := by unfold Hid; rw [UA_size, rowAt_length]; exact infoW
        have oW := Lib.hid (UA_one (rowAt (fq l n) t))
        have hfit : Hid (64 * t + (UA (rowAt (fq l n) t)).size ≤ tk.size) := by unfold Hid; rw [UA_size, rowAt_length, HS.out.1]; omega
        have HSN := Lib.hid (fun tk3 => rows_more (fq l n) n m t ht.symm hlt tk tk3 HS.out.1 HS.out.2)
        have ix := fun W => run_idxS (P := Tryd.prog) (sz := 64) Tryd.underlying156 (by kernel_rfl) g9 0 n n t htn .i64 W
        simp only [Nat.zero_add] at ix
        generalize hIB : IA (dl l n m) = IB at *
        generalize hRR : IA (dl l n (m + 1)) = R at *
        have HRR := Lib.hid hRR
        generalize UA (rowAt (fq l n) t) = WA at *
        clear hIB hRR ht
        have hne78 : g7 ≠ g8 := by omega
        have hne98 : g9 ≠ g8 := by omega
        have hne79 : g7 ≠ g9 := by omega
        have hne89 : g8 ≠ g9 := by omega
        have n_0 := k7.drew
        have b_0 := k8.drew
        have t_0 := k9.drew
        have bel_0 : Below wr.heap.size wr wr.drew := (Below.refl _ _).drew
        go_wp2_with fail
        refine wp_region_noPanic ?_
        refine wp_region_held_drew (S := fun W => Blk W g7 152 E) (by kernel_rfl) n_0 (fun hHeld => ?_)
        refine wpAnyH_take (i := 0) (oi := ⟨some 38, _, _, _, _, _⟩) (v := ?_) rfl (by kernel_rfl) (by kernel_rfl) (by kernel_rfl) (fun _ _ _ h => h) (Or.inl ⟨by rfl, ?_⟩) (by assumption) ?_
        rotate_left
        · intro W hSW; have hSW0 := hSW; go_simp; first | done | with_reducible rfl
        (try simp only [Act.put, List.setIfInBounds_toArray, List.set_cons_zero, List.set_cons_succ])
        refine wpAnyH_take (i := 1) (oi := ⟨some 39, _, _, _, _, _⟩) (v := ?_) rfl (by kernel_rfl) (by kernel_rfl) (by kernel_rfl) (fun _ _ _ h => h) (Or.inl ⟨by rfl, ?_⟩) (by assumption) ?_
        rotate_left
        · intro W hSW; have hSW0 := hSW; go_simp; first | done | with_reducible rfl
        (try simp only [Act.put, List.setIfInBounds_toArray, List.set_cons_zero, List.set_cons_succ])
        refine wpAnyH_take (i := 2) (oi := ⟨some 40, _, _, _, _, _⟩) (v := _) rfl (by kernel_rfl) (by kernel_rfl) (by kernel_rfl) (fun _ _ _ h => h) (yields_row (by rfl) 152 _ (by rfl) g7 (by rfl) 152 E _ (fun W h => h) Tryd.underlying152 rfl iE.out) (by assumption) ?_
        (try simp only [Act.put, List.setIfInBounds_toArray, List.set_cons_zero, List.set_cons_succ])
        refine wpAnyH_take (i := 3) (oi := ⟨some 41, _, _, _, _, _⟩) (v := ?_) rfl (by kernel_rfl) (by kernel_rfl) (by kernel_rfl) (fun _ _ _ h => h) (Or.inl ⟨by rfl, ?_⟩) (by assumption) ?_
        rotate_left
        · intro W hSW; have hSW0 := hSW; go_simp; first | done | with_reducible rfl
        (try simp only [Act.put, List.setIfInBounds_toArray, List.set_cons_zero, List.set_cons_succ])
        refine wpAnyH_take (i := 4) (oi := ⟨some 42, _, _, _, _, _⟩) (v := ?_) rfl (by kernel_rfl) (by kernel_rfl) (by kernel_rfl) (fun _ _ _ h => h) (Or.inl ⟨by rfl, ?_⟩) (by assumption) ?_
        rotate_left
        · intro W hSW; have hSW0 := hSW; go_simp; first | done | with_reducible rfl
        (try simp only [Act.put, List.setIfInBounds_toArray, List.set_cons_zero, List.set_cons_succ])
        refine wpAnyH_ready (rs := [5, 6]) (by kernel_rfl) (by simp) ?_
        refine AllReadyH.cons (o := ⟨some 43, _, _, _, _, _⟩) rfl (fun K hK => ?_) (AllReadyH.cons (o := ⟨some 44, _, _, _, _, _⟩) rfl (fun K hK => ?_) (AllReadyH.nil))
        · go_simp
          refine (CS.out _).mono ?_
          rintro e wb ⟨rfl, rfl⟩
          clear hHeld
          refine hK.out _ _ ?_ (fun hHeld => ?_)
          · exact n_0
          clear hK K
          (try simp only [Act.put, List.setIfInBounds_toArray, List.set_cons_zero, List.set_cons_succ])
          refine wpAnyH_ready (rs := [6]) (by kernel_rfl) (by simp) ?_
          refine AllReadyH.cons (o := ⟨some 44, _, _, _, _, _⟩) rfl (fun K hK => ?_) (AllReadyH.nil)
          refine step_load (by rfl) 154 _ (by rfl) g8 (by rfl) 154 IB _ b_0 Tryd.underlying154 rfl iB.out ?_
          clear hHeld
          refine hK.out _ _ ?_ (fun hHeld => ?_)
          · exact n_0
          clear hK K
          (try simp only [Act.put, List.setIfInBounds_toArray, List.set_cons_zero, List.set_cons_succ])
          refine wpAnyH_ready (rs := [7]) (by kernel_rfl) (by simp) ?_
          refine AllReadyH.cons (o := ⟨some 45, _, _, _, _, _⟩) rfl (fun K hK => ?_) (AllReadyH.nil)
          go_simp
          refine (CC.out _ bel_0).mono ?_
          rintro e W1 ⟨rfl, hb_1⟩
          have n_1 := n_0.after hb_1
          have b_1 := b_0.after hb_1
          have t_1 := t_0.after hb_1
          clear hHeld
          refine hK.out _ _ ?_ (fun hHeld => ?_)
          · exact n_1
          clear hK K
          (try simp only [Act.put, List.setIfInBounds_toArray, List.set_cons_zero, List.set_cons_succ])
          refine wpAnyH_take (i := 8) (oi := ⟨some 37, _, _, _, _, _⟩) (v := ?_) rfl (by kernel_rfl) (by kernel_rfl) (by kernel_rfl) (fun _ _ _ h => h) (Or.inl ⟨by rfl, ?_⟩) (by assumption) ?_
          rotate_left
          · intro W hSW; have hSW0 := hSW; go_simp; first | done | with_reducible rfl
          (try simp only [Act.put, List.setIfInBounds_toArray, List.set_cons_zero, List.set_cons_succ])
          refine wpAnyH_take (i := 9) (oi := ⟨some 46, _, _, _, _, _⟩) (v := ?_) rfl (by kernel_rfl) (by kernel_rfl) (by kernel_rfl) (fun _ _ _ h => h) (Or.inl ⟨by rfl, ?_⟩) (by assumption) ?_
          rotate_left
          · intro W hSW; have hSW0 := hSW; go_simp; first | done | with_reducible rfl
          (try simp only [Act.put, List.setIfInBounds_toArray, List.set_cons_zero, List.set_cons_succ])
          refine wpAnyH_take (i := 10) (oi := ⟨some 47, _, _, _, _, _⟩) (v := ?_) rfl (by kernel_rfl) (by kernel_rfl) (by kernel_rfl) (fun _ _ _ h => h) (Or.inl ⟨by rfl, ?_⟩) (by assumption) ?_
          rotate_left
          · intro W hSW; have hSW0 := hSW; go_simp; first | done | with_reducible rfl
          (try simp only [Act.put, List.setIfInBounds_toArray, List.set_cons_zero, List.set_cons_succ])
          refine wpAnyH_ready (rs := [11]) (by kernel_rfl) (by simp) ?_
          refine AllReadyH.cons (o := ⟨none, _, _, _, _, _⟩) rfl (fun K hK => ?_) (AllReadyH.nil)
          refine step_store (by rfl) 154 _ _ (by rfl) g8 R (by rfl) (by rfl) 154 IB b_1 iR.out zR.out oR.out ?_
          intro W2 hu_2
          have n_2 := hu_2.blk n_1 hne78
          have t_2 := hu_2.blk t_1 hne98
          clear hHeld
          refine hK.out _ _ ?_ (fun hHeld => ?_)
          · exact n_2
          clear hK K
          (try simp only [Act.put, List.setIfInBounds_toArray, List.set_cons_zero, List.set_cons_succ])
          refine wpAnyH_take (i := 12) (oi := ⟨some 48, _, _, _, _, _⟩) (v := ?_) rfl (by kernel_rfl) (by kernel_rfl) (by kernel_rfl) (fun _ _ _ h => h) (Or.inl ⟨by rfl, ?_⟩) (by assumption) ?_
          rotate_left
          · intro W hSW; have hSW0 := hSW; go_simp; first | done | with_reducible rfl
          (try simp only [Act.put, List.setIfInBounds_toArray, List.set_cons_zero, List.set_cons_succ])
          refine wpAnyH_ready (rs := [13]) (by kernel_rfl) (by simp) ?_
          refine AllReadyH.cons (o := ⟨none, _, _, _, _, _⟩) rfl (fun K hK => ?_) (AllReadyH.nil)
          refine step_store_mid (by rfl) 158 _ _ (by rfl) g9 (64 * t) WA (by rfl) (by rfl) 158 tk t_2 iW.out hfit.out oW.out ?_
          intro W3 tk3 hu_3 hsz3 hget3
          have n_3 := hu_3.blk n_2 hne79
          have b_3 := hu_3.blk hu_2.row hne89
          clear hHeld
          refine hK.out _ _ ?_ (fun hHeld => ?_)
          · exact n_3
          clear hK K
          (try simp only [Act.put, List.setIfInBounds_toArray, List.set_cons_zero, List.set_cons_succ])
          refine wpAnyH_done (by kernel_rfl) ?_ _
          refine NoPanic.normal ?_
          go_wp2
          go_roundw
          case rel =>
            refine ⟨m + 1, by omega, ?_, n_3, by rw [HRR.out]; exact b_3, ?_, tk3, hu_3.row, ?_, ?_⟩
            · go_num
            · exact (belr.drew).trans ((hb_1.mono (Nat.le_trans hg1w (Nat.le_of_lt k7.lt))).trans ((hu_2.below (by omega)).trans (hu_3.below (by omega))))
            · rw [hsz3]; exact HS.out.1
            · exact HSN.out tk3 hget3
          case measure => simp [intOf] <;> omega
        · refine step_load (by rfl) 154 _ (by rfl) g8 (by rfl) 154 IB _ b_0 Tryd.underlying154 rfl iB.out ?_
          clear hHeld
          refine hK.out _ _ ?_ (fun hHeld => ?_)
          · exact n_0
          clear hK K
          (try simp only [Act.put, List.setIfInBounds_toArray, List.set_cons_zero, List.set_cons_succ])
          refine wpAnyH_ready (rs := [5]) (by kernel_rfl) (by simp) ?_
          refine AllReadyH.cons (o := ⟨some 43, _, _, _, _, _⟩) rfl (fun K hK => ?_) (AllReadyH.nil)
          go_simp
          refine (CS.out _).mono ?_
          rintro e wb ⟨rfl, rfl⟩
          clear hHeld
          refine hK.out _ _ ?_ (fun hHeld => ?_)
          · exact n_0
          clear hK K
          (try simp only [Act.put, List.setIfInBounds_toArray, List.set_cons_zero, List.set_cons_succ])
          refine wpAnyH_ready (rs := [7]) (by kernel_rfl) (by simp) ?_
          refine AllReadyH.cons (o := ⟨some 45, _, _, _, _, _⟩) rfl (fun K hK => ?_) (AllReadyH.nil)
          go_simp
          refine (CC.out _ bel_0).mono ?_
          rintro e W1 ⟨rfl, hb_1⟩
          have n_1 := n_0.after hb_1
          have b_1 := b_0.after hb_1
          have t_1 := t_0.after hb_1
          clear hHeld
          refine hK.out _ _ ?_ (fun hHeld => ?_)
          · exact n_1
          clear hK K
          (try simp only [Act.put, List.setIfInBounds_toArray, List.set_cons_zero, List.set_cons_succ])
          refine wpAnyH_take (i := 8) (oi := ⟨some 37, _, _, _, _, _⟩) (v := ?_) rfl (by kernel_rfl) (by kernel_rfl) (by kernel_rfl) (fun _ _ _ h => h) (Or.inl ⟨by rfl, ?_⟩) (by assumption) ?_
          rotate_left
          · intro W hSW; have hSW0 := hSW; go_simp; first | done | with_reducible rfl
          (try simp only [Act.put, List.setIfInBounds_toArray, List.set_cons_zero, List.set_cons_succ])
          refine wpAnyH_take (i := 9) (oi := ⟨some 46, _, _, _, _, _⟩) (v := ?_) rfl (by kernel_rfl) (by kernel_rfl) (by kernel_rfl) (fun _ _ _ h => h) (Or.inl ⟨by rfl, ?_⟩) (by assumption) ?_
          rotate_left
          · intro W hSW; have hSW0 := hSW; go_simp; first | done | with_reducible rfl
          (try simp only [Act.put, List.setIfInBounds_toArray, List.set_cons_zero, List.set_cons_succ])
          refine wpAnyH_take (i := 10) (oi := ⟨some 47, _, _, _, _, _⟩) (v := ?_) rfl (by kernel_rfl) (by kernel_rfl) (by kernel_rfl) (fun _ _ _ h => h) (Or.inl ⟨by rfl, ?_⟩) (by assumption) ?_
          rotate_left
          · intro W hSW; have hSW0 := hSW; go_simp; first | done | with_reducible rfl
          (try simp only [Act.put, List.setIfInBounds_toArray, List.set_cons_zero, List.set_cons_succ])
          refine wpAnyH_ready (rs := [11]) (by kernel_rfl) (by simp) ?_
          refine AllReadyH.cons (o := ⟨none, _, _, _, _, _⟩) rfl (fun K hK => ?_) (AllReadyH.nil)
          refine step_store (by rfl) 154 _ _ (by rfl) g8 R (by rfl) (by rfl) 154 IB b_1 iR.out zR.out oR.out ?_
          intro W2 hu_2
          have n_2 := hu_2.blk n_1 hne78
          have t_2 := hu_2.blk t_1 hne98
          clear hHeld
          refine hK.out _ _ ?_ (fun hHeld => ?_)
          · exact n_2
          clear hK K
          (try simp only [Act.put, List.setIfInBounds_toArray, List.set_cons_zero, List.set_cons_succ])
          refine wpAnyH_take (i := 12) (oi := ⟨some 48, _, _, _, _, _⟩) (v := ?_) rfl (by kernel_rfl) (by kernel_rfl) (by kernel_rfl) (fun _ _ _ h => h) (Or.inl ⟨by rfl, ?_⟩) (by assumption) ?_
          rotate_left
          · intro W hSW; have hSW0 := hSW; go_simp; first | done | with_reducible rfl
          (try simp only [Act.put, List.setIfInBounds_toArray, List.set_cons_zero, List.set_cons_succ])
          refine wpAnyH_ready (rs := [13]) (by kernel_rfl) (by simp) ?_
          refine AllReadyH.cons (o := ⟨none, _, _, _, _, _⟩) rfl (fun K hK => ?_) (AllReadyH.nil)
          refine step_store_mid (by rfl) 158 _ _ (by rfl) g9 (64 * t) WA (by rfl) (by rfl) 158 tk t_2 iW.out hfit.out oW.out ?_
          intro W3 tk3 hu_3 hsz3 hget3
          have n_3 := hu_3.blk n_2 hne79
          have b_3 := hu_3.blk hu_2.row hne89
          clear hHeld
          refine hK.out _ _ ?_ (fun hHeld => ?_)
          · exact n_3
          clear hK K
          (try simp only [Act.put, List.setIfInBounds_toArray, List.set_cons_zero, List.set_cons_succ])
          refine wpAnyH_done (by kernel_rfl) ?_ _
          refine NoPanic.normal ?_
          go_wp2
          go_roundw
          case rel =>
            refine ⟨m + 1, by omega, ?_, n_3, by rw [HRR.out]; exact b_3, ?_, tk3, hu_3.row, ?_, ?_⟩
            · go_num
            · exact (belr.drew).trans ((hb_1.mono (Nat.le_trans hg1w (Nat.le_of_lt k7.lt))).trans ((hu_2.below (by omega)).trans (hu_3.below (by omega))))
            · rw [hsz3]; exact HS.out.1
            · exact HSN.out tk3 hget3
          case measure => simp [intOf] <;> omega
      · obtain rfl : m = n := by omega
        have et : (m : Int) - 1 - (m : Int) = -1 := by omega
        rw [et]
        have d0 : decide ((0 : Int) ≤ -1) = false := by decide
        have c8 := (k8.cell 0).trans (IA_get _ 0 (by rw [dl_length]; omega))
        rw [HMB.out] at c8
        have CW := Lib.hid (fun (W : World) (hB : Below wr.heap.size wr W) => HWK.out g9 tk W (k9.after hB) (fun t' h1 => HS.out.2 t' (by omega) h1))
        generalize Cv.mb l m 0 0 = v at *
        generalize Cv.rb l m 0 0 = rs at *
        have n_0 := k7.drew
        have c8_0 : wr.drew.cell? ⟨g8, 0, none⟩ = some (.int .i64 v) := c8
        have bel_0 : Below wr.heap.size wr wr.drew := (Below.refl _ _).drew
        have l8 : g8 < wr.heap.size := k8.lt
        have ix := fun W => run_idx (P := Tryd.prog) (sz := 1) Tryd.underlying154 (by kernel_rfl) g8 0 0 (by omega) .i64 W
        simp only [Nat.zero_add, Nat.mul_zero] at ix
        clear k8 k9 HS HWK HCC c8
        go_wp2_with fail
        refine wp_region_noPanic ?_
        refine wp_region_held_drew (S := fun W => Blk W g7 152 E ∧ W.cell? ⟨g8, 0, none⟩ = some (.int .i64 v)) (by kernel_rfl) ⟨n_0, c8_0⟩ (fun hHeld => ?_)
        refine wpAnyH_take (i := 0) (oi := ⟨some 49, _, _, _, _, _⟩) (v := _) rfl (by kernel_rfl) (by kernel_rfl) (by kernel_rfl) (fun _ _ _ h => h) (yields_row (by rfl) 152 _ (by rfl) g7 (by rfl) 152 E _ (fun W h => h.1) Tryd.underlying152 rfl iE.out) (by assumption) ?_
        (try simp only [Act.put, List.setIfInBounds_toArray, List.set_cons_zero, List.set_cons_succ])
        refine wpAnyH_take (i := 1) (oi := ⟨some 50, _, _, _, _, _⟩) (v := ?_) rfl (by kernel_rfl) (by kernel_rfl) (by kernel_rfl) (fun _ _ _ h => h) (Or.inl ⟨by rfl, ?_⟩) (by assumption) ?_
        rotate_left
        · intro W hSW; obtain ⟨hSW0, hSW1⟩ := hSW; go_simp; first | done | with_reducible rfl
        (try simp only [Act.put, List.setIfInBounds_toArray, List.set_cons_zero, List.set_cons_succ])
        refine wpAnyH_take (i := 3) (oi := ⟨some 52, _, _, _, _, _⟩) (v := ?_) rfl (by kernel_rfl) (by kernel_rfl) (by kernel_rfl) (fun _ _ _ h => h) (Or.inl ⟨by rfl, ?_⟩) (by assumption) ?_
        rotate_left
        · intro W hSW; obtain ⟨hSW0, hSW1⟩ := hSW; go_simp; first | done | with_reducible rfl
        (try simp only [Act.put, List.setIfInBounds_toArray, List.set_cons_zero, List.set_cons_succ])
        refine wpAnyH_take (i := 4) (oi := ⟨some 53, _, _, _, _, _⟩) (v := ?_) rfl (by kernel_rfl) (by kernel_rfl) (by kernel_rfl) (fun _ _ _ h => h) (Or.inl ⟨by rfl, ?_⟩) (by assumption) ?_
        rotate_left
        · intro W hSW; obtain ⟨hSW0, hSW1⟩ := hSW; go_simp; first | done | with_reducible rfl
        (try simp only [Act.put, List.setIfInBounds_toArray, List.set_cons_zero, List.set_cons_succ])
        refine wpAnyH_ready (rs := [2]) (by kernel_rfl) (by simp) ?_
        refine AllReadyH.cons (o := ⟨some 51, _, _, _, _, _⟩) rfl (fun K hK => ?_) (AllReadyH.nil)
        go_simp
        refine (CW.out _ bel_0).mono ?_
        rintro e W1 ⟨A9, n9, c9, rfl, own9, hb_1⟩
        clear hHeld
        refine hK.out _ _ ?_ (fun hHeld => ?_)
        · exact ⟨n_0.after hb_1, (hb_1.cell (p := ⟨g8, 0, none⟩) l8).trans c8_0⟩
        clear hK K
        (try simp only [Act.put, List.setIfInBounds_toArray, List.set_cons_zero, List.set_cons_succ])
        refine wpAnyH_take (i := 5) (oi := ⟨some 2, _, _, _, _, _⟩) (v := ?_) rfl (by kernel_rfl) (by kernel_rfl) (by kernel_rfl) (fun _ _ _ h => h) (Or.inl ⟨by rfl, ?_⟩) (by assumption) ?_
        rotate_left
        · intro W hSW; obtain ⟨hSW0, hSW1⟩ := hSW; go_simp; first | done | with_reducible rfl
        (try simp only [Act.put, List.setIfInBounds_toArray, List.set_cons_zero, List.set_cons_succ])
        refine wpAnyH_take (i := 6) (oi := ⟨some 3, _, _, _, _, _⟩) (v := ?_) rfl (by kernel_rfl) (by kernel_rfl) (by kernel_rfl) (fun _ _ _ h => h) (Or.inl ⟨by rfl, ?_⟩) (by assumption) ?_
        rotate_left
        · intro W hSW; obtain ⟨hSW0, hSW1⟩ := hSW; go_simp; first | done | with_reducible rfl
        (try simp only [Act.put, List.setIfInBounds_toArray, List.set_cons_zero, List.set_cons_succ])
        refine wpAnyH_take (i := 7) (oi := ⟨some 4, _, _, _, _, _⟩) (v := ?_) rfl (by kernel_rfl) (by kernel_rfl) (by kernel_rfl) (fun _ _ _ h => h) (Or.inl ⟨by rfl, ?_⟩) (by assumption) ?_
        rotate_left
        · intro W hSW; obtain ⟨hSW0, hSW1⟩ := hSW; go_simp; first | done | with_reducible rfl
        (try simp only [Act.put, List.setIfInBounds_toArray, List.set_cons_zero, List.set_cons_succ])
        refine wpAnyH_done (by kernel_rfl) ?_ _
        refine NoPanic.normal ?_
        go_wp2
        go_ret3
        exact ⟨A9, n9, c9, rfl, (own9.down (by have q1 := k7.lt; have q2 := HG.out; show w.heap.size ≤ wr.heap.size; omega)), (by rw [HG.out]; exact (belr.drew).trans (hb_1.mono (Nat.le_trans hg1w (Nat.le_of_lt k7.lt))))⟩
end Go.Proofs.YtknfpdlomgllhaaDoor
