/-
  The walk of AckmapHas.
-/
import Derived.Test.YtboloaglakehkaaZe
import Derived.Test.YtboloaglakehkaaMg
namespace Go.Proofs.Ytboloaglakehkaa
open Go.RowKit
set_option linter.unusedVariables false
set_option linter.unusedSimpArgs false

theorem ms_prefix (base : Int) (more : Nat) (fr : Int) (i j : Nat) (h : i ≤ j) : ∃ r, ms base more fr j = ms base more fr i ++ r := by
  induction j with
  | zero => exact ⟨[], by rw [show i = 0 by omega]; simp⟩
  | succ j ih =>
    by_cases e : i = j + 1
    · exact ⟨[], by rw [e]; simp⟩
    · obtain ⟨r, hr⟩ := ih (by omega)
      have ha : ((((fr + (j : Int)) % 65536).toNat : Nat) : Int) = (fr + (j : Int)) % 65536 := by omega
      cases hc : hm base more (((fr + (j : Int)) % 65536).toNat : Nat) with
      | true => exact ⟨r, by rw [ms_yes base more fr j _ ha hc, hr]⟩
      | false => exact ⟨r ++ [((fr + (j : Int)) % 65536).toNat], by rw [ms_no base more fr j _ ha hc, hr, List.append_assoc]⟩
/-- What is asked, as cells. -/
def qv (a n : Int) : Array Value := #[.int .u16 a, .int .i64 n]
theorem Below.range {w w' : World} {g : Nat} {t : TypeId} {cs : Array Value} (h : Blk w g t cs) (hb : Below w.heap.size w w') : w'.rangeAt g 0 cs.toList :=
  (h.after hb).range 0 _ (fun i u hu => by rw [Nat.zero_add]; rw [Array.getElem?_toList] at hu; exact hu)
set_option maxHeartbeats 800000 in
theorem ackmapHas (base : Int) (more : Nat) (A N : Int) (w : World) (hb : 0 ≤ base ∧ base < 65536) (h4 : more < 4294967296) (hA : 0 ≤ A ∧ A < 65536) (hN : -9223372036854775808 ≤ N ∧ N ≤ 9223372036854775807) :
    Calls Try.prog 7 #[.int .u16 base, .int .u32 (more : Int), .agg (qv A N)] w fun e w' => e = .returned (.bool true) ∧ Below w.heap.size w w' := by
  have CM := Lib.hid mapsC
  have CH := Lib.hid (fun W => hasC base A more W h4)
  have CR := Lib.hid (fun W => refHas base A more W hA hb h4)
  have CS := Lib.hid (fun W => missingC base A N more W h4 hN)
  generalize hm base more A = β at CH CR
  go_enter Try.func7, Try.ntmps7
  go_upto_region 1 with (refine at_box rfl 46 _ rfl (qv A N) rfl ?_; intro w1 L1)
  go_upto_region 2 with (first | (refine at_alloc rfl 39 rfl (mv 0 0) zeroMap ?_; intro w2 L2) | (refine at_store rfl 39 _ _ rfl w1.heap.size (mv base more) rfl rfl 39 _ L2.row (infoMap _ _) rfl (mv_all _ _) ?_; intro w3 L3))
  have bel3 : Below w.heap.size w w3 := (L1.bel.trans (L2.bel.mono (by rw [L1.size]; omega))).trans (L3.below (by rw [L1.size]; omega))
  have q5 : Blk w3 w.heap.size 46 (qv A N) := L3.blk (L1.row.after L2.bel) (by have := L1.size; omega)
  have q7 : Blk w3 w1.heap.size 39 (mv base more) := L3.row
  obtain ⟨g5, hg5⟩ : ∃ g, g = w.heap.size := ⟨_, rfl⟩
  obtain ⟨g7, hg7⟩ : ∃ g, g = w1.heap.size := ⟨_, rfl⟩
  rw [← hg5] at q5 ⊢
  rw [← hg7] at q7 ⊢
  clear L1 L2 L3 hg7
  have HG5 := Lib.hid hg5
  clear hg5
  have hKeep : ∀ W, Below w3.heap.size w3 W → W.rangeAt g7 0 (mv base more).toList ∧ W.cell? ⟨g5, 0, none⟩ = some (.int .u16 A) := fun W hW =>
    ⟨Below.range q7 hW, ((q5.after hW).cell 0).trans rfl⟩
  have hKeep1 : ∀ W, Below w3.drew.heap.size w3.drew W → W.rangeAt g7 0 (mv base more).toList ∧ W.cell? ⟨g5, 0, none⟩ = some (.int .u16 A) := fun W hW => hKeep W ((Below.refl _ _).drew.trans hW)
  have hKeep2 : ∀ W1 W2, (W1.rangeAt g7 0 (mv base more).toList ∧ W1.cell? ⟨g5, 0, none⟩ = some (.int .u16 A)) → Below w3.drew.heap.size w3.drew W1 → Below W1.heap.size W1 W2 → W2.rangeAt g7 0 (mv base more).toList ∧ W2.cell? ⟨g5, 0, none⟩ = some (.int .u16 A) := fun W1 W2 _ h1 h2 => hKeep W2 (Below.then_ ((Below.refl _ _).drew.trans h1) h2)
  have e0 : (β != β) = false := by cases β <;> rfl
  have wb : IntKind.i64.wrap base = base := IntWalk.i64_in _ (by omega)
  have wA : IntKind.i64.wrap A = A := IntWalk.i64_in _ (by omega)
  (try simp only [Act.put, List.setIfInBounds_toArray, List.set_cons_zero, List.set_cons_succ])
  refine wp_region_noPanic ?_
  refine wp_region_held_drew (S := fun W => W.rangeAt g7 0 (mv base more).toList ∧ W.cell? ⟨g5, 0, none⟩ = some (.int .u16 A)) (by kernel_rfl) (hKeep1 _ (Below.refl _ _)) (fun hHeld => ?_)
  refine wpAnyH_ready (rs := [0]) (by kernel_rfl) (by simp) ?_
  refine AllReadyH.cons (o := ⟨some 15, _, _, _, _, _⟩) rfl (fun K hK => ?_) (AllReadyH.nil)
  go_simp
  refine (CM.out _).mono ?_
  rintro e W1 ⟨rfl, be1⟩
  clear hHeld
  have SR1 := hKeep1 W1 be1
  refine hK.out _ _ ?_ (fun hHeld => ?_)
  · exact SR1
  clear hK K
  (try simp only [Act.put, List.setIfInBounds_toArray, List.set_cons_zero, List.set_cons_succ])
  refine wpAnyH_take (i := 1) (oi := ⟨some 16, _, _, _, _, _⟩) (v := ?_) rfl (by kernel_rfl) (by kernel_rfl) (by kernel_rfl) (fun _ _ _ h => h) (Or.inl ⟨by rfl, ?_⟩) hHeld ?_
  rotate_left
  · intro W hSW; obtain ⟨hSW0, hSW1⟩ := hSW; go_simp; first | done | with_reducible rfl
  (try simp only [Act.put, List.setIfInBounds_toArray, List.set_cons_zero, List.set_cons_succ])
  refine wpAnyH_take (i := 2) (oi := ⟨some 17, _, _, _, _, _⟩) (v := ?_) rfl (by kernel_rfl) (by kernel_rfl) (by kernel_rfl) (fun _ _ _ h => h) (Or.inl ⟨by rfl, ?_⟩) hHeld ?_
  rotate_left
  · intro W hSW; obtain ⟨hSW0, hSW1⟩ := hSW; go_simp; first | done | with_reducible rfl
  (try simp only [Act.put, List.setIfInBounds_toArray, List.set_cons_zero, List.set_cons_succ])
  refine wpAnyH_take (i := 3) (oi := ⟨some 18, _, _, _, _, _⟩) (v := _) rfl (by kernel_rfl) (by kernel_rfl) (by kernel_rfl) (fun _ _ _ h => h) (yields_mid (by rfl) 39 _ (by rfl) g7 0 (by rfl) (mv base more) _ (fun W h => h.1) Try.underlying39 rfl (infoMap _ _)) hHeld ?_
  (try simp only [Act.put, List.setIfInBounds_toArray, List.set_cons_zero, List.set_cons_succ])
  refine wpAnyH_take (i := 4) (oi := ⟨some 19, _, _, _, _, _⟩) (v := ?_) rfl (by kernel_rfl) (by kernel_rfl) (by kernel_rfl) (fun _ _ _ h => h) (Or.inl ⟨by rfl, ?_⟩) hHeld ?_
  rotate_left
  · intro W hSW; obtain ⟨hSW0, hSW1⟩ := hSW; go_simp; first | done | with_reducible rfl
  (try simp only [Act.put, List.setIfInBounds_toArray, List.set_cons_zero, List.set_cons_succ])
  refine wpAnyH_take (i := 5) (oi := ⟨some 20, _, _, _, _, _⟩) (v := ?_) rfl (by kernel_rfl) (by kernel_rfl) (by kernel_rfl) (fun _ _ _ h => h) (Or.inl ⟨by rfl, ?_⟩) hHeld ?_
  rotate_left
  · intro W hSW; obtain ⟨hSW0, hSW1⟩ := hSW; go_simp; first | done | with_reducible rfl
  (try simp only [Act.put, List.setIfInBounds_toArray, List.set_cons_zero, List.set_cons_succ])
  refine wpAnyH_take (i := 7) (oi := ⟨some 22, _, _, _, _, _⟩) (v := ?_) rfl (by kernel_rfl) (by kernel_rfl) (by kernel_rfl) (fun _ _ _ h => h) (Or.inl ⟨by rfl, ?_⟩) hHeld ?_
  rotate_left
  · intro W hSW; obtain ⟨hSW0, hSW1⟩ := hSW; go_simp; first | done | with_reducible rfl
  (try simp only [Act.put, List.setIfInBounds_toArray, List.set_cons_zero, List.set_cons_succ])
  refine wpAnyH_take (i := 8) (oi := ⟨some 23, _, _, _, _, _⟩) (v := ?_) rfl (by kernel_rfl) (by kernel_rfl) (by kernel_rfl) (fun _ _ _ h => h) (Or.inl ⟨by rfl, ?_⟩) hHeld ?_
  rotate_left
  · intro W hSW; obtain ⟨hSW0, hSW1⟩ := hSW; go_simp; first | done | with_reducible rfl
  (try simp only [Act.put, List.setIfInBounds_toArray, List.set_cons_zero, List.set_cons_succ])
  refine wpAnyH_take (i := 9) (oi := ⟨some 24, _, _, _, _, _⟩) (v := ?_) rfl (by kernel_rfl) (by kernel_rfl) (by kernel_rfl) (fun _ _ _ h => h) (Or.inl ⟨by rfl, ?_⟩) hHeld ?_
  rotate_left
  · intro W hSW; obtain ⟨hSW0, hSW1⟩ := hSW; go_simp; first | done | with_reducible rfl
  (try simp only [Act.put, List.setIfInBounds_toArray, List.set_cons_zero, List.set_cons_succ])
  refine wpAnyH_take (i := 10) (oi := ⟨some 25, _, _, _, _, _⟩) (v := ?_) rfl (by kernel_rfl) (by kernel_rfl) (by kernel_rfl) (fun _ _ _ h => h) (Or.inl ⟨by rfl, ?_⟩) hHeld ?_
  rotate_left
  · intro W hSW; obtain ⟨hSW0, hSW1⟩ := hSW; go_simp; first | done | with_reducible rfl
  (try simp only [Act.put, List.setIfInBounds_toArray, List.set_cons_zero, List.set_cons_succ])
  refine wpAnyH_take (i := 11) (oi := ⟨some 26, _, _, _, _, _⟩) (v := ?_) rfl (by kernel_rfl) (by kernel_rfl) (by kernel_rfl) (fun _ _ _ h => h) (Or.inl ⟨by rfl, ?_⟩) hHeld ?_
  rotate_left
  · intro W hSW; obtain ⟨hSW0, hSW1⟩ := hSW; go_simp; first | done | with_reducible rfl
  (try simp only [Act.put, List.setIfInBounds_toArray, List.set_cons_zero, List.set_cons_succ])
  refine wpAnyH_take (i := 12) (oi := ⟨some 27, _, _, _, _, _⟩) (v := ?_) rfl (by kernel_rfl) (by kernel_rfl) (by kernel_rfl) (fun _ _ _ h => h) (Or.inl ⟨by rfl, ?_⟩) hHeld ?_
  rotate_left
  · intro W hSW; obtain ⟨hSW0, hSW1⟩ := hSW; go_simp; first | done | with_reducible rfl
  (try simp only [Act.put, List.setIfInBounds_toArray, List.set_cons_zero, List.set_cons_succ])
  refine wpAnyH_ready (rs := [6]) (by kernel_rfl) (by simp) ?_
  refine AllReadyH.cons (o := ⟨some 21, _, _, _, _, _⟩) rfl (fun K hK => ?_) (AllReadyH.nil)
  go_simp
  refine (CH.out _).mono ?_
  rintro e W2 ⟨rfl, be2⟩
  clear hHeld
  have SR2 := hKeep2 W1 W2 SR1 be1 be2
  refine hK.out _ _ ?_ (fun hHeld => ?_)
  · exact SR2
  clear hK K
  (try simp only [Act.put, List.setIfInBounds_toArray, List.set_cons_zero, List.set_cons_succ])
  refine wpAnyH_ready (rs := [13]) (by kernel_rfl) (by simp) ?_
  refine AllReadyH.cons (o := ⟨some 28, _, _, _, _, _⟩) rfl (fun K hK => ?_) (AllReadyH.nil)
  go_simp
  refine (CR.out _).mono ?_
  rintro e W3 ⟨rfl, rfl⟩
  clear hHeld
  refine hK.out _ _ ?_ (fun hHeld => ?_)
  · exact SR2
  clear hK K
  (try simp only [Act.put, List.setIfInBounds_toArray, List.set_cons_zero, List.set_cons_succ])
  refine wpAnyH_take (i := 14) (oi := ⟨some 29, _, _, _, _, _⟩) (v := ?_) rfl (by kernel_rfl) (by kernel_rfl) (by kernel_rfl) (fun _ _ _ h => h) (Or.inl ⟨by rfl, ?_⟩) hHeld ?_
  rotate_left
  · intro W hSW; obtain ⟨hSW0, hSW1⟩ := hSW; go_simp; first | done | with_reducible rfl
  (try simp only [Act.put, List.setIfInBounds_toArray, List.set_cons_zero, List.set_cons_succ])
  refine wpAnyH_take (i := 15) (oi := ⟨some 30, _, _, _, _, _⟩) (v := ?_) rfl (by kernel_rfl) (by kernel_rfl) (by kernel_rfl) (fun _ _ _ h => h) (Or.inl ⟨by rfl, ?_⟩) hHeld ?_
  rotate_left
  · intro W hSW; obtain ⟨hSW0, hSW1⟩ := hSW; go_simp; first | done | with_reducible rfl
  (try simp only [Act.put, List.setIfInBounds_toArray, List.set_cons_zero, List.set_cons_succ])
  refine wpAnyH_done (by kernel_rfl) ?_ _
  refine NoPanic.normal ?_
  clear hHeld
  have bel6 : Below w3.heap.size w3 W2 := Below.then_ ((Below.refl _ _).drew.trans be1) be2
  have q5r := q5.after bel6
  have q7r := q7.after bel6
  have bel7 := Below.then_ bel3 bel6
  clear q5 q7 hKeep hKeep1 hKeep2 SR1 SR2 be1 be2 bel3 bel6 CM CH CR e0 wb wA
  have hc0 : W2.cell? ⟨g5, 0, none⟩ = some (.int .u16 A) := (q5r.cell 0).trans rfl
  have hc1 : W2.cell? ⟨g5, 1, none⟩ = some (.int .i64 N) := (q5r.cell 1).trans rfl
  go_upto_region 7 with (first | (refine at_load rfl 39 _ rfl g7 rfl 39 (mv base more) _ q7r Try.underlying39 rfl (infoMap _ _) ?_) | (go_at_call 20; refine (CS.out _).mono ?_; rintro e w8 ⟨A8, n8, c8, rfl, own8, be8⟩))
  obtain ⟨K, hK⟩ : ∃ K, K = mk64 N := ⟨_, rfl⟩
  rw [← hK] at own8
  obtain ⟨M, hM⟩ : ∃ M : Int, M = min N 64 := ⟨_, rfl⟩
  have hM1 : min N 64 = M := hM.symm
  have hM2 : (if (64 : Int) < N then 64 else N) = M := by rw [hM]; split <;> omega
  have HKM : Hid (∀ k : Nat, (k : Int) < M ↔ k < K) := fun k => by rw [hK, hM]; unfold mk64; omega
  have hM64 : M ≤ 64 := by omega
  have hK64 : K ≤ 64 := by rw [hK]; unfold mk64; omega
  have rd8 := own8.rd
  have HL := Lib.hid rd8.len16
  have bel8 := Below.then_ bel7 be8
  have hc2 : w8.cell? ⟨g5, 0, none⟩ = some (.int .u16 A) := ((q5r.after be8).cell 0).trans rfl
  have hc3 : w8.cell? ⟨g5, 1, none⟩ = some (.int .i64 N) := ((q5r.after be8).cell 1).trans rfl
  clear hK hM q5r q7r CS own8 hc0 hc1 be8 bel7
  go_loop [9, 10] (fun j i => ∃ k q : Nat, k ≤ K ∧ i = .int .i64 (k : Int) ∧ j = .int .i64 (q : Int) ∧ q ≤ k ∧ Hid (q = (ms base more A k).length)) (fun _ i => K - (intOf i).toNat)
  case atStart => exact ⟨0, 0, Nat.zero_le _, rfl, rfl, Nat.le_refl _, rfl⟩
  case round =>
    obtain ⟨k, q, hk, rfl, rfl, hqk, HQ⟩ := hrel
    by_cases hlt : k < K
    · have hkM : (k : Int) < M := (HKM.out k).2 hlt
      obtain ⟨x, hx⟩ : ∃ x : Nat, (x : Int) = (A + (k : Int)) % 65536 := ⟨((A + (k : Int)) % 65536).toNat, by omega⟩
      have hx2 : x < 65536 := by omega
      have C1 := Lib.hid (refPlus A k w8 hA (by omega))
      have C2 := Lib.hid (refHas base x more w8 (by omega) hb h4)
      rw [← hx] at C1
      have HX := Lib.hid hx
      clear hx
      obtain ⟨β2, hβ⟩ : ∃ β, β = hm base more x := ⟨_, rfl⟩
      rw [← hβ] at C2
      have HB := Lib.hid hβ
      clear hβ
      cases β2 with
      | true =>
        go_wp2_with (first | (go_at_call 11; refine C1.out.mono ?_; rintro e w' ⟨rfl, rfl⟩) | (go_at_call 19; refine C2.out.mono ?_; rintro e w' ⟨rfl, rfl⟩))
        go_round
        case rel => exact ⟨k + 1, q, by omega, by go_num, rfl, by omega, by rw [ms_yes base more A k x HX.out HB.out.symm]; exact HQ⟩
        case measure => simp [intOf] <;> omega
      | false =>
        have e1 := ms_no base more A k x HX.out HB.out.symm
        obtain ⟨r, hr⟩ := ms_prefix base more A (k + 1) K (by omega)
        have hq : q < n8 := by rw [HL.out, hr, e1, HQ.out]; simp
        obtain ⟨b, off, rfl, hlt2, hcell⟩ := rd8.cell16 q hq
        have hxv : (ms base more A K).getD q 0 = x := by
          rw [hr, e1, HQ.out]; simp [List.getD]
        rw [hxv] at hcell
        have HE := Lib.hid e1
        have hqi : (q : Int) < (n8 : Int) := by omega
        clear e1 hr hxv
        go_wp2_with (first | (go_at_call 11; refine C1.out.mono ?_; rintro e w' ⟨rfl, rfl⟩) | (go_at_call 19; refine C2.out.mono ?_; rintro e w' ⟨rfl, rfl⟩))
        go_round
        case rel => exact ⟨k + 1, q + 1, by omega, by go_num, by go_num, by omega, by rw [HE.out, List.length_append, HQ.out]; rfl⟩
        case measure => simp [intOf] <;> omega
    · have hkM : ¬ (k : Int) < M := fun h => hlt ((HKM.out k).1 h)
      have HKK := Lib.hid (show k = K by omega)
      have hqn : q = n8 := by rw [HQ.out, HL.out, HKK.out]
      subst hqn
      go_wp2
      go_ret
      exact ⟨rfl, bel8⟩
end Go.Proofs.Ytboloaglakehkaa
