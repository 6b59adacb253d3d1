/-
  Layer 19 (what is due at which tick): the reference's wheel: DocDrop.
-/
import Derived.Test.YtkmacepodomdmaaJr
import Derived.Deep.DeepCutAuto
namespace Go.Proofs.Ytkmacepodomdmaa
open Go.RowKit
set_option maxRecDepth 100000
set_option linter.unusedVariables false
set_option linter.unusedSimpArgs false

set_option maxHeartbeats 1000000 in
set_option maxRecDepth 100000 in
/-- (*Wheel).DocDrop. -/
theorem docDrop (w : World) (P : Nat → Prop) (gR now a : Nat) (L : List (Nat × Nat)) (h : RW w P gR now L) (hn : (L.map Prod.fst).Nodup) (hnum : ∀ p ∈ L, p.1 < 65536) (ha : a < 65536) (hL : L.length ≤ 100000) :
    Calls Try.prog 31 #[.pointer (some ⟨gR, 0, none⟩), .int .i64 (a : Int)] w fun e w' =>
      e = .returned (.bool (inL L a)) ∧ Kr w w' P ∧ ∃ P' : Nat → Prop, RW w' P' gR now (dropL L a) ∧ ∀ k, P' k → P k ∨ w.heap.size ≤ k := by
  obtain ⟨A, c, q, own, hA⟩ := h.blk
  obtain ⟨i2, hi2, hz0, hz1, hz2⟩ := info_parts infoDue
  obtain ⟨n, hnL⟩ : ∃ n, n = L.length := ⟨_, rfl⟩
  have HNL := Lib.hid hnL
  have hgl := q.lt
  have HM := Lib.hid h.mine
  have HLT := Lib.hid h.lt
  have HA := Lib.hid hA
  rw [← hnL] at q own hL
  have c1 : w.cell? ⟨gR, 1, none⟩ = some (.slice A n c) := (q.cell 1).trans rfl
  have HND := Lib.hid hn
  have HNUM := Lib.hid hnum
  have HR : Hid (∀ i (hi : i < L.length), L[i].1 ≠ a → (((L[i].1 : Nat) : Int) == (a : Int)) = false) := fun i hi he => by simp; omega
  clear hn hnum hA hnL
  go_enter Try.func31, Try.ntmps31
  go_wp2_with fail
  go_loopw [5] (fun s wr => ∃ k : Nat, k ≤ n ∧ s = .int .i64 (k : Int) ∧ wr = w ∧ Hid (∀ i (hi : i < L.length), i < k → L[i].1 ≠ a)) (fun s _ => n - (intOf s).toNat)
  case atStart => exact ⟨0, Nat.zero_le _, rfl, rfl, fun i _ hi => absurd hi (Nat.not_lt_zero _)⟩
  case round =>
    obtain ⟨k, hk, rfl, rfl, HB⟩ := hrel
    by_cases hlt : k < n
    · have hlt' : k < L.length := by rw [← HNL.out]; exact hlt
      obtain ⟨g, rfl, _, hgw, hcell⟩ := own.cells (by omega)
      have hc := hcell (2 * k) _ (D2_get L k hlt').1
      have hi0 : (0 : Int) ≤ (k : Int) := by omega
      have d1 : decide ((k : Int) < (n : Int)) = true := by simp; omega
      have ix := idxDue g n c k hlt
      by_cases he : L[k].1 = a
      · rw [he] at hc
        obtain ⟨k1, hk1⟩ : ∃ k1, k1 = k + 1 := ⟨_, rfl⟩
        have HY : Hid (inL L a = true) := inL_at hlt' he
        have HD : Hid ([] ++ D2 (L.take k) ++ D2 (L.drop k1) = D2 (dropL L a)) := by unfold Hid; rw [hk1, List.nil_append, ← D2_append, dropL_at HND.out hlt' he]
        have HDL : Hid ((dropL L a).length = k + (n - k1)) := by
          unfold Hid; rw [← dropL_at HND.out hlt' he, hk1, HNL.out, List.length_append, List.length_take, List.length_drop]; omega
        have HL1 : Hid ((D2 (L.take k)).length = k * 2) := by unfold Hid; rw [D2_len, List.length_take]; omega
        have HL2 : Hid ((D2 (L.drop k1)).length = (n - k1) * 2) := by unfold Hid; rw [D2_len, List.length_drop, HNL.out]
        have HK : Hid (∀ W, Below wr.heap.size wr W → W.cell? ⟨gR, 1, none⟩ = some (.slice (some ⟨g, 0, none⟩) n c)) := fun W hW => ((q.after hW).cell 1).trans rfl
        have HQ : Hid (∀ W, Below wr.heap.size wr W → Blk W gR 58 (rwl now (some ⟨g, 0, none⟩) n c)) := fun W hW => q.after hW
        have HC0 : Hid (∀ W, Below wr.heap.size wr W → ∀ j u, (D2 L)[j]? = some u → W.cell? ⟨g, j, none⟩ = some u) := fun W hW j u hu => (hW.cell (p := ⟨g, j, none⟩) hgw).trans (hcell j u hu)
        have HC1 : Hid (∀ W, Below wr.heap.size wr W → ∀ j u, (D2 (L.take k))[j]? = some u → W.cell? ((⟨g, 0, none⟩ : Addr).add j) = some u) := fun W hW j u hu => by
          rw [Addr.add_lit, Nat.zero_add]
          refine HC0.out W hW j u ?_
          rw [← D2_take, List.getElem?_take] at hu
          split at hu
          · exact hu
          · cases hu
        obtain ⟨o2', hif, HC2⟩ : ∃ o2', (if c = k1 then some (⟨g, 0, none⟩ : Addr) else some ⟨g, k1 * 2, none⟩) = some ⟨g, o2', none⟩ ∧ Hid (∀ W, Below wr.heap.size wr W → ∀ j u, (D2 (L.drop k1))[j]? = some u → W.cell? ((⟨g, o2', none⟩ : Addr).add j) = some u) := by
          have hcn := own.row
          by_cases hcq : c = k1
          · refine ⟨0, if_pos hcq, fun W hW j u hu => ?_⟩
            exfalso
            have hj := (List.getElem?_eq_some_iff.1 hu).1
            rw [HL2.out] at hj
            have hnc : n ≤ c := by
              rcases own.row.2 with ⟨hv, h0⟩ | ⟨g', cap, cur, hv, _, _, hnc, _⟩
              · omega
              · injection hv with h1 h2 h3; omega
            omega
          · refine ⟨k1 * 2, if_neg hcq, fun W hW j u hu => ?_⟩
            rw [Addr.add_lit, Nat.mul_comm k1 2]
            refine HC0.out W hW _ u ?_
            rw [← D2_drop, List.getElem?_drop] at hu
            exact hu
        have hnc : n ≤ c := by
          rcases own.row.2 with ⟨hv, h0⟩ | ⟨g', cap, cur, hv, _, _, hnc, _⟩
          · omega
          · injection hv with h1 h2 h3; omega
        have FIN : Hid (∀ (x3 x4 : World) (A3 : Option Addr) (c3 : Nat), Below wr.heap.size wr x3 → OwnR x3 wr.drew.heap.size 110 2 A3 (k + (n - k1)) c3 (D2 (dropL L a)) → Upd x3 x4 gR 58 ((rwl now (some ⟨g, 0, none⟩) n c).setIfInBounds 1 (.slice A3 (k + (n - k1)) c3)) →
            Ending.returned (.bool true) = .returned (.bool (inL L a)) ∧ Kr wr x4 P ∧ ∃ P' : Nat → Prop, RW x4 P' gR now (dropL L a) ∧ ∀ k, P' k → P k ∨ wr.heap.size ≤ k) := by
          intro x3 x4 A3 c3 b3 o3 u4
          have ho3 := o3.blkLt
          refine ⟨by rw [HY.out], ⟨u4.os.trans b3.os, u4.tape.trans b3.tape, u4.output.trans b3.output, by rw [u4.size]; exact b3.size, fun j hj hp => ?_⟩, (fun j => P j ∨ blk A3 = some j), ⟨⟨A3, c3, ?_, ?_, fun j hj => ⟨.inr hj, ?_⟩⟩, .inl HM.out, fun j hj => ?_⟩, fun j hj => ?_⟩
          · rw [u4.oth j (fun e => hp (by rw [e]; exact HM.out))]
            exact b3.block j hj
          · rw [HDL.out]; exact u4.row
          · rw [HDL.out]
            refine (o3.down (Nat.zero_le _)).heap (fun j hj => u4.oth j ?_)
            have := (ho3 j hj).1
            have e : wr.drew.heap.size = wr.heap.size := rfl
            omega
          · have := (ho3 j hj).1
            have e : wr.drew.heap.size = wr.heap.size := rfl
            omega
          · rw [u4.size]
            rcases hj with hj | hj
            · exact Nat.lt_of_lt_of_le (HLT.out j hj) b3.size
            · exact (ho3 j hj).2
          · rcases hj with hj | hj
            · exact .inl hj
            · exact .inr (ho3 j hj).1
        have hkc : k ≤ c := by omega
        have eW : IntKind.i64.wrap ((k : Int) + 1) = (k1 : Int) := by rw [IntWalk.i64_in _ (by omega), hk1]; omega
        have hk1n : (k1 : Int) ≤ (n : Int) := by omega
        have hk1z : (0 : Int) ≤ (k1 : Int) := by omega
        have hk1m : k1 ≤ n := by omega
        clear HNUM HR HDL HY own hcell HC0 h hk1
        go_upto_region 5 with fail
        refine wp_region_noPanic ?_
        refine wp_region_held_drew (S := fun W => True) (by kernel_rfl) trivial (fun hHeld => ?_)
        refine wpAnyH_take (i := 0) (oi := ⟨some 25, _, _, _, _, _⟩) (v := ?_) rfl (by kernel_rfl) (by kernel_rfl) (by kernel_rfl) (fun _ _ _ h => h) (Or.inl ⟨by rfl, ?_⟩) hHeld ?_
        rotate_left
        · intro W hSW; have hSW0 := hSW; go_simp; first | done | with_reducible rfl
        (try simp only [Act.put, List.setIfInBounds_toArray, List.set_cons_zero, List.set_cons_succ])
        refine wpAnyH_take (i := 2) (oi := ⟨some 27, _, _, _, _, _⟩) (v := ?_) rfl (by kernel_rfl) (by kernel_rfl) (by kernel_rfl) (fun _ _ _ h => h) (Or.inl ⟨by rfl, ?_⟩) hHeld ?_
        rotate_left
        · intro W hSW; have hSW0 := hSW; go_simp; first | done | with_reducible rfl
        (try simp only [Act.put, List.setIfInBounds_toArray, List.set_cons_zero, List.set_cons_succ])
        refine wpAnyH_take (i := 3) (oi := ⟨some 28, _, _, _, _, _⟩) (v := ?_) rfl (by kernel_rfl) (by kernel_rfl) (by kernel_rfl) (fun _ _ _ h => h) (Or.inl ⟨by rfl, ?_⟩) hHeld ?_
        rotate_left
        · intro W hSW; have hSW0 := hSW; go_simp; first | done | with_reducible rfl
        (try simp only [Act.put, List.setIfInBounds_toArray, List.set_cons_zero, List.set_cons_succ])
        refine wpAnyH_take (i := 4) (oi := ⟨some 29, _, _, _, _, _⟩) (v := ?_) rfl (by kernel_rfl) (by kernel_rfl) (by kernel_rfl) (fun _ _ _ h => h) (Or.inl ⟨by rfl, ?_⟩) hHeld ?_
        rotate_left
        · intro W hSW; have hSW0 := hSW; go_simp; first | done | with_reducible rfl
        (try simp only [Act.put, List.setIfInBounds_toArray, List.set_cons_zero, List.set_cons_succ])
        refine wpAnyH_take (i := 6) (oi := ⟨some 31, _, _, _, _, _⟩) (v := ?_) rfl (by kernel_rfl) (by kernel_rfl) (by kernel_rfl) (fun _ _ _ h => h) (Or.inl ⟨by rfl, ?_⟩) hHeld ?_
        rotate_left
        · intro W hSW; have hSW0 := hSW; go_simp; first | done | with_reducible rfl
        (try simp only [Act.put, List.setIfInBounds_toArray, List.set_cons_zero, List.set_cons_succ])
        refine wpAnyH_take (i := 9) (oi := ⟨some 34, _, _, _, _, _⟩) (v := ?_) rfl (by kernel_rfl) (by kernel_rfl) (by kernel_rfl) (fun _ _ _ h => h) (Or.inl ⟨by rfl, ?_⟩) hHeld ?_
        rotate_left
        · intro W hSW; have hSW0 := hSW; go_simp; first | done | with_reducible rfl
        (try simp only [Act.put, List.setIfInBounds_toArray, List.set_cons_zero, List.set_cons_succ])
        refine wpAnyH_take (i := 10) (oi := ⟨some 35, _, _, _, _, _⟩) (v := ?_) rfl (by kernel_rfl) (by kernel_rfl) (by kernel_rfl) (fun _ _ _ h => h) (Or.inl ⟨by rfl, ?_⟩) hHeld ?_
        rotate_left
        · intro W hSW; have hSW0 := hSW; go_simp; first | done | with_reducible rfl
        (try simp only [Act.put, List.setIfInBounds_toArray, List.set_cons_zero, List.set_cons_succ])
        refine wpAnyH_take (i := 11) (oi := ⟨some 36, _, _, _, _, _⟩) (v := ?_) rfl (by kernel_rfl) (by kernel_rfl) (by kernel_rfl) (fun _ _ _ h => h) (Or.inl ⟨by rfl, ?_⟩) hHeld ?_
        rotate_left
        · intro W hSW; have hSW0 := hSW; go_simp; first | done | with_reducible rfl
        (try simp only [Act.put, List.setIfInBounds_toArray, List.set_cons_zero, List.set_cons_succ])
        refine wpAnyH_take (i := 13) (oi := ⟨some 38, _, _, _, _, _⟩) (v := ?_) rfl (by kernel_rfl) (by kernel_rfl) (by kernel_rfl) (fun _ _ _ h => h) (Or.inl ⟨by rfl, ?_⟩) hHeld ?_
        rotate_left
        · intro W hSW; have hSW0 := hSW; go_simp; first | done | with_reducible rfl
        (try simp only [Act.put, List.setIfInBounds_toArray, List.set_cons_zero, List.set_cons_succ])
        refine wpAnyH_take (i := 14) (oi := ⟨some 39, _, _, _, _, _⟩) (v := ?_) rfl (by kernel_rfl) (by kernel_rfl) (by kernel_rfl) (fun _ _ _ h => h) (Or.inl ⟨by rfl, ?_⟩) hHeld ?_
        rotate_left
        · intro W hSW; have hSW0 := hSW; go_simp; first | done | with_reducible rfl
        (try simp only [Act.put, List.setIfInBounds_toArray, List.set_cons_zero, List.set_cons_succ])
        refine wpAnyH_ready (rs := [1, 5, 12]) (by kernel_rfl) (by simp) ?_
        refine AllReadyH.cons (o := ⟨some 26, _, _, _, _, _⟩) rfl (fun K hK => ?_) (AllReadyH.cons (o := ⟨some 30, _, _, _, _, _⟩) rfl (fun K hK => ?_) (AllReadyH.cons (o := ⟨some 37, _, _, _, _, _⟩) rfl (fun K hK => ?_) (AllReadyH.nil)))
        · refine step_noneR (by rfl) 56 110 2 (by rfl) i2 Try.underlying56 hi2 ?_
          intro x1 o1 b1 s1
          have bS1 : Below wr.heap.size wr x1 := (Below.refl _ _).drew.trans b1
          clear hHeld
          refine hK.out _ _ ?_ (fun hHeld => ?_)
          · trivial
          clear hK K
          (try simp only [Act.put, List.setIfInBounds_toArray, List.set_cons_zero, List.set_cons_succ])
          refine wpAnyH_ready (rs := [5, 12]) (by kernel_rfl) (by simp) ?_
          refine AllReadyH.cons (o := ⟨some 30, _, _, _, _, _⟩) rfl (fun K hK => ?_) (AllReadyH.cons (o := ⟨some 37, _, _, _, _, _⟩) rfl (fun K hK => ?_) (AllReadyH.nil))
          · have kx := HK.out x1 bS1
            go_simp
            clear hHeld kx
            refine hK.out _ _ ?_ (fun hHeld => ?_)
            · trivial
            clear hK K
            (try simp only [Act.put, List.setIfInBounds_toArray, List.set_cons_zero, List.set_cons_succ])
            refine wpAnyH_take (i := 7) (oi := ⟨some 32, _, _, _, _, _⟩) (v := ?_) rfl (by kernel_rfl) (by kernel_rfl) (by kernel_rfl) (fun _ _ _ h => h) (Or.inl ⟨by rfl, ?_⟩) hHeld ?_
            rotate_left
            · intro W hSW; have hSW0 := hSW; go_simp; first | done | with_reducible rfl
            (try simp only [Act.put, List.setIfInBounds_toArray, List.set_cons_zero, List.set_cons_succ])
            refine wpAnyH_ready (rs := [8, 12]) (by kernel_rfl) (by simp) ?_
            refine AllReadyH.cons (o := ⟨some 33, _, _, _, _, _⟩) rfl (fun K hK => ?_) (AllReadyH.cons (o := ⟨some 37, _, _, _, _, _⟩) rfl (fun K hK => ?_) (AllReadyH.nil))
            · refine step_appR (by rfl) _ _ 56 (by rfl) wr.drew.heap.size 110 i2 _ 2 16 Try.underlying56 hi2 hz0 hz1 hz2 rfl (by decide) _ 0 0 [] (by rfl) o1 ⟨g, 0, none⟩ k _ (D2 (L.take k)) (by rfl) (HL1.out) (HC1.out x1 bS1) (D2_one _) (by omega) (by unfold maxLen; omega) (by have := b1.size; omega) ?_
              intro A2 c2 x2 o2 g2 l2
              rw [Nat.zero_add] at o2 ⊢
              have b2 : Below wr.drew.heap.size wr.drew x2 := b1.grown g2 b1.size (fun j hj => (o1.block j hj).1)
              have bS2 : Below wr.heap.size wr x2 := (Below.refl _ _).drew.trans b2
              have hs2 := g2.size
              clear hHeld
              refine hK.out _ _ ?_ (fun hHeld => ?_)
              · trivial
              clear hK K
              (try simp only [Act.put, List.setIfInBounds_toArray, List.set_cons_zero, List.set_cons_succ])
              refine wpAnyH_ready (rs := [12]) (by kernel_rfl) (by simp) ?_
              refine AllReadyH.cons (o := ⟨some 37, _, _, _, _, _⟩) rfl (fun K hK => ?_) (AllReadyH.nil)
              have kx := HK.out x2 bS2
              go_simp
              clear hHeld kx
              refine hK.out _ _ ?_ (fun hHeld => ?_)
              · trivial
              clear hK K
              (try simp only [Act.put, List.setIfInBounds_toArray, List.set_cons_zero, List.set_cons_succ])
              refine wpAnyH_take (i := 15) (oi := ⟨some 40, _, _, _, _, _⟩) (v := ?_) rfl (by kernel_rfl) (by kernel_rfl) (by kernel_rfl) (fun _ _ _ h => h) (Or.inl ⟨by rfl, ?_⟩) hHeld ?_
              rotate_left
              · intro W hSW; have hSW0 := hSW; go_simp; first | done | with_reducible rfl
              (try simp only [Act.put, List.setIfInBounds_toArray, List.set_cons_zero, List.set_cons_succ])
              refine wpAnyH_ready (rs := [16]) (by kernel_rfl) (by simp) ?_
              refine AllReadyH.cons (o := ⟨some 41, _, _, _, _, _⟩) rfl (fun K hK => ?_) (AllReadyH.nil)
              refine step_appR (by rfl) _ _ 56 (by rfl) wr.drew.heap.size 110 i2 _ 2 16 Try.underlying56 hi2 hz0 hz1 hz2 rfl (by decide) A2 k c2 _ (by rfl) o2 ⟨g, o2', none⟩ (n - k1) _ (D2 (L.drop k1)) (by rfl) (HL2.out) (HC2.out x2 bS2) (D2_one _) (by omega) (by unfold maxLen; omega) (by have := b2.size; omega) ?_
              intro A3 c3 x3 o3 g3 l3
              have b3 : Below wr.drew.heap.size wr.drew x3 := b2.grown g3 b2.size (fun j hj => (o2.block j hj).1)
              have bS3 : Below wr.heap.size wr x3 := (Below.refl _ _).drew.trans b3
              have q3 := HQ.out x3 bS3
              clear hHeld
              refine hK.out _ _ ?_ (fun hHeld => ?_)
              · trivial
              clear hK K
              (try simp only [Act.put, List.setIfInBounds_toArray, List.set_cons_zero, List.set_cons_succ])
              refine wpAnyH_take (i := 17) (oi := ⟨some 42, _, _, _, _, _⟩) (v := ?_) rfl (by kernel_rfl) (by kernel_rfl) (by kernel_rfl) (fun _ _ _ h => h) (Or.inl ⟨by rfl, ?_⟩) hHeld ?_
              rotate_left
              · intro W hSW; have hSW0 := hSW; go_simp; first | done | with_reducible rfl
              (try simp only [Act.put, List.setIfInBounds_toArray, List.set_cons_zero, List.set_cons_succ])
              refine wpAnyH_take (i := 18) (oi := ⟨some 43, _, _, _, _, _⟩) (v := ?_) rfl (by kernel_rfl) (by kernel_rfl) (by kernel_rfl) (fun _ _ _ h => h) (Or.inl ⟨by rfl, ?_⟩) hHeld ?_
              rotate_left
              · intro W hSW; have hSW0 := hSW; go_simp; first | done | with_reducible rfl
              (try simp only [Act.put, List.setIfInBounds_toArray, List.set_cons_zero, List.set_cons_succ])
              refine wpAnyH_ready (rs := [19]) (by kernel_rfl) (by simp) ?_
              refine AllReadyH.cons (o := ⟨none, _, _, _, _, _⟩) rfl (fun K hK => ?_) (AllReadyH.nil)
              refine step_cell (by rfl) 56 _ _ (by rfl) gR 1 (.slice A3 (k + (n - k1)) c3) (by rfl) (by rfl) 58 _ q3 (show 1 < 2 by omega) infoDues rfl ?_
              intro x4 u4
              clear hHeld
              refine hK.out _ _ ?_ (fun hHeld => ?_)
              · trivial
              clear hK K
              (try simp only [Act.put, List.setIfInBounds_toArray, List.set_cons_zero, List.set_cons_succ])
              refine wpAnyH_done (by kernel_rfl) ?_ _
              refine NoPanic.normal ?_
              clear hHeld
              go_wp2
              go_ret
              exact FIN.out x3 x4 A3 c3 bS3 (o3.to (by omega) HD.out) u4
            · have kx := HK.out x1 bS1
              go_simp
              clear hHeld kx
              refine hK.out _ _ ?_ (fun hHeld => ?_)
              · trivial
              clear hK K
              (try simp only [Act.put, List.setIfInBounds_toArray, List.set_cons_zero, List.set_cons_succ])
              refine wpAnyH_take (i := 15) (oi := ⟨some 40, _, _, _, _, _⟩) (v := ?_) rfl (by kernel_rfl) (by kernel_rfl) (by kernel_rfl) (fun _ _ _ h => h) (Or.inl ⟨by rfl, ?_⟩) hHeld ?_
              rotate_left
              · intro W hSW; have hSW0 := hSW; go_simp; first | done | with_reducible rfl
              (try simp only [Act.put, List.setIfInBounds_toArray, List.set_cons_zero, List.set_cons_succ])
              refine wpAnyH_ready (rs := [8]) (by kernel_rfl) (by simp) ?_
              refine AllReadyH.cons (o := ⟨some 33, _, _, _, _, _⟩) rfl (fun K hK => ?_) (AllReadyH.nil)
              refine step_appR (by rfl) _ _ 56 (by rfl) wr.drew.heap.size 110 i2 _ 2 16 Try.underlying56 hi2 hz0 hz1 hz2 rfl (by decide) _ 0 0 [] (by rfl) o1 ⟨g, 0, none⟩ k _ (D2 (L.take k)) (by rfl) (HL1.out) (HC1.out x1 bS1) (D2_one _) (by omega) (by unfold maxLen; omega) (by have := b1.size; omega) ?_
              intro A2 c2 x2 o2 g2 l2
              rw [Nat.zero_add] at o2 ⊢
              have b2 : Below wr.drew.heap.size wr.drew x2 := b1.grown g2 b1.size (fun j hj => (o1.block j hj).1)
              have bS2 : Below wr.heap.size wr x2 := (Below.refl _ _).drew.trans b2
              have hs2 := g2.size
              clear hHeld
              refine hK.out _ _ ?_ (fun hHeld => ?_)
              · trivial
              clear hK K
              (try simp only [Act.put, List.setIfInBounds_toArray, List.set_cons_zero, List.set_cons_succ])
              refine wpAnyH_ready (rs := [16]) (by kernel_rfl) (by simp) ?_
              refine AllReadyH.cons (o := ⟨some 41, _, _, _, _, _⟩) rfl (fun K hK => ?_) (AllReadyH.nil)
              refine step_appR (by rfl) _ _ 56 (by rfl) wr.drew.heap.size 110 i2 _ 2 16 Try.underlying56 hi2 hz0 hz1 hz2 rfl (by decide) A2 k c2 _ (by rfl) o2 ⟨g, o2', none⟩ (n - k1) _ (D2 (L.drop k1)) (by rfl) (HL2.out) (HC2.out x2 bS2) (D2_one _) (by omega) (by unfold maxLen; omega) (by have := b2.size; omega) ?_
              intro A3 c3 x3 o3 g3 l3
              have b3 : Below wr.drew.heap.size wr.drew x3 := b2.grown g3 b2.size (fun j hj => (o2.block j hj).1)
              have bS3 : Below wr.heap.size wr x3 := (Below.refl _ _).drew.trans b3
              have q3 := HQ.out x3 bS3
              clear hHeld
              refine hK.out _ _ ?_ (fun hHeld => ?_)
              · trivial
              clear hK K
              (try simp only [Act.put, List.setIfInBounds_toArray, List.set_cons_zero, List.set_cons_succ])
              refine wpAnyH_take (i := 17) (oi := ⟨some 42, _, _, _, _, _⟩) (v := ?_) rfl (by kernel_rfl) (by kernel_rfl) (by kernel_rfl) (fun _ _ _ h => h) (Or.inl ⟨by rfl, ?_⟩) hHeld ?_
              rotate_left
              · intro W hSW; have hSW0 := hSW; go_simp; first | done | with_reducible rfl
              (try simp only [Act.put, List.setIfInBounds_toArray, List.set_cons_zero, List.set_cons_succ])
              refine wpAnyH_take (i := 18) (oi := ⟨some 43, _, _, _, _, _⟩) (v := ?_) rfl (by kernel_rfl) (by kernel_rfl) (by kernel_rfl) (fun _ _ _ h => h) (Or.inl ⟨by rfl, ?_⟩) hHeld ?_
              rotate_left
              · intro W hSW; have hSW0 := hSW; go_simp; first | done | with_reducible rfl
              (try simp only [Act.put, List.setIfInBounds_toArray, List.set_cons_zero, List.set_cons_succ])
              refine wpAnyH_ready (rs := [19]) (by kernel_rfl) (by simp) ?_
              refine AllReadyH.cons (o := ⟨none, _, _, _, _, _⟩) rfl (fun K hK => ?_) (AllReadyH.nil)
              refine step_cell (by rfl) 56 _ _ (by rfl) gR 1 (.slice A3 (k + (n - k1)) c3) (by rfl) (by rfl) 58 _ q3 (show 1 < 2 by omega) infoDues rfl ?_
              intro x4 u4
              clear hHeld
              refine hK.out _ _ ?_ (fun hHeld => ?_)
              · trivial
              clear hK K
              (try simp only [Act.put, List.setIfInBounds_toArray, List.set_cons_zero, List.set_cons_succ])
              refine wpAnyH_done (by kernel_rfl) ?_ _
              refine NoPanic.normal ?_
              clear hHeld
              go_wp2
              go_ret
              exact FIN.out x3 x4 A3 c3 bS3 (o3.to (by omega) HD.out) u4
          · have kx := HK.out x1 bS1
            go_simp
            clear hHeld kx
            refine hK.out _ _ ?_ (fun hHeld => ?_)
            · trivial
            clear hK K
            (try simp only [Act.put, List.setIfInBounds_toArray, List.set_cons_zero, List.set_cons_succ])
            refine wpAnyH_take (i := 15) (oi := ⟨some 40, _, _, _, _, _⟩) (v := ?_) rfl (by kernel_rfl) (by kernel_rfl) (by kernel_rfl) (fun _ _ _ h => h) (Or.inl ⟨by rfl, ?_⟩) hHeld ?_
            rotate_left
            · intro W hSW; have hSW0 := hSW; go_simp; first | done | with_reducible rfl
            (try simp only [Act.put, List.setIfInBounds_toArray, List.set_cons_zero, List.set_cons_succ])
            refine wpAnyH_ready (rs := [5]) (by kernel_rfl) (by simp) ?_
            refine AllReadyH.cons (o := ⟨some 30, _, _, _, _, _⟩) rfl (fun K hK => ?_) (AllReadyH.nil)
            have kx := HK.out x1 bS1
            go_simp
            clear hHeld kx
            refine hK.out _ _ ?_ (fun hHeld => ?_)
            · trivial
            clear hK K
            (try simp only [Act.put, List.setIfInBounds_toArray, List.set_cons_zero, List.set_cons_succ])
            refine wpAnyH_take (i := 7) (oi := ⟨some 32, _, _, _, _, _⟩) (v := ?_) rfl (by kernel_rfl) (by kernel_rfl) (by kernel_rfl) (fun _ _ _ h => h) (Or.inl ⟨by rfl, ?_⟩) hHeld ?_
            rotate_left
            · intro W hSW; have hSW0 := hSW; go_simp; first | done | with_reducible rfl
            (try simp only [Act.put, List.setIfInBounds_toArray, List.set_cons_zero, List.set_cons_succ])
            refine wpAnyH_ready (rs := [8]) (by kernel_rfl) (by simp) ?_
            refine AllReadyH.cons (o := ⟨some 33, _, _, _, _, _⟩) rfl (fun K hK => ?_) (AllReadyH.nil)
            refine step_appR (by rfl) _ _ 56 (by rfl) wr.drew.heap.size 110 i2 _ 2 16 Try.underlying56 hi2 hz0 hz1 hz2 rfl (by decide) _ 0 0 [] (by rfl) o1 ⟨g, 0, none⟩ k _ (D2 (L.take k)) (by rfl) (HL1.out) (HC1.out x1 bS1) (D2_one _) (by omega) (by unfold maxLen; omega) (by have := b1.size; omega) ?_
            intro A2 c2 x2 o2 g2 l2
            rw [Nat.zero_add] at o2 ⊢
            have b2 : Below wr.drew.heap.size wr.drew x2 := b1.grown g2 b1.size (fun j hj => (o1.block j hj).1)
            have bS2 : Below wr.heap.size wr x2 := (Below.refl _ _).drew.trans b2
            have hs2 := g2.size
            clear hHeld
            refine hK.out _ _ ?_ (fun hHeld => ?_)
            · trivial
            clear hK K
            (try simp only [Act.put, List.setIfInBounds_toArray, List.set_cons_zero, List.set_cons_succ])
            refine wpAnyH_ready (rs := [16]) (by kernel_rfl) (by simp) ?_
            refine AllReadyH.cons (o := ⟨some 41, _, _, _, _, _⟩) rfl (fun K hK => ?_) (AllReadyH.nil)
            refine step_appR (by rfl) _ _ 56 (by rfl) wr.drew.heap.size 110 i2 _ 2 16 Try.underlying56 hi2 hz0 hz1 hz2 rfl (by decide) A2 k c2 _ (by rfl) o2 ⟨g, o2', none⟩ (n - k1) _ (D2 (L.drop k1)) (by rfl) (HL2.out) (HC2.out x2 bS2) (D2_one _) (by omega) (by unfold maxLen; omega) (by have := b2.size; omega) ?_
            intro A3 c3 x3 o3 g3 l3
            have b3 : Below wr.drew.heap.size wr.drew x3 := b2.grown g3 b2.size (fun j hj => (o2.block j hj).1)
            have bS3 : Below wr.heap.size wr x3 := (Below.refl _ _).drew.trans b3
            have q3 := HQ.out x3 bS3
            clear hHeld
            refine hK.out _ _ ?_ (fun hHeld => ?_)
            · trivial
            clear hK K
            (try simp only [Act.put, List.setIfInBounds_toArray, List.set_cons_zero, List.set_cons_succ])
            refine wpAnyH_take (i := 17) (oi := ⟨some 42, _, _, _, _, _⟩) (v := ?_) rfl (by kernel_rfl) (by kernel_rfl) (by kernel_rfl) (fun _ _ _ h => h) (Or.inl ⟨by rfl, ?_⟩) hHeld ?_
            rotate_left
            · intro W hSW; have hSW0 := hSW; go_simp; first | done | with_reducible rfl
            (try simp only [Act.put, List.setIfInBounds_toArray, List.set_cons_zero, List.set_cons_succ])
            refine wpAnyH_take (i := 18) (oi := ⟨some 43, _, _, _, _, _⟩) (v := ?_) rfl (by kernel_rfl) (by kernel_rfl) (by kernel_rfl) (fun _ _ _ h => h) (Or.inl ⟨by rfl, ?_⟩) hHeld ?_
            rotate_left
            · intro W hSW; have hSW0 := hSW; go_simp; first | done | with_reducible rfl
            (try simp only [Act.put, List.setIfInBounds_toArray, List.set_cons_zero, List.set_cons_succ])
            refine wpAnyH_ready (rs := [19]) (by kernel_rfl) (by simp) ?_
            refine AllReadyH.cons (o := ⟨none, _, _, _, _, _⟩) rfl (fun K hK => ?_) (AllReadyH.nil)
            refine step_cell (by rfl) 56 _ _ (by rfl) gR 1 (.slice A3 (k + (n - k1)) c3) (by rfl) (by rfl) 58 _ q3 (show 1 < 2 by omega) infoDues rfl ?_
            intro x4 u4
            clear hHeld
            refine hK.out _ _ ?_ (fun hHeld => ?_)
            · trivial
            clear hK K
            (try simp only [Act.put, List.setIfInBounds_toArray, List.set_cons_zero, List.set_cons_succ])
            refine wpAnyH_done (by kernel_rfl) ?_ _
            refine NoPanic.normal ?_
            clear hHeld
            go_wp2
            go_ret
            exact FIN.out x3 x4 A3 c3 bS3 (o3.to (by omega) HD.out) u4
        · have kx := HK.out wr.drew (Below.refl _ _).drew
          go_simp
          clear hHeld kx
          refine hK.out _ _ ?_ (fun hHeld => ?_)
          · trivial
          clear hK K
          (try simp only [Act.put, List.setIfInBounds_toArray, List.set_cons_zero, List.set_cons_succ])
          refine wpAnyH_take (i := 7) (oi := ⟨some 32, _, _, _, _, _⟩) (v := ?_) rfl (by kernel_rfl) (by kernel_rfl) (by kernel_rfl) (fun _ _ _ h => h) (Or.inl ⟨by rfl, ?_⟩) hHeld ?_
          rotate_left
          · intro W hSW; have hSW0 := hSW; go_simp; first | done | with_reducible rfl
          (try simp only [Act.put, List.setIfInBounds_toArray, List.set_cons_zero, List.set_cons_succ])
          refine wpAnyH_ready (rs := [1, 12]) (by kernel_rfl) (by simp) ?_
          refine AllReadyH.cons (o := ⟨some 26, _, _, _, _, _⟩) rfl (fun K hK => ?_) (AllReadyH.cons (o := ⟨some 37, _, _, _, _, _⟩) rfl (fun K hK => ?_) (AllReadyH.nil))
          · refine step_noneR (by rfl) 56 110 2 (by rfl) i2 Try.underlying56 hi2 ?_
            intro x1 o1 b1 s1
            have bS1 : Below wr.heap.size wr x1 := (Below.refl _ _).drew.trans b1
            clear hHeld
            refine hK.out _ _ ?_ (fun hHeld => ?_)
            · trivial
            clear hK K
            (try simp only [Act.put, List.setIfInBounds_toArray, List.set_cons_zero, List.set_cons_succ])
            refine wpAnyH_ready (rs := [8, 12]) (by kernel_rfl) (by simp) ?_
            refine AllReadyH.cons (o := ⟨some 33, _, _, _, _, _⟩) rfl (fun K hK => ?_) (AllReadyH.cons (o := ⟨some 37, _, _, _, _, _⟩) rfl (fun K hK => ?_) (AllReadyH.nil))
            · refine step_appR (by rfl) _ _ 56 (by rfl) wr.drew.heap.size 110 i2 _ 2 16 Try.underlying56 hi2 hz0 hz1 hz2 rfl (by decide) _ 0 0 [] (by rfl) o1 ⟨g, 0, none⟩ k _ (D2 (L.take k)) (by rfl) (HL1.out) (HC1.out x1 bS1) (D2_one _) (by omega) (by unfold maxLen; omega) (by have := b1.size; omega) ?_
              intro A2 c2 x2 o2 g2 l2
              rw [Nat.zero_add] at o2 ⊢
              have b2 : Below wr.drew.heap.size wr.drew x2 := b1.grown g2 b1.size (fun j hj => (o1.block j hj).1)
              have bS2 : Below wr.heap.size wr x2 := (Below.refl _ _).drew.trans b2
              have hs2 := g2.size
              clear hHeld
              refine hK.out _ _ ?_ (fun hHeld => ?_)
              · trivial
              clear hK K
              (try simp only [Act.put, List.setIfInBounds_toArray, List.set_cons_zero, List.set_cons_succ])
              refine wpAnyH_ready (rs := [12]) (by kernel_rfl) (by simp) ?_
              refine AllReadyH.cons (o := ⟨some 37, _, _, _, _, _⟩) rfl (fun K hK => ?_) (AllReadyH.nil)
              have kx := HK.out x2 bS2
              go_simp
              clear hHeld kx
              refine hK.out _ _ ?_ (fun hHeld => ?_)
              · trivial
              clear hK K
              (try simp only [Act.put, List.setIfInBounds_toArray, List.set_cons_zero, List.set_cons_succ])
              refine wpAnyH_take (i := 15) (oi := ⟨some 40, _, _, _, _, _⟩) (v := ?_) rfl (by kernel_rfl) (by kernel_rfl) (by kernel_rfl) (fun _ _ _ h => h) (Or.inl ⟨by rfl, ?_⟩) hHeld ?_
              rotate_left
              · intro W hSW; have hSW0 := hSW; go_simp; first | done | with_reducible rfl
              (try simp only [Act.put, List.setIfInBounds_toArray, List.set_cons_zero, List.set_cons_succ])
              refine wpAnyH_ready (rs := [16]) (by kernel_rfl) (by simp) ?_
              refine AllReadyH.cons (o := ⟨some 41, _, _, _, _, _⟩) rfl (fun K hK => ?_) (AllReadyH.nil)
              refine step_appR (by rfl) _ _ 56 (by rfl) wr.drew.heap.size 110 i2 _ 2 16 Try.underlying56 hi2 hz0 hz1 hz2 rfl (by decide) A2 k c2 _ (by rfl) o2 ⟨g, o2', none⟩ (n - k1) _ (D2 (L.drop k1)) (by rfl) (HL2.out) (HC2.out x2 bS2) (D2_one _) (by omega) (by unfold maxLen; omega) (by have := b2.size; omega) ?_
              intro A3 c3 x3 o3 g3 l3
              have b3 : Below wr.drew.heap.size wr.drew x3 := b2.grown g3 b2.size (fun j hj => (o2.block j hj).1)
              have bS3 : Below wr.heap.size wr x3 := (Below.refl _ _).drew.trans b3
              have q3 := HQ.out x3 bS3
              clear hHeld
              refine hK.out _ _ ?_ (fun hHeld => ?_)
              · trivial
              clear hK K
              (try simp only [Act.put, List.setIfInBounds_toArray, List.set_cons_zero, List.set_cons_succ])
              refine wpAnyH_take (i := 17) (oi := ⟨some 42, _, _, _, _, _⟩) (v := ?_) rfl (by kernel_rfl) (by kernel_rfl) (by kernel_rfl) (fun _ _ _ h => h) (Or.inl ⟨by rfl, ?_⟩) hHeld ?_
              rotate_left
              · intro W hSW; have hSW0 := hSW; go_simp; first | done | with_reducible rfl
              (try simp only [Act.put, List.setIfInBounds_toArray, List.set_cons_zero, List.set_cons_succ])
              refine wpAnyH_take (i := 18) (oi := ⟨some 43, _, _, _, _, _⟩) (v := ?_) rfl (by kernel_rfl) (by kernel_rfl) (by kernel_rfl) (fun _ _ _ h => h) (Or.inl ⟨by rfl, ?_⟩) hHeld ?_
              rotate_left
              · intro W hSW; have hSW0 := hSW; go_simp; first | done | with_reducible rfl
              (try simp only [Act.put, List.setIfInBounds_toArray, List.set_cons_zero, List.set_cons_succ])
              refine wpAnyH_ready (rs := [19]) (by kernel_rfl) (by simp) ?_
              refine AllReadyH.cons (o := ⟨none, _, _, _, _, _⟩) rfl (fun K hK => ?_) (AllReadyH.nil)
              refine step_cell (by rfl) 56 _ _ (by rfl) gR 1 (.slice A3 (k + (n - k1)) c3) (by rfl) (by rfl) 58 _ q3 (show 1 < 2 by omega) infoDues rfl ?_
              intro x4 u4
              clear hHeld
              refine hK.out _ _ ?_ (fun hHeld => ?_)
              · trivial
              clear hK K
              (try simp only [Act.put, List.setIfInBounds_toArray, List.set_cons_zero, List.set_cons_succ])
              refine wpAnyH_done (by kernel_rfl) ?_ _
              refine NoPanic.normal ?_
              clear hHeld
              go_wp2
              go_ret
              exact FIN.out x3 x4 A3 c3 bS3 (o3.to (by omega) HD.out) u4
            · have kx := HK.out x1 bS1
              go_simp
              clear hHeld kx
              refine hK.out _ _ ?_ (fun hHeld => ?_)
              · trivial
              clear hK K
              (try simp only [Act.put, List.setIfInBounds_toArray, List.set_cons_zero, List.set_cons_succ])
              refine wpAnyH_take (i := 15) (oi := ⟨some 40, _, _, _, _, _⟩) (v := ?_) rfl (by kernel_rfl) (by kernel_rfl) (by kernel_rfl) (fun _ _ _ h => h) (Or.inl ⟨by rfl, ?_⟩) hHeld ?_
              rotate_left
              · intro W hSW; have hSW0 := hSW; go_simp; first | done | with_reducible rfl
              (try simp only [Act.put, List.setIfInBounds_toArray, List.set_cons_zero, List.set_cons_succ])
              refine wpAnyH_ready (rs := [8]) (by kernel_rfl) (by simp) ?_
              refine AllReadyH.cons (o := ⟨some 33, _, _, _, _, _⟩) rfl (fun K hK => ?_) (AllReadyH.nil)
              refine step_appR (by rfl) _ _ 56 (by rfl) wr.drew.heap.size 110 i2 _ 2 16 Try.underlying56 hi2 hz0 hz1 hz2 rfl (by decide) _ 0 0 [] (by rfl) o1 ⟨g, 0, none⟩ k _ (D2 (L.take k)) (by rfl) (HL1.out) (HC1.out x1 bS1) (D2_one _) (by omega) (by unfold maxLen; omega) (by have := b1.size; omega) ?_
              intro A2 c2 x2 o2 g2 l2
              rw [Nat.zero_add] at o2 ⊢
              have b2 : Below wr.drew.heap.size wr.drew x2 := b1.grown g2 b1.size (fun j hj => (o1.block j hj).1)
              have bS2 : Below wr.heap.size wr x2 := (Below.refl _ _).drew.trans b2
              have hs2 := g2.size
              clear hHeld
              refine hK.out _ _ ?_ (fun hHeld => ?_)
              · trivial
              clear hK K
              (try simp only [Act.put, List.setIfInBounds_toArray, List.set_cons_zero, List.set_cons_succ])
              refine wpAnyH_ready (rs := [16]) (by kernel_rfl) (by simp) ?_
              refine AllReadyH.cons (o := ⟨some 41, _, _, _, _, _⟩) rfl (fun K hK => ?_) (AllReadyH.nil)
              refine step_appR (by rfl) _ _ 56 (by rfl) wr.drew.heap.size 110 i2 _ 2 16 Try.underlying56 hi2 hz0 hz1 hz2 rfl (by decide) A2 k c2 _ (by rfl) o2 ⟨g, o2', none⟩ (n - k1) _ (D2 (L.drop k1)) (by rfl) (HL2.out) (HC2.out x2 bS2) (D2_one _) (by omega) (by unfold maxLen; omega) (by have := b2.size; omega) ?_
              intro A3 c3 x3 o3 g3 l3
              have b3 : Below wr.drew.heap.size wr.drew x3 := b2.grown g3 b2.size (fun j hj => (o2.block j hj).1)
              have bS3 : Below wr.heap.size wr x3 := (Below.refl _ _).drew.trans b3
              have q3 := HQ.out x3 bS3
              clear hHeld
              refine hK.out _ _ ?_ (fun hHeld => ?_)
              · trivial
              clear hK K
              (try simp only [Act.put, List.setIfInBounds_toArray, List.set_cons_zero, List.set_cons_succ])
              refine wpAnyH_take (i := 17) (oi := ⟨some 42, _, _, _, _, _⟩) (v := ?_) rfl (by kernel_rfl) (by kernel_rfl) (by kernel_rfl) (fun _ _ _ h => h) (Or.inl ⟨by rfl, ?_⟩) hHeld ?_
              rotate_left
              · intro W hSW; have hSW0 := hSW; go_simp; first | done | with_reducible rfl
              (try simp only [Act.put, List.setIfInBounds_toArray, List.set_cons_zero, List.set_cons_succ])
              refine wpAnyH_take (i := 18) (oi := ⟨some 43, _, _, _, _, _⟩) (v := ?_) rfl (by kernel_rfl) (by kernel_rfl) (by kernel_rfl) (fun _ _ _ h => h) (Or.inl ⟨by rfl, ?_⟩) hHeld ?_
              rotate_left
              · intro W hSW; have hSW0 := hSW; go_simp; first | done | with_reducible rfl
              (try simp only [Act.put, List.setIfInBounds_toArray, List.set_cons_zero, List.set_cons_succ])
              refine wpAnyH_ready (rs := [19]) (by kernel_rfl) (by simp) ?_
              refine AllReadyH.cons (o := ⟨none, _, _, _, _, _⟩) rfl (fun K hK => ?_) (AllReadyH.nil)
              refine step_cell (by rfl) 56 _ _ (by rfl) gR 1 (.slice A3 (k + (n - k1)) c3) (by rfl) (by rfl) 58 _ q3 (show 1 < 2 by omega) infoDues rfl ?_
              intro x4 u4
              clear hHeld
              refine hK.out _ _ ?_ (fun hHeld => ?_)
              · trivial
              clear hK K
              (try simp only [Act.put, List.setIfInBounds_toArray, List.set_cons_zero, List.set_cons_succ])
              refine wpAnyH_done (by kernel_rfl) ?_ _
              refine NoPanic.normal ?_
              clear hHeld
              go_wp2
              go_ret
              exact FIN.out x3 x4 A3 c3 bS3 (o3.to (by omega) HD.out) u4
          · have kx := HK.out wr.drew (Below.refl _ _).drew
            go_simp
            clear hHeld kx
            refine hK.out _ _ ?_ (fun hHeld => ?_)
            · trivial
            clear hK K
            (try simp only [Act.put, List.setIfInBounds_toArray, List.set_cons_zero, List.set_cons_succ])
            refine wpAnyH_take (i := 15) (oi := ⟨some 40, _, _, _, _, _⟩) (v := ?_) rfl (by kernel_rfl) (by kernel_rfl) (by kernel_rfl) (fun _ _ _ h => h) (Or.inl ⟨by rfl, ?_⟩) hHeld ?_
            rotate_left
            · intro W hSW; have hSW0 := hSW; go_simp; first | done | with_reducible rfl
            (try simp only [Act.put, List.setIfInBounds_toArray, List.set_cons_zero, List.set_cons_succ])
            refine wpAnyH_ready (rs := [1]) (by kernel_rfl) (by simp) ?_
            refine AllReadyH.cons (o := ⟨some 26, _, _, _, _, _⟩) rfl (fun K hK => ?_) (AllReadyH.nil)
            refine step_noneR (by rfl) 56 110 2 (by rfl) i2 Try.underlying56 hi2 ?_
            intro x1 o1 b1 s1
            have bS1 : Below wr.heap.size wr x1 := (Below.refl _ _).drew.trans b1
            clear hHeld
            refine hK.out _ _ ?_ (fun hHeld => ?_)
            · trivial
            clear hK K
            (try simp only [Act.put, List.setIfInBounds_toArray, List.set_cons_zero, List.set_cons_succ])
            refine wpAnyH_ready (rs := [8]) (by kernel_rfl) (by simp) ?_
            refine AllReadyH.cons (o := ⟨some 33, _, _, _, _, _⟩) rfl (fun K hK => ?_) (AllReadyH.nil)
            refine step_appR (by rfl) _ _ 56 (by rfl) wr.drew.heap.size 110 i2 _ 2 16 Try.underlying56 hi2 hz0 hz1 hz2 rfl (by decide) _ 0 0 [] (by rfl) o1 ⟨g, 0, none⟩ k _ (D2 (L.take k)) (by rfl) (HL1.out) (HC1.out x1 bS1) (D2_one _) (by omega) (by unfold maxLen; omega) (by have := b1.size; omega) ?_
            intro A2 c2 x2 o2 g2 l2
            rw [Nat.zero_add] at o2 ⊢
            have b2 : Below wr.drew.heap.size wr.drew x2 := b1.grown g2 b1.size (fun j hj => (o1.block j hj).1)
            have bS2 : Below wr.heap.size wr x2 := (Below.refl _ _).drew.trans b2
            have hs2 := g2.size
            clear hHeld
            refine hK.out _ _ ?_ (fun hHeld => ?_)
            · trivial
            clear hK K
            (try simp only [Act.put, List.setIfInBounds_toArray, List.set_cons_zero, List.set_cons_succ])
            refine wpAnyH_ready (rs := [16]) (by kernel_rfl) (by simp) ?_
            refine AllReadyH.cons (o := ⟨some 41, _, _, _, _, _⟩) rfl (fun K hK => ?_) (AllReadyH.nil)
            refine step_appR (by rfl) _ _ 56 (by rfl) wr.drew.heap.size 110 i2 _ 2 16 Try.underlying56 hi2 hz0 hz1 hz2 rfl (by decide) A2 k c2 _ (by rfl) o2 ⟨g, o2', none⟩ (n - k1) _ (D2 (L.drop k1)) (by rfl) (HL2.out) (HC2.out x2 bS2) (D2_one _) (by omega) (by unfold maxLen; omega) (by have := b2.size; omega) ?_
            intro A3 c3 x3 o3 g3 l3
            have b3 : Below wr.drew.heap.size wr.drew x3 := b2.grown g3 b2.size (fun j hj => (o2.block j hj).1)
            have bS3 : Below wr.heap.size wr x3 := (Below.refl _ _).drew.trans b3
            have q3 := HQ.out x3 bS3
            clear hHeld
            refine hK.out _ _ ?_ (fun hHeld => ?_)
            · trivial
            clear hK K
            (try simp only [Act.put, List.setIfInBounds_toArray, List.set_cons_zero, List.set_cons_succ])
            refine wpAnyH_take (i := 17) (oi := ⟨some 42, _, _, _, _, _⟩) (v := ?_) rfl (by kernel_rfl) (by kernel_rfl) (by kernel_rfl) (fun _ _ _ h => h) (Or.inl ⟨by rfl, ?_⟩) hHeld ?_
            rotate_left
            · intro W hSW; have hSW0 := hSW; go_simp; first | done | with_reducible rfl
            (try simp only [Act.put, List.setIfInBounds_toArray, List.set_cons_zero, List.set_cons_succ])
            refine wpAnyH_take (i := 18) (oi := ⟨some 43, _, _, _, _, _⟩) (v := ?_) rfl (by kernel_rfl) (by kernel_rfl) (by kernel_rfl) (fun _ _ _ h => h) (Or.inl ⟨by rfl, ?_⟩) hHeld ?_
            rotate_left
            · intro W hSW; have hSW0 := hSW; go_simp; first | done | with_reducible rfl
            (try simp only [Act.put, List.setIfInBounds_toArray, List.set_cons_zero, List.set_cons_succ])
            refine wpAnyH_ready (rs := [19]) (by kernel_rfl) (by simp) ?_
            refine AllReadyH.cons (o := ⟨none, _, _, _, _, _⟩) rfl (fun K hK => ?_) (AllReadyH.nil)
            refine step_cell (by rfl) 56 _ _ (by rfl) gR 1 (.slice A3 (k + (n - k1)) c3) (by rfl) (by rfl) 58 _ q3 (show 1 < 2 by omega) infoDues rfl ?_
            intro x4 u4
            clear hHeld
            refine hK.out _ _ ?_ (fun hHeld => ?_)
            · trivial
            clear hK K
            (try simp only [Act.put, List.setIfInBounds_toArray, List.set_cons_zero, List.set_cons_succ])
            refine wpAnyH_done (by kernel_rfl) ?_ _
            refine NoPanic.normal ?_
            clear hHeld
            go_wp2
            go_ret
            exact FIN.out x3 x4 A3 c3 bS3 (o3.to (by omega) HD.out) u4
        · have kx := HK.out wr.drew (Below.refl _ _).drew
          go_simp
          clear hHeld kx
          refine hK.out _ _ ?_ (fun hHeld => ?_)
          · trivial
          clear hK K
          (try simp only [Act.put, List.setIfInBounds_toArray, List.set_cons_zero, List.set_cons_succ])
          refine wpAnyH_take (i := 15) (oi := ⟨some 40, _, _, _, _, _⟩) (v := ?_) rfl (by kernel_rfl) (by kernel_rfl) (by kernel_rfl) (fun _ _ _ h => h) (Or.inl ⟨by rfl, ?_⟩) hHeld ?_
          rotate_left
          · intro W hSW; have hSW0 := hSW; go_simp; first | done | with_reducible rfl
          (try simp only [Act.put, List.setIfInBounds_toArray, List.set_cons_zero, List.set_cons_succ])
          refine wpAnyH_ready (rs := [1, 5]) (by kernel_rfl) (by simp) ?_
          refine AllReadyH.cons (o := ⟨some 26, _, _, _, _, _⟩) rfl (fun K hK => ?_) (AllReadyH.cons (o := ⟨some 30, _, _, _, _, _⟩) rfl (fun K hK => ?_) (AllReadyH.nil))
          · refine step_noneR (by rfl) 56 110 2 (by rfl) i2 Try.underlying56 hi2 ?_
            intro x1 o1 b1 s1
            have bS1 : Below wr.heap.size wr x1 := (Below.refl _ _).drew.trans b1
            clear hHeld
            refine hK.out _ _ ?_ (fun hHeld => ?_)
            · trivial
            clear hK K
            (try simp only [Act.put, List.setIfInBounds_toArray, List.set_cons_zero, List.set_cons_succ])
            refine wpAnyH_ready (rs := [5]) (by kernel_rfl) (by simp) ?_
            refine AllReadyH.cons (o := ⟨some 30, _, _, _, _, _⟩) rfl (fun K hK => ?_) (AllReadyH.nil)
            have kx := HK.out x1 bS1
            go_simp
            clear hHeld kx
            refine hK.out _ _ ?_ (fun hHeld => ?_)
            · trivial
            clear hK K
            (try simp only [Act.put, List.setIfInBounds_toArray, List.set_cons_zero, List.set_cons_succ])
            refine wpAnyH_take (i := 7) (oi := ⟨some 32, _, _, _, _, _⟩) (v := ?_) rfl (by kernel_rfl) (by kernel_rfl) (by kernel_rfl) (fun _ _ _ h => h) (Or.inl ⟨by rfl, ?_⟩) hHeld ?_
            rotate_left
            · intro W hSW; have hSW0 := hSW; go_simp; first | done | with_reducible rfl
            (try simp only [Act.put, List.setIfInBounds_toArray, List.set_cons_zero, List.set_cons_succ])
            refine wpAnyH_ready (rs := [8]) (by kernel_rfl) (by simp) ?_
            refine AllReadyH.cons (o := ⟨some 33, _, _, _, _, _⟩) rfl (fun K hK => ?_) (AllReadyH.nil)
            refine step_appR (by rfl) _ _ 56 (by rfl) wr.drew.heap.size 110 i2 _ 2 16 Try.underlying56 hi2 hz0 hz1 hz2 rfl (by decide) _ 0 0 [] (by rfl) o1 ⟨g, 0, none⟩ k _ (D2 (L.take k)) (by rfl) (HL1.out) (HC1.out x1 bS1) (D2_one _) (by omega) (by unfold maxLen; omega) (by have := b1.size; omega) ?_
            intro A2 c2 x2 o2 g2 l2
            rw [Nat.zero_add] at o2 ⊢
            have b2 : Below wr.drew.heap.size wr.drew x2 := b1.grown g2 b1.size (fun j hj => (o1.block j hj).1)
            have bS2 : Below wr.heap.size wr x2 := (Below.refl _ _).drew.trans b2
            have hs2 := g2.size
            clear hHeld
            refine hK.out _ _ ?_ (fun hHeld => ?_)
            · trivial
            clear hK K
            (try simp only [Act.put, List.setIfInBounds_toArray, List.set_cons_zero, List.set_cons_succ])
            refine wpAnyH_ready (rs := [16]) (by kernel_rfl) (by simp) ?_
            refine AllReadyH.cons (o := ⟨some 41, _, _, _, _, _⟩) rfl (fun K hK => ?_) (AllReadyH.nil)
            refine step_appR (by rfl) _ _ 56 (by rfl) wr.drew.heap.size 110 i2 _ 2 16 Try.underlying56 hi2 hz0 hz1 hz2 rfl (by decide) A2 k c2 _ (by rfl) o2 ⟨g, o2', none⟩ (n - k1) _ (D2 (L.drop k1)) (by rfl) (HL2.out) (HC2.out x2 bS2) (D2_one _) (by omega) (by unfold maxLen; omega) (by have := b2.size; omega) ?_
            intro A3 c3 x3 o3 g3 l3
            have b3 : Below wr.drew.heap.size wr.drew x3 := b2.grown g3 b2.size (fun j hj => (o2.block j hj).1)
            have bS3 : Below wr.heap.size wr x3 := (Below.refl _ _).drew.trans b3
            have q3 := HQ.out x3 bS3
            clear hHeld
            refine hK.out _ _ ?_ (fun hHeld => ?_)
            · trivial
            clear hK K
            (try simp only [Act.put, List.setIfInBounds_toArray, List.set_cons_zero, List.set_cons_succ])
            refine wpAnyH_take (i := 17) (oi := ⟨some 42, _, _, _, _, _⟩) (v := ?_) rfl (by kernel_rfl) (by kernel_rfl) (by kernel_rfl) (fun _ _ _ h => h) (Or.inl ⟨by rfl, ?_⟩) hHeld ?_
            rotate_left
            · intro W hSW; have hSW0 := hSW; go_simp; first | done | with_reducible rfl
            (try simp only [Act.put, List.setIfInBounds_toArray, List.set_cons_zero, List.set_cons_succ])
            refine wpAnyH_take (i := 18) (oi := ⟨some 43, _, _, _, _, _⟩) (v := ?_) rfl (by kernel_rfl) (by kernel_rfl) (by kernel_rfl) (fun _ _ _ h => h) (Or.inl ⟨by rfl, ?_⟩) hHeld ?_
            rotate_left
            · intro W hSW; have hSW0 := hSW; go_simp; first | done | with_reducible rfl
            (try simp only [Act.put, List.setIfInBounds_toArray, List.set_cons_zero, List.set_cons_succ])
            refine wpAnyH_ready (rs := [19]) (by kernel_rfl) (by simp) ?_
            refine AllReadyH.cons (o := ⟨none, _, _, _, _, _⟩) rfl (fun K hK => ?_) (AllReadyH.nil)
            refine step_cell (by rfl) 56 _ _ (by rfl) gR 1 (.slice A3 (k + (n - k1)) c3) (by rfl) (by rfl) 58 _ q3 (show 1 < 2 by omega) infoDues rfl ?_
            intro x4 u4
            clear hHeld
            refine hK.out _ _ ?_ (fun hHeld => ?_)
            · trivial
            clear hK K
            (try simp only [Act.put, List.setIfInBounds_toArray, List.set_cons_zero, List.set_cons_succ])
            refine wpAnyH_done (by kernel_rfl) ?_ _
            refine NoPanic.normal ?_
            clear hHeld
            go_wp2
            go_ret
            exact FIN.out x3 x4 A3 c3 bS3 (o3.to (by omega) HD.out) u4
          · have kx := HK.out wr.drew (Below.refl _ _).drew
            go_simp
            clear hHeld kx
            refine hK.out _ _ ?_ (fun hHeld => ?_)
            · trivial
            clear hK K
            (try simp only [Act.put, List.setIfInBounds_toArray, List.set_cons_zero, List.set_cons_succ])
            refine wpAnyH_take (i := 7) (oi := ⟨some 32, _, _, _, _, _⟩) (v := ?_) rfl (by kernel_rfl) (by kernel_rfl) (by kernel_rfl) (fun _ _ _ h => h) (Or.inl ⟨by rfl, ?_⟩) hHeld ?_
            rotate_left
            · intro W hSW; have hSW0 := hSW; go_simp; first | done | with_reducible rfl
            (try simp only [Act.put, List.setIfInBounds_toArray, List.set_cons_zero, List.set_cons_succ])
            refine wpAnyH_ready (rs := [1]) (by kernel_rfl) (by simp) ?_
            refine AllReadyH.cons (o := ⟨some 26, _, _, _, _, _⟩) rfl (fun K hK => ?_) (AllReadyH.nil)
            refine step_noneR (by rfl) 56 110 2 (by rfl) i2 Try.underlying56 hi2 ?_
            intro x1 o1 b1 s1
            have bS1 : Below wr.heap.size wr x1 := (Below.refl _ _).drew.trans b1
            clear hHeld
            refine hK.out _ _ ?_ (fun hHeld => ?_)
            · trivial
            clear hK K
            (try simp only [Act.put, List.setIfInBounds_toArray, List.set_cons_zero, List.set_cons_succ])
            refine wpAnyH_ready (rs := [8]) (by kernel_rfl) (by simp) ?_
            refine AllReadyH.cons (o := ⟨some 33, _, _, _, _, _⟩) rfl (fun K hK => ?_) (AllReadyH.nil)
            refine step_appR (by rfl) _ _ 56 (by rfl) wr.drew.heap.size 110 i2 _ 2 16 Try.underlying56 hi2 hz0 hz1 hz2 rfl (by decide) _ 0 0 [] (by rfl) o1 ⟨g, 0, none⟩ k _ (D2 (L.take k)) (by rfl) (HL1.out) (HC1.out x1 bS1) (D2_one _) (by omega) (by unfold maxLen; omega) (by have := b1.size; omega) ?_
            intro A2 c2 x2 o2 g2 l2
            rw [Nat.zero_add] at o2 ⊢
            have b2 : Below wr.drew.heap.size wr.drew x2 := b1.grown g2 b1.size (fun j hj => (o1.block j hj).1)
            have bS2 : Below wr.heap.size wr x2 := (Below.refl _ _).drew.trans b2
            have hs2 := g2.size
            clear hHeld
            refine hK.out _ _ ?_ (fun hHeld => ?_)
            · trivial
            clear hK K
            (try simp only [Act.put, List.setIfInBounds_toArray, List.set_cons_zero, List.set_cons_succ])
            refine wpAnyH_ready (rs := [16]) (by kernel_rfl) (by simp) ?_
            refine AllReadyH.cons (o := ⟨some 41, _, _, _, _, _⟩) rfl (fun K hK => ?_) (AllReadyH.nil)
            refine step_appR (by rfl) _ _ 56 (by rfl) wr.drew.heap.size 110 i2 _ 2 16 Try.underlying56 hi2 hz0 hz1 hz2 rfl (by decide) A2 k c2 _ (by rfl) o2 ⟨g, o2', none⟩ (n - k1) _ (D2 (L.drop k1)) (by rfl) (HL2.out) (HC2.out x2 bS2) (D2_one _) (by omega) (by unfold maxLen; omega) (by have := b2.size; omega) ?_
            intro A3 c3 x3 o3 g3 l3
            have b3 : Below wr.drew.heap.size wr.drew x3 := b2.grown g3 b2.size (fun j hj => (o2.block j hj).1)
            have bS3 : Below wr.heap.size wr x3 := (Below.refl _ _).drew.trans b3
            have q3 := HQ.out x3 bS3
            clear hHeld
            refine hK.out _ _ ?_ (fun hHeld => ?_)
            · trivial
            clear hK K
            (try simp only [Act.put, List.setIfInBounds_toArray, List.set_cons_zero, List.set_cons_succ])
            refine wpAnyH_take (i := 17) (oi := ⟨some 42, _, _, _, _, _⟩) (v := ?_) rfl (by kernel_rfl) (by kernel_rfl) (by kernel_rfl) (fun _ _ _ h => h) (Or.inl ⟨by rfl, ?_⟩) hHeld ?_
            rotate_left
            · intro W hSW; have hSW0 := hSW; go_simp; first | done | with_reducible rfl
            (try simp only [Act.put, List.setIfInBounds_toArray, List.set_cons_zero, List.set_cons_succ])
            refine wpAnyH_take (i := 18) (oi := ⟨some 43, _, _, _, _, _⟩) (v := ?_) rfl (by kernel_rfl) (by kernel_rfl) (by kernel_rfl) (fun _ _ _ h => h) (Or.inl ⟨by rfl, ?_⟩) hHeld ?_
            rotate_left
            · intro W hSW; have hSW0 := hSW; go_simp; first | done | with_reducible rfl
            (try simp only [Act.put, List.setIfInBounds_toArray, List.set_cons_zero, List.set_cons_succ])
            refine wpAnyH_ready (rs := [19]) (by kernel_rfl) (by simp) ?_
            refine AllReadyH.cons (o := ⟨none, _, _, _, _, _⟩) rfl (fun K hK => ?_) (AllReadyH.nil)
            refine step_cell (by rfl) 56 _ _ (by rfl) gR 1 (.slice A3 (k + (n - k1)) c3) (by rfl) (by rfl) 58 _ q3 (show 1 < 2 by omega) infoDues rfl ?_
            intro x4 u4
            clear hHeld
            refine hK.out _ _ ?_ (fun hHeld => ?_)
            · trivial
            clear hK K
            (try simp only [Act.put, List.setIfInBounds_toArray, List.set_cons_zero, List.set_cons_succ])
            refine wpAnyH_done (by kernel_rfl) ?_ _
            refine NoPanic.normal ?_
            clear hHeld
            go_wp2
            go_ret
            exact FIN.out x3 x4 A3 c3 bS3 (o3.to (by omega) HD.out) u4
      · have de : (((L[k].1 : Nat) : Int) == (a : Int)) = false := HR.out k hlt' he
        have HB2 : Hid (∀ i (hi : i < L.length), i < k + 1 → L[i].1 ≠ a) := fun i hi hik => by
          rcases Nat.lt_succ_iff_lt_or_eq.1 hik with h1 | h1
          · exact HB.out i hi h1
          · subst h1; exact he
        clear he
        generalize L[k].1 = x at hc de
        go_wp2_with fail
        go_roundw
        case rel => exact ⟨k + 1, by omega, by go_num, trivial, HB2⟩
        case measure => simp [intOf] <;> omega
    · have hkn : k = n := by omega
      have HNO : Hid (inL L a = false) := inL_none (fun i hi => HB.out i hi (by have := HNL.out; omega))
      have d1 : decide ((k : Int) < (n : Int)) = false := by simp; omega
      go_wp2_with fail
      go_ret
      refine ⟨by rw [HNO.out]; rfl, Kr.of_below (Below.refl _ _), P, ?_, fun k hk => .inl hk⟩
      rw [show dropL L a = L from drop_none_of HNO.out]
      exact h
end Go.Proofs.Ytkmacepodomdmaa
