/-
  The walk of HarqOffers.
-/
import Derived.Test.YtcmoedhpedlalaaDoorHz
import Derived.Deep.RegionHeld3
namespace Go.Proofs.YtcmoedhpedlalaaDoor
open Go.RowKit
set_option maxRecDepth 100000
set_option linter.unusedVariables false
set_option linter.unusedSimpArgs false

theorem ZC_eq : (Tryd.prog.info? 37).bind (fun i => i.zero.map (fun z => z.cells)) = some #[.bool false, .int .i64 0, .slice none 0 0, .slice none 0 0, .int .i64 0] := by kernel_rfl
set_option maxHeartbeats 4000000 in
set_option maxRecDepth 100000 in
/-- HarqOffers. -/
theorem walkOffers7 (A A0 A1 : Option Addr) (n0 c0 m0 d0 n1 c1 : Nat) (bs os : List Nat) (es : Nat → CH7) (w : World) (hr : Rd w w.heap.size A n0 (U8 bs)) (hb : ∀ b ∈ bs, b < 256) (hnc : n0 ≤ c0) (hc0 : c0 ≤ 9223372036854775807) (hnone : A = none → n0 = 0 ∧ c0 = 0)
    (hr2 : Rd w w.heap.size A0 m0 (U8 os)) (hb2 : ∀ b ∈ os, b < 256) (hnc2 : m0 ≤ d0) (hd0 : d0 ≤ 9223372036854775807) (hnone2 : A0 = none → m0 = 0 ∧ d0 = 0) (hR : CH7Row w w.heap.size A1 n1 es) (hn1 : n1 ≤ 9223372036854775807) (hT : Taps w) :
    Calls Tryd.prog 3 #[.slice A n0 c0, .slice A0 m0 d0, .slice A1 n1 c1] w fun e w' => e = .returned (.bool true) ∧ Below w.heap.size w w' := by
  obtain ⟨i0, hi0, hz0, hz1, hz2⟩ := info_parts info5
  obtain ⟨n, hk, hk2, hk3⟩ := min_if n0 6
  obtain ⟨hm1, hm2⟩ := hk3 6 rfl
  obtain ⟨o, ho, ho2, ho3⟩ := min_if m0 6
  obtain ⟨hm3, hm4⟩ := ho3 6 rfl
  clear hk3 ho3
  have r0 := hr.cut8 n hk2
  have r02 := hr2.cut8 o ho2
  have HB := Lib.hid (take256 hb n)
  have HB2 := Lib.hid (take256 hb2 o)
  have hnc3 : n ≤ c0 := by omega
  have hnc4 : o ≤ d0 := by omega
  have HNO : Hid (A = none → n = 0 ∧ c0 = 0) := fun h => by have := hnone h; omega
  have HNO2 : Hid (A0 = none → o = 0 ∧ d0 = 0) := fun h => by have := hnone2 h; omega
  generalize bs.take n = m at *
  generalize os.take o = mo at *
  have hs := hT.pos
  clear hr hb hnone hr2 hb2 hnone2
  have CNn := Lib.hid (fun W => noneH W)
  have COn := Lib.hid (fun W => offerNil W)
  have CDd := Lib.hid (fun W => doneNil W)
  have CCd := Lib.hid (fun W => cameNil W)
  have CLd := Lib.hid (fun W => lenNil W)
  have CR := Lib.hid (readsC w hT)
  have CN := Lib.hid (fun W => hNew n W (by omega))
  have CQ := Lib.hid (fun W => rNew17 n W (by omega))
  go_enter Tryd.func3, Tryd.ntmps3
  go_upto_region 4 with (first | (go_at_call 12; refine (CNn.out _).mono ?_; rintro e w' ⟨rfl, rfl⟩) | (go_at_call 13; refine (COn.out _).mono ?_; rintro e w' ⟨rfl, rfl⟩) | (go_at_call 14; refine CR.out.mono ?_; rintro e w1 ⟨rfl, b1⟩) | (go_at_call 15; refine (CDd.out _).mono ?_; rintro e w' ⟨rfl, rfl⟩) | (go_at_call 16; refine (CCd.out _).mono ?_; rintro e w' ⟨rfl, rfl⟩) | (go_at_call 17; refine (CLd.out _).mono ?_; rintro e w' ⟨rfl, rfl⟩))
  clear CNn COn CDd CCd CLd CR
  refine wp_region_noPanic ?_
  refine wp_region_held_drew (S := fun _ => True) (by kernel_rfl) trivial (fun hHeld => ?_)
  refine wpAnyH_take (i := 0) (oi := ⟨some 48, _, _, _, _, _⟩) (v := ?_) rfl (by kernel_rfl) (by kernel_rfl) (by kernel_rfl) (fun _ _ _ h => h) (Or.inl ⟨by rfl, ?_⟩) hHeld ?_
  rotate_left
  · intro W hSW; have hSW0 := hSW; go_simp; first | done | with_reducible rfl
  (try simp only [Act.put, List.setIfInBounds_toArray, List.set_cons_zero, List.set_cons_succ])
  refine wpAnyH_take (i := 1) (oi := ⟨some 49, _, _, _, _, _⟩) (v := ?_) rfl (by kernel_rfl) (by kernel_rfl) (by kernel_rfl) (fun _ _ _ h => h) (Or.inl ⟨by rfl, ?_⟩) hHeld ?_
  rotate_left
  · intro W hSW; have hSW0 := hSW; go_simp; first | done | with_reducible rfl
  (try simp only [Act.put, List.setIfInBounds_toArray, List.set_cons_zero, List.set_cons_succ])
  refine wpAnyH_take (i := 2) (oi := ⟨some 50, _, _, _, _, _⟩) (v := ?_) rfl (by kernel_rfl) (by kernel_rfl) (by kernel_rfl) (fun _ _ _ h => h) (Or.inl ⟨by rfl, ?_⟩) hHeld ?_
  rotate_left
  · intro W hSW; have hSW0 := hSW; go_simp; first | done | with_reducible rfl
  (try simp only [Act.put, List.setIfInBounds_toArray, List.set_cons_zero, List.set_cons_succ])
  refine wpAnyH_take (i := 3) (oi := ⟨some 51, _, _, _, _, _⟩) (v := ?_) rfl (by kernel_rfl) (by kernel_rfl) (by kernel_rfl) (fun _ _ _ h => h) (Or.inl ⟨by rfl, ?_⟩) hHeld ?_
  rotate_left
  · intro W hSW; have hSW0 := hSW; go_simp; first | done | with_reducible rfl
  (try simp only [Act.put, List.setIfInBounds_toArray, List.set_cons_zero, List.set_cons_succ])
  refine wpAnyH_take (i := 4) (oi := ⟨some 52, _, _, _, _, _⟩) (v := ?_) rfl (by kernel_rfl) (by kernel_rfl) (by kernel_rfl) (fun _ _ _ h => h) (Or.inl ⟨by rfl, ?_⟩) hHeld ?_
  rotate_left
  · intro W hSW; have hSW0 := hSW; go_simp; first | done | with_reducible rfl
  (try simp only [Act.put, List.setIfInBounds_toArray, List.set_cons_zero, List.set_cons_succ])
  refine wpAnyH_take (i := 5) (oi := ⟨some 53, _, _, _, _, _⟩) (v := ?_) rfl (by kernel_rfl) (by kernel_rfl) (by kernel_rfl) (fun _ _ _ h => h) (Or.inl ⟨by rfl, ?_⟩) hHeld ?_
  rotate_left
  · intro W hSW; have hSW0 := hSW; go_simp; first | done | with_reducible rfl
  (try simp only [Act.put, List.setIfInBounds_toArray, List.set_cons_zero, List.set_cons_succ])
  refine wpAnyH_take (i := 6) (oi := ⟨some 54, _, _, _, _, _⟩) (v := ?_) rfl (by kernel_rfl) (by kernel_rfl) (by kernel_rfl) (fun _ _ _ h => h) (Or.inl ⟨by rfl, ?_⟩) hHeld ?_
  rotate_left
  · intro W hSW; have hSW0 := hSW; go_simp; first | done | with_reducible rfl
  (try simp only [Act.put, List.setIfInBounds_toArray, List.set_cons_zero, List.set_cons_succ])
  refine wpAnyH_take (i := 7) (oi := ⟨some 55, _, _, _, _, _⟩) (v := ?_) rfl (by kernel_rfl) (by kernel_rfl) (by kernel_rfl) (fun _ _ _ h => h) (Or.inl ⟨by rfl, ?_⟩) hHeld ?_
  rotate_left
  · intro W hSW; have hSW0 := hSW; go_simp; first | done | with_reducible rfl
  (try simp only [Act.put, List.setIfInBounds_toArray, List.set_cons_zero, List.set_cons_succ])
  refine wpAnyH_take (i := 8) (oi := ⟨some 56, _, _, _, _, _⟩) (v := ?_) rfl (by kernel_rfl) (by kernel_rfl) (by kernel_rfl) (fun _ _ _ h => h) (Or.inl ⟨by rfl, ?_⟩) hHeld ?_
  rotate_left
  · intro W hSW; have hSW0 := hSW; go_simp; first | done | with_reducible rfl
  (try simp only [Act.put, List.setIfInBounds_toArray, List.set_cons_zero, List.set_cons_succ])
  refine wpAnyH_take (i := 9) (oi := ⟨some 57, _, _, _, _, _⟩) (v := ?_) rfl (by kernel_rfl) (by kernel_rfl) (by kernel_rfl) (fun _ _ _ h => h) (Or.inl ⟨by rfl, ?_⟩) hHeld ?_
  rotate_left
  · intro W hSW; have hSW0 := hSW; go_simp; first | done | with_reducible rfl
  (try simp only [Act.put, List.setIfInBounds_toArray, List.set_cons_zero, List.set_cons_succ])
  refine wpAnyH_take (i := 10) (oi := ⟨some 0, _, _, _, _, _⟩) (v := ?_) rfl (by kernel_rfl) (by kernel_rfl) (by kernel_rfl) (fun _ _ _ h => h) (Or.inl ⟨by rfl, ?_⟩) hHeld ?_
  rotate_left
  · intro W hSW; have hSW0 := hSW; go_simp; first | done | with_reducible rfl
  (try simp only [Act.put, List.setIfInBounds_toArray, List.set_cons_zero, List.set_cons_succ])
  refine wpAnyH_take (i := 11) (oi := ⟨some 1, _, _, _, _, _⟩) (v := ?_) rfl (by kernel_rfl) (by kernel_rfl) (by kernel_rfl) (fun _ _ _ h => h) (Or.inl ⟨by rfl, ?_⟩) hHeld ?_
  rotate_left
  · intro W hSW; have hSW0 := hSW; go_simp; first | done | with_reducible rfl
  (try simp only [Act.put, List.setIfInBounds_toArray, List.set_cons_zero, List.set_cons_succ])
  refine wpAnyH_done (by kernel_rfl) ?_ _
  refine NoPanic.normal ?_
  clear hHeld
  have b1d : Below w.heap.size w w1.drew := b1.trans (below_drawn 1)
  generalize w1.drew = wd at *
  clear b1 hm1 hm2 hm3 hm4
  go_upto_region 6 with (go_at_call 18; refine (CN.out wd).mono ?_; rintro e w3 ⟨rfl, p3, b3⟩)
  obtain ⟨gP, hgP⟩ : ∃ g, g = wd.heap.size := ⟨_, rfl⟩
  rw [← hgP] at p3
  rw [← hgP]
  have HGP := Lib.hid hgP
  clear hgP
  go_upto_region 7 with (go_at_call 19; refine (CQ.out w3).mono ?_; rintro e w4 ⟨gQ, rfl, ⟨Q0, q4, hQ0⟩, b4⟩)
  have p4 := p3.after b4
  have bw4 := Below.then_ (Below.then_ b1d b3) b4
  have HP0 : Hid (∀ k, (fun k => k = gP) k → w.heap.size ≤ k ∧ ¬ Q0 k) := fun k hk => by
    have e1 : k = gP := hk
    have h1 := p3.lt gP rfl
    have h2 := b1d.size
    have h3 := HGP.out
    exact ⟨by omega, fun hq => by have := hQ0 k hq; omega⟩
  have HQ0 : Hid (∀ k, Q0 k → w.heap.size ≤ k) := fun k hk => by
    have h1 := (Below.then_ b1d b3).size
    have := hQ0 k hk
    omega
  clear p3 CN CQ b1d b3 b4 hQ0
  go_wp2
  go_loopw [12] (fun x wr => ∃ i : Nat, i ≤ n1 ∧ i ≤ 9 ∧ x = .int .i64 i ∧ ∃ (np : Nat) (row : List (Nat × List Nat)) (d : Bool) (P Q : Nat → Prop), PrS wr P gP np row d ∧ QrS wr Q gQ np row d ∧ row.length ≤ 16 ∧ (∀ k, P k → w.heap.size ≤ k ∧ ¬ Q k) ∧ (∀ k, Q k → w.heap.size ≤ k) ∧ Below w.heap.size w wr) (fun x _ => 9 - (intOf x).toNat)
  case atStart => exact ⟨0, by omega, by omega, rfl, n, [], false, _, Q0, p4, q4, by simp, HP0.out, HQ0.out, bw4⟩
  case round =>
    clear p4 q4 bw4 HP0 HQ0
    obtain ⟨i, hi1, hi2, rfl, np, row, d, P, Q, pr, qr, hrl, hP, hQ, bw⟩ := hrel
    by_cases hlt : i < n1 ∧ i < 9
    · obtain ⟨hlt1, hlt2⟩ := hlt
      have hRr := hR.below bw
      obtain ⟨b, off, hA1, hbb, hcell⟩ := hRr.at_ (by omega)
      subst hA1
      have hok := (hRr.ok i hlt1).up bw.size
      have ic := idxCame7 b off n1 c1 i hlt1
      have HRA : Hid (wr.rangeAt b (off + 5 * i) (es i).cells.toList) := fun j u hu => hcell i hlt1 j u (by rw [← Array.getElem?_toList]; exact hu)
      have iE : Hid ((Tryd.prog.info? 37).map (·.size) = some (es i).cells.size) := infoCame7
      have hE1 := Lib.hid (CH7.one (es i))
      have HSZ : Hid ((#[.bool false, .int .i64 0, .slice none 0 0, .slice none 0 0, .int .i64 0] : Array Value).size = (es i).cells.size) := rfl
      have HE0 : Hid ((es i).cells[0]? = some (.bool (es i).r)) := rfl
      have HE1 : Hid ((es i).cells[1]? = some (.int .i64 (es i).v)) := rfl
      have HE2 : Hid ((es i).cells[2]? = some (.slice (es i).aA (es i).aL (es i).aC)) := rfl
      have HE3 : Hid ((es i).cells[3]? = some (.slice (es i).rA (es i).rL (es i).rC)) := rfl
      have HE4 : Hid ((es i).cells[4]? = some (.int .i64 (es i).n)) := rfl
      obtain ⟨kR, hkR, hkR2, hkR3⟩ := min_if (es i).rL 100
      obtain ⟨hm5, hm6⟩ := hkR3 100 rfl
      have hrc1 : kR ≤ (es i).rC := Nat.le_trans hkR2 hok.rc
      have hrc2 := hok.rc2
      have hab := hok.ab
      have HVin := Lib.hid hok.vin
      have rR0 := hok.raw.cut8 kR hkR2
      have HR256 := Lib.hid (take256 hok.r256 kR)
      have hnoR : (es i).rA = none → kR = 0 ∧ (es i).rC = 0 := fun h => by have := hok.rnone h; omega
      have CB1 := Lib.hid (fun (v : Nat) (hv : v < 4) (W : World) (h : Below wr.heap.size wr W) => bodyC (es i) A n c0 v m W ((hok.below h).up h.size) ((r0.below (Below.then_ bw h)).up (Nat.le_trans bw.size h.size)) HB.out HNO.out (by omega) hv)
      have CB2 := Lib.hid (fun (v : Nat) (hv : v < 4) (W : World) (h : Below wr.heap.size wr W) => bodyC (es i) A0 o d0 v mo W ((hok.below h).up h.size) ((r02.below (Below.then_ bw h)).up (Nat.le_trans bw.size h.size)) HB2.out HNO2.out (by omega) hv)
      have HBL1 : Hid (∀ v, (bd m v (es i)).length ≤ 1000) := fun v => by rw [bd_length, ← r0.len8]; omega
      have HBL2 : Hid (∀ v, (bd mo v (es i)).length ≤ 1000) := fun v => by rw [bd_length, ← r02.len8]; omega
      have HBB1 : Hid (∀ v, ∀ x ∈ bd m v (es i), x ≤ 1) := fun v => bd_bit m v (es i)
      have HBB2 : Hid (∀ v, ∀ x ∈ bd mo v (es i), x ≤ 1) := fun v => bd_bit mo v (es i)
      have d1 : decide ((i : Int) < (n1 : Int)) = true := by simp; omega
      have d2 : decide ((i : Int) < 9) = true := by simp; omega
      have pr0lt := pr.lt
      have qr0lt := qr.lt
      clear hcell hok hkR3
      generalize (es i).bs.take kR = rw0 at *
      generalize (es i).cells = E at *
      generalize (es i).r = er at *
      generalize (es i).v = ev at *
      generalize (es i).n = en at *
      generalize (es i).aA = aA at *
      generalize (es i).aL = aL at *
      generalize (es i).aC = aC at *
      generalize (es i).rA = rA at *
      generalize (es i).rL = rL at *
      generalize (es i).rC = rC at *
      go_upto_region 12 with fail
      go_upto_region 13 with (first | (refine at_load_mid rfl 37 _ rfl b (off + 5 * i) rfl E _ HRA.out Tryd.underlying37 rfl iE.out ?_) | (refine at_alloc rfl 37 rfl _ ZC_eq ?_; intro wa ha; have qa := ha.row) | (refine at_store rfl 37 _ _ rfl wr.heap.size E rfl rfl 37 _ qa iE.out HSZ.out hE1.out ?_; intro wc hc))
      have qc := hc.row
      have bwc : Below wr.heap.size wr wc := ha.bel.trans (hc.below (Nat.le_refl _))
      obtain ⟨gC, hgC⟩ : ∃ g, g = wr.heap.size := ⟨_, rfl⟩
      rw [← hgC] at qc
      rw [← hgC]
      have HGC := Lib.hid hgC
      have rR := (rR0.below bwc).up bwc.size
      clear ha hc qa hgC rR0
      have lgC := qc.lt
      have HK : Hid (∀ W, Below wc.heap.size wc W → Below wc.heap.size wc W ∧ W.cell? ⟨gC, 4, none⟩ = some (.int .i64 en) ∧ W.cell? ⟨gC, 1, none⟩ = some (.int .i64 ev) ∧ W.cell? ⟨gC, 3, none⟩ = some (.slice rA rL rC)) := fun W h => ⟨h, ((qc.after h).cell 4).trans HE4.out, ((qc.after h).cell 1).trans HE1.out, ((qc.after h).cell 3).trans HE3.out⟩
      have hS0 := HK.out wc.drew (below_drawn 1)
      refine wp_region_noPanic ?_
      refine wp_region_held_drew (S := fun W => Below wc.heap.size wc W ∧ W.cell? ⟨gC, 4, none⟩ = some (.int .i64 en) ∧ W.cell? ⟨gC, 1, none⟩ = some (.int .i64 ev) ∧ W.cell? ⟨gC, 3, none⟩ = some (.slice rA rL rC)) (by kernel_rfl) hS0 (fun hHeld => ?_)
      refine wpAnyH_take (i := 0) (oi := ⟨some 83, _, _, _, _, _⟩) (v := ?_) rfl (by kernel_rfl) (by kernel_rfl) (by kernel_rfl) (fun _ _ _ h => h) (Or.inl ⟨by rfl, ?_⟩) hHeld ?_
      rotate_left
      · intro W hSW; obtain ⟨hSW0, hSW1, hSW2, hSW3⟩ := hSW; go_simp; first | done | with_reducible rfl
      (try simp only [Act.put, List.setIfInBounds_toArray, List.set_cons_zero, List.set_cons_succ])
      refine wpAnyH_take (i := 1) (oi := ⟨some 84, _, _, _, _, _⟩) (v := ?_) rfl (by kernel_rfl) (by kernel_rfl) (by kernel_rfl) (fun _ _ _ h => h) (Or.inl ⟨by rfl, ?_⟩) hHeld ?_
      rotate_left
      · intro W hSW; obtain ⟨hSW0, hSW1, hSW2, hSW3⟩ := hSW; go_simp; first | done | with_reducible rfl
      (try simp only [Act.put, List.setIfInBounds_toArray, List.set_cons_zero, List.set_cons_succ])
      refine wpAnyH_take (i := 2) (oi := ⟨some 85, _, _, _, _, _⟩) (v := ?_) rfl (by kernel_rfl) (by kernel_rfl) (by kernel_rfl) (fun _ _ _ h => h) (Or.inl ⟨by rfl, ?_⟩) hHeld ?_
      rotate_left
      · intro W hSW; obtain ⟨hSW0, hSW1, hSW2, hSW3⟩ := hSW; go_simp; first | done | with_reducible rfl
      (try simp only [Act.put, List.setIfInBounds_toArray, List.set_cons_zero, List.set_cons_succ])
      refine wpAnyH_take (i := 3) (oi := ⟨some 86, _, _, _, _, _⟩) (v := ?_) rfl (by kernel_rfl) (by kernel_rfl) (by kernel_rfl) (fun _ _ _ h => h) (Or.inl ⟨by rfl, ?_⟩) hHeld ?_
      rotate_left
      · intro W hSW; obtain ⟨hSW0, hSW1, hSW2, hSW3⟩ := hSW; go_simp; first | done | with_reducible rfl
      (try simp only [Act.put, List.setIfInBounds_toArray, List.set_cons_zero, List.set_cons_succ])
      refine wpAnyH_take (i := 5) (oi := ⟨some 88, _, _, _, _, _⟩) (v := ?_) rfl (by kernel_rfl) (by kernel_rfl) (by kernel_rfl) (fun _ _ _ h => h) (Or.inl ⟨by rfl, ?_⟩) hHeld ?_
      rotate_left
      · intro W hSW; obtain ⟨hSW0, hSW1, hSW2, hSW3⟩ := hSW; go_simp; first | done | with_reducible rfl
      (try simp only [Act.put, List.setIfInBounds_toArray, List.set_cons_zero, List.set_cons_succ])
      refine wpAnyH_take (i := 6) (oi := ⟨some 89, _, _, _, _, _⟩) (v := ?_) rfl (by kernel_rfl) (by kernel_rfl) (by kernel_rfl) (fun _ _ _ h => h) (Or.inl ⟨by rfl, ?_⟩) hHeld ?_
      rotate_left
      · intro W hSW; obtain ⟨hSW0, hSW1, hSW2, hSW3⟩ := hSW; go_simp; first | done | with_reducible rfl
      (try simp only [Act.put, List.setIfInBounds_toArray, List.set_cons_zero, List.set_cons_succ])
      refine wpAnyH_take (i := 7) (oi := ⟨some 90, _, _, _, _, _⟩) (v := ?_) rfl (by kernel_rfl) (by kernel_rfl) (by kernel_rfl) (fun _ _ _ h => h) (Or.inl ⟨by rfl, ?_⟩) hHeld ?_
      rotate_left
      · intro W hSW; obtain ⟨hSW0, hSW1, hSW2, hSW3⟩ := hSW; go_simp; first | done | with_reducible rfl
      (try simp only [Act.put, List.setIfInBounds_toArray, List.set_cons_zero, List.set_cons_succ])
      refine wpAnyH_take (i := 8) (oi := ⟨some 91, _, _, _, _, _⟩) (v := ?_) rfl (by kernel_rfl) (by kernel_rfl) (by kernel_rfl) (fun _ _ _ h => h) (Or.inl ⟨by rfl, ?_⟩) hHeld ?_
      rotate_left
      · intro W hSW; obtain ⟨hSW0, hSW1, hSW2, hSW3⟩ := hSW; go_simp; first | done | with_reducible rfl
      (try simp only [Act.put, List.setIfInBounds_toArray, List.set_cons_zero, List.set_cons_succ])
      refine wpAnyH_take (i := 9) (oi := ⟨some 92, _, _, _, _, _⟩) (v := ?_) rfl (by kernel_rfl) (by kernel_rfl) (by kernel_rfl) (fun _ _ _ h => h) (Or.inl ⟨by rfl, ?_⟩) hHeld ?_
      rotate_left
      · intro W hSW; obtain ⟨hSW0, hSW1, hSW2, hSW3⟩ := hSW; go_simp; first | done | with_reducible rfl
      (try simp only [Act.put, List.setIfInBounds_toArray, List.set_cons_zero, List.set_cons_succ])
      refine wpAnyH_take (i := 10) (oi := ⟨some 93, _, _, _, _, _⟩) (v := ?_) rfl (by kernel_rfl) (by kernel_rfl) (by kernel_rfl) (fun _ _ _ h => h) (Or.inl ⟨by rfl, ?_⟩) hHeld ?_
      rotate_left
      · intro W hSW; obtain ⟨hSW0, hSW1, hSW2, hSW3⟩ := hSW; go_simp; first | done | with_reducible rfl
      (try simp only [Act.put, List.setIfInBounds_toArray, List.set_cons_zero, List.set_cons_succ])
      refine wpAnyH_take (i := 11) (oi := ⟨some 94, _, _, _, _, _⟩) (v := ?_) rfl (by kernel_rfl) (by kernel_rfl) (by kernel_rfl) (fun _ _ _ h => h) (Or.inl ⟨by rfl, ?_⟩) hHeld ?_
      rotate_left
      · intro W hSW; obtain ⟨hSW0, hSW1, hSW2, hSW3⟩ := hSW; go_simp; first | done | with_reducible rfl
      (try simp only [Act.put, List.setIfInBounds_toArray, List.set_cons_zero, List.set_cons_succ])
      refine wpAnyH_ready (rs := [4]) (by kernel_rfl) (by simp) ?_
      refine AllReadyH.cons (o := ⟨some 87, _, _, _, _, _⟩) rfl (fun K hK => ?_) (AllReadyH.nil)
      refine step_none (by rfl) 22 5 (by rfl) i0 Tryd.underlying22 hi0 ?_
      intro wE oE bE sE
      have bE2 := Below.then_ hHeld.1 bE
      have hWs := hHeld.1.size
      clear hHeld
      refine hK.out _ _ ?_ (fun hHeld => ?_)
      · exact HK.out _ bE2
      clear hK K
      (try simp only [Act.put, List.setIfInBounds_toArray, List.set_cons_zero, List.set_cons_succ])
      refine wpAnyH_ready (rs := [12]) (by kernel_rfl) (by simp) ?_
      refine AllReadyH.cons (o := ⟨some 95, _, _, _, _, _⟩) rfl (fun K hK => ?_) (AllReadyH.nil)
      refine step_app (by rfl) _ _ 22 (by rfl) _ 5 i0 _ 1 Tryd.underlying22 hi0 hz0 hz1 hz2 rfl _ 0 0 [] (by rfl) oE _ rA kR rC (U8 rw0) (by rfl) (rR.below bE2) hnoR (U8_one _) (by omega) (by unfold maxLen; omega) (by rw [sE]; omega) ?_
      intro Ab cb wb hob hgb hAk
      have ob := hob.to (Nat.zero_add kR) (List.nil_append (U8 rw0))
      have bb2 := bE2.grown hgb bE2.size (fun j hj => by simp [Value.ownBlock] at hj; omega)
      clear hHeld hob hgb hAk
      refine hK.out _ _ ?_ (fun hHeld => ?_)
      · exact HK.out _ bb2
      clear hK K
      (try simp only [Act.put, List.setIfInBounds_toArray, List.set_cons_zero, List.set_cons_succ])
      refine wpAnyH_take (i := 13) (oi := ⟨some 14, _, _, _, _, _⟩) (v := ?_) rfl (by kernel_rfl) (by kernel_rfl) (by kernel_rfl) (fun _ _ _ h => h) (Or.inl ⟨by rfl, ?_⟩) hHeld ?_
      rotate_left
      · intro W hSW; obtain ⟨hSW0, hSW1, hSW2, hSW3⟩ := hSW; go_simp; first | done | with_reducible rfl
      (try simp only [Act.put, List.setIfInBounds_toArray, List.set_cons_zero, List.set_cons_succ])
      refine wpAnyH_take (i := 14) (oi := ⟨some 15, _, _, _, _, _⟩) (v := ?_) rfl (by kernel_rfl) (by kernel_rfl) (by kernel_rfl) (fun _ _ _ h => h) (Or.inl ⟨by rfl, ?_⟩) hHeld ?_
      rotate_left
      · intro W hSW; obtain ⟨hSW0, hSW1, hSW2, hSW3⟩ := hSW; go_simp; first | done | with_reducible rfl
      (try simp only [Act.put, List.setIfInBounds_toArray, List.set_cons_zero, List.set_cons_succ])
      refine wpAnyH_take (i := 15) (oi := ⟨some 16, _, _, _, _, _⟩) (v := ?_) rfl (by kernel_rfl) (by kernel_rfl) (by kernel_rfl) (fun _ _ _ h => h) (Or.inl ⟨by rfl, ?_⟩) hHeld ?_
      rotate_left
      · intro W hSW; obtain ⟨hSW0, hSW1, hSW2, hSW3⟩ := hSW; go_simp; first | done | with_reducible rfl
      (try simp only [Act.put, List.setIfInBounds_toArray, List.set_cons_zero, List.set_cons_succ])
      refine wpAnyH_done (by kernel_rfl) ?_ _
      refine NoPanic.normal ?_
      clear hHeld
      have bwb := Below.then_ bwc bb2
      have qb := qc.after bb2
      have k0b : wb.cell? ⟨gC, 0, none⟩ = some (.bool er) := (qb.cell 0).trans HE0.out
      have k2b : wb.cell? ⟨gC, 2, none⟩ = some (.slice aA aL aC) := (qb.cell 2).trans HE2.out
      clear HK hS0 hm5 hm6 oE bE bE2 sE hWs
      by_cases hg : 0 < aL
      · by_cases hv1 : 0 ≤ ev
        · by_cases hv2 : ev < 4
          · obtain ⟨v, hvv⟩ : ∃ v : Nat, ev = (v : Int) := ⟨ev.toNat, by omega⟩
            subst hvv
            have hv : v < 4 := by omega
            have C1 := Lib.hid (CB1.out v hv wb bwb)
            have dg : decide ((0 : Int) < (aL : Int)) = true := by simp; omega
            have dv1 : decide ((0 : Int) ≤ (v : Int)) = true := by simp
            have dv2 : decide ((v : Int) < 4) = true := by simp; omega
            go_upto_region 16 with (first | (refine at_load rfl 37 _ rfl gC rfl 37 E _ qb Tryd.underlying37 rfl iE.out ?_) | (go_at_call 20; refine C1.out.mono ?_; rintro e w5 ⟨A5, k5, c5, rfl, own5, b5⟩))
            have bw5 := Below.then_ bwb b5
            have q5 := qb.after b5
            have k05 : w5.cell? ⟨gC, 0, none⟩ = some (.bool er) := (q5.cell 0).trans HE0.out
            cases er with
            | false =>
              have rb := own5.rd
              have hnb : A5 = none → k5 = 0 := fun e => (own5.none_ e).1
              have hb256 : ∀ b ∈ (bd m v (es i)), b < 256 := bit256 (HBB1.out v)
              have hkb : k5 ≤ 65536 := by rw [own5.rd.len8]; have := HBL1.out v; omega
              have hAb : ∀ b off, A5 = some ⟨b, off, none⟩ → wr.heap.size ≤ b := fun b off e => by have := (own5.block b (by rw [e]; rfl)).1; have := bwb.size; omega
              have prt := pr.after bw5
              have qrt := qr.after bw5
              have bwt := Below.then_ bw bw5
              clear own5 ob qb k0b
              have kcb := rb.conv (c := c5) hnb w5 (Below.refl _ _)
              have bwt2 := bwt
              have K1 := Lib.hid (offerN w5 P gP np row d (n : Int) (v : Int) A5 k5 c5 (bd m v (es i)) prt rb hb256 hkb (fun b off e h => by have := prt.lt b h; have := hAb b off e; have := pr0lt b h; omega) (fun h => by have := (hP 0 h).1; omega) (hT.after bwt))
              have K2 := Lib.hid (fun (W : World) (hk : Kr w5 W P) => docN W Q gQ np row d (n : Int) (v : Int) A5 k5 c5 (bd m v (es i)) (qrt.of_heap (fun k hk2 => hk.block k (qrt.lt k hk2) (fun h => (hP k h).2 hk2)) hk.size) hrl (rb.krA hk (fun b off e h => by have := hAb b off e; have := pr0lt b h; omega)) hb256 hkb (fun b off e h => by have := hAb b off e; have := qr0lt b h; omega))
              have HNL := Lib.hid (nxt_len np row d (n : Int) (v : Int) k5 (bd m v (es i)) hrl)
              obtain ⟨sb, hsb⟩ : ∃ s, s = str (bd m v (es i)) := ⟨_, rfl⟩
              rw [← hsb] at kcb
              have HSB := Lib.hid hsb
              clear hsb
              generalize nxt np row d (n : Int) (v : Int) k5 (bd m v (es i)) = X at *
              go_upto_region 19 with fail
              go_wp2_with fail
              refine K1.out.mono ?_
              rintro e w1 ⟨⟨A1, k1, c1, rfl, rd1, hno1, hA1⟩, ⟨P1, hP1, p1⟩, kr1⟩
              have K2' := Lib.hid (K2.out w1 kr1)
              go_wp2_with fail
              refine K2'.out.mono ?_
              rintro e w2 ⟨⟨A2, k2, c2, rfl, rd2, hno2⟩, ⟨Q2, hQ2, q2⟩, kr2⟩
              have rb1 := rb.krA kr1 (fun b off e h => by have := hAb b off e; have := pr0lt b h; omega)
              have rb2 := rb1.krA kr2 (fun b off e h => by have := hAb b off e; have := qr0lt b h; omega)
              have rd12 := rd1.krA kr2 (fun b off e h => by have := hA1 b off e; have := qrt.lt b h; omega)
              have hs1 := kr1.size
              have hs2 := kr2.size
              have HP1 : Hid (∀ k, P1 k → w.heap.size ≤ k ∧ ¬ Q k) := fun k hk => by
                rcases hP1 k hk with h | h
                · exact hP k h
                · have := bwt.size
                  exact ⟨by omega, fun hq => by have := qrt.lt k hq; omega⟩
              have p2 := p1.of_heap (w' := w2) (fun k hk => kr2.block k (p1.lt k hk) (HP1.out k hk).2) hs2
              have HP2 : Hid (∀ k, P1 k → w.heap.size ≤ k ∧ ¬ Q2 k) := fun k hk => ⟨(HP1.out k hk).1, fun hq => by
                rcases hQ2 k hq with h | h
                · exact (HP1.out k hk).2 h
                · have := p1.lt k hk; omega⟩
              have HQ2 : Hid (∀ k, Q2 k → w.heap.size ≤ k) := fun k hk => by
                rcases hQ2 k hk with h | h
                · exact hQ k h
                · have := bwt.size; omega
              have bw2 : Below w.heap.size w w2 := (bwt.trans (kr1.below (fun k hk => (hP k hk).1) bwt.size)).trans (kr2.below hQ (by have := bwt.size; omega))
              have HCX : Hid (∀ W, Below w2.heap.size w2 W → (convert 22 9 (.slice A1 k1 c1)).run Tryd.prog W = .ok (.string (str X.s)) W) := fun W hW => rd12.conv (c := c1) hno1 W hW
              have HCY : Hid (∀ W, Below w2.heap.size w2 W → (convert 22 9 (.slice A2 k2 c2)).run Tryd.prog W = .ok (.string (str X.s)) W) := fun W hW => rd2.conv (c := c2) hno2 W hW
              have HCB : Hid (∀ W, Below w2.heap.size w2 W → (convert 22 9 (.slice A5 k5 c5)).run Tryd.prog W = .ok (.string sb) W) := fun W hW => by rw [HSB.out]; exact rb2.conv (c := c5) hnb W hW
              have HCE : Hid (∀ W, Below w2.heap.size w2 W → W.cell? ⟨gQ, 3, none⟩ = some (.bool X.d) ∧ W.cell? ⟨gQ, 2, none⟩ = some (.int .i64 ((X.row.length : Nat) : Int)) ∧ W.cell? ⟨gQ, 0, none⟩ = some (.int .i64 (X.n : Int))) := fun W hW => (q2.after hW).cells
              have CDn := Lib.hid (fun (W : World) (h : Below w2.heap.size w2 W) => hDone W P1 gP X.n X.row X.d (p2.after h))
              have CCm := Lib.hid (fun (W : World) (h : Below w2.heap.size w2 W) => hCame W P1 gP X.n X.row X.d (p2.after h))
              have CLn := Lib.hid (fun (W : World) (h : Below w2.heap.size w2 W) => hLen W P1 gP X.n X.row X.d (p2.after h))
              have HEND : Hid (∀ W, Below w2.heap.size w2 W → ∃ (np2 : Nat) (row2 : List (Nat × List Nat)) (d2 : Bool) (PP QQ : Nat → Prop), PrS W PP gP np2 row2 d2 ∧ QrS W QQ gQ np2 row2 d2 ∧ row2.length ≤ 16 ∧ (∀ k, PP k → w.heap.size ≤ k ∧ ¬ QQ k) ∧ (∀ k, QQ k → w.heap.size ≤ k) ∧ Below w.heap.size w W) := fun W hW => ⟨X.n, X.row, X.d, P1, Q2, p2.after hW, q2.after hW, HNL.out, HP2.out, HQ2.out, Below.then_ bw2 hW⟩
              clear HP1 HP2 HQ2 p1 p2 q2 kr1 kr2 rb1 rb2 rd1 rd12 rd2 K1 K2 K2' bw2 HNL kcb
              obtain ⟨sx, hsx⟩ : ∃ s, s = str X.s := ⟨_, rfl⟩
              rw [← hsx] at HCX HCY
              generalize X.g = xg at *
              generalize X.d = xd at *
              generalize X.row.length = xl at *
              generalize X.n = xn at *
              have t1 : (sx.toList != sx.toList) = false := by simp
              have t2 : (xg != xg) = false := by simp
              have t3 : (sb.toList != sb.toList) = false := by simp
              have t4 : (xd != xd) = false := by simp
              have t5 : ((xl : Int) != (xl : Int)) = false := by simp
              have t6 : ((xn : Int) != (xn : Int)) = false := by simp
              have HK : Hid (∀ W, Below w2.heap.size w2 W → Below w2.heap.size w2 W ∧ (convert 22 9 (.slice A1 k1 c1)).run Tryd.prog W = .ok (.string sx) W ∧ (convert 22 9 (.slice A2 k2 c2)).run Tryd.prog W = .ok (.string sx) W ∧ (convert 22 9 (.slice A5 k5 c5)).run Tryd.prog W = .ok (.string sb) W ∧ W.cell? ⟨gQ, 3, none⟩ = some (.bool xd) ∧ W.cell? ⟨gQ, 2, none⟩ = some (.int .i64 (xl : Int)) ∧ W.cell? ⟨gQ, 0, none⟩ = some (.int .i64 (xn : Int))) := fun W h => ⟨h, HCX.out W h, HCY.out W h, HCB.out W h, (HCE.out W h).1, (HCE.out W h).2.1, (HCE.out W h).2.2⟩
              have hS0 := HK.out w2.drew (below_drawn 1)
              clear hsx HCX HCY HCB HCE
              go_upto_region 21 with fail
              refine wp_region_noPanic ?_
              refine wp_region_held_drew (S := fun W => Below w2.heap.size w2 W ∧ (convert 22 9 (.slice A1 k1 c1)).run Tryd.prog W = .ok (.string sx) W ∧ (convert 22 9 (.slice A2 k2 c2)).run Tryd.prog W = .ok (.string sx) W ∧ (convert 22 9 (.slice A5 k5 c5)).run Tryd.prog W = .ok (.string sb) W ∧ W.cell? ⟨gQ, 3, none⟩ = some (.bool xd) ∧ W.cell? ⟨gQ, 2, none⟩ = some (.int .i64 (xl : Int)) ∧ W.cell? ⟨gQ, 0, none⟩ = some (.int .i64 (xn : Int))) (by kernel_rfl) hS0 (fun hHeld => ?_)
              refine wpAnyH_take (i := 0) (oi := ⟨some 140, _, _, _, _, _⟩) (v := ?_) rfl (by kernel_rfl) (by kernel_rfl) (by kernel_rfl) (fun _ _ _ h => h) (Or.inl ⟨by rfl, ?_⟩) hHeld ?_
              rotate_left
              · intro W hSW; obtain ⟨hSW0, hSW1, hSW2, hSW3, hSW4, hSW5, hSW6⟩ := hSW; go_simp; first | done | with_reducible rfl
              (try simp only [Act.put, List.setIfInBounds_toArray, List.set_cons_zero, List.set_cons_succ])
              refine wpAnyH_take (i := 1) (oi := ⟨some 141, _, _, _, _, _⟩) (v := ?_) rfl (by kernel_rfl) (by kernel_rfl) (by kernel_rfl) (fun _ _ _ h => h) (Or.inl ⟨by rfl, ?_⟩) hHeld ?_
              rotate_left
              · intro W hSW; obtain ⟨hSW0, hSW1, hSW2, hSW3, hSW4, hSW5, hSW6⟩ := hSW; go_simp; first | done | with_reducible rfl
              (try simp only [Act.put, List.setIfInBounds_toArray, List.set_cons_zero, List.set_cons_succ])
              refine wpAnyH_take (i := 2) (oi := ⟨some 142, _, _, _, _, _⟩) (v := ?_) rfl (by kernel_rfl) (by kernel_rfl) (by kernel_rfl) (fun _ _ _ h => h) (Or.inl ⟨by rfl, ?_⟩) hHeld ?_
              rotate_left
              · intro W hSW; obtain ⟨hSW0, hSW1, hSW2, hSW3, hSW4, hSW5, hSW6⟩ := hSW; go_simp; first | done | with_reducible rfl
              (try simp only [Act.put, List.setIfInBounds_toArray, List.set_cons_zero, List.set_cons_succ])
              refine wpAnyH_take (i := 3) (oi := ⟨some 143, _, _, _, _, _⟩) (v := ?_) rfl (by kernel_rfl) (by kernel_rfl) (by kernel_rfl) (fun _ _ _ h => h) (Or.inl ⟨by rfl, ?_⟩) hHeld ?_
              rotate_left
              · intro W hSW; obtain ⟨hSW0, hSW1, hSW2, hSW3, hSW4, hSW5, hSW6⟩ := hSW; go_simp; first | done | with_reducible rfl
              (try simp only [Act.put, List.setIfInBounds_toArray, List.set_cons_zero, List.set_cons_succ])
              refine wpAnyH_take (i := 4) (oi := ⟨some 144, _, _, _, _, _⟩) (v := ?_) rfl (by kernel_rfl) (by kernel_rfl) (by kernel_rfl) (fun _ _ _ h => h) (Or.inl ⟨by rfl, ?_⟩) hHeld ?_
              rotate_left
              · intro W hSW; obtain ⟨hSW0, hSW1, hSW2, hSW3, hSW4, hSW5, hSW6⟩ := hSW; go_simp; first | done | with_reducible rfl
              (try simp only [Act.put, List.setIfInBounds_toArray, List.set_cons_zero, List.set_cons_succ])
              refine wpAnyH_take (i := 5) (oi := ⟨some 145, _, _, _, _, _⟩) (v := ?_) rfl (by kernel_rfl) (by kernel_rfl) (by kernel_rfl) (fun _ _ _ h => h) (Or.inl ⟨by rfl, ?_⟩) hHeld ?_
              rotate_left
              · intro W hSW; obtain ⟨hSW0, hSW1, hSW2, hSW3, hSW4, hSW5, hSW6⟩ := hSW; go_simp; first | done | with_reducible rfl
              (try simp only [Act.put, List.setIfInBounds_toArray, List.set_cons_zero, List.set_cons_succ])
              refine wpAnyH_take (i := 6) (oi := ⟨some 146, _, _, _, _, _⟩) (v := ?_) rfl (by kernel_rfl) (by kernel_rfl) (by kernel_rfl) (fun _ _ _ h => h) (Or.inl ⟨by rfl, ?_⟩) hHeld ?_
              rotate_left
              · intro W hSW; obtain ⟨hSW0, hSW1, hSW2, hSW3, hSW4, hSW5, hSW6⟩ := hSW; go_simp; first | done | with_reducible rfl
              (try simp only [Act.put, List.setIfInBounds_toArray, List.set_cons_zero, List.set_cons_succ])
              refine wpAnyH_take (i := 7) (oi := ⟨some 147, _, _, _, _, _⟩) (v := ?_) rfl (by kernel_rfl) (by kernel_rfl) (by kernel_rfl) (fun _ _ _ h => h) (Or.inl ⟨by rfl, ?_⟩) hHeld ?_
              rotate_left
              · intro W hSW; obtain ⟨hSW0, hSW1, hSW2, hSW3, hSW4, hSW5, hSW6⟩ := hSW; go_simp; first | done | with_reducible rfl
              (try simp only [Act.put, List.setIfInBounds_toArray, List.set_cons_zero, List.set_cons_succ])
              refine wpAnyH_take (i := 8) (oi := ⟨some 148, _, _, _, _, _⟩) (v := ?_) rfl (by kernel_rfl) (by kernel_rfl) (by kernel_rfl) (fun _ _ _ h => h) (Or.inl ⟨by rfl, ?_⟩) hHeld ?_
              rotate_left
              · intro W hSW; obtain ⟨hSW0, hSW1, hSW2, hSW3, hSW4, hSW5, hSW6⟩ := hSW; go_simp; first | done | with_reducible rfl
              (try simp only [Act.put, List.setIfInBounds_toArray, List.set_cons_zero, List.set_cons_succ])
              refine wpAnyH_take (i := 9) (oi := ⟨some 149, _, _, _, _, _⟩) (v := ?_) rfl (by kernel_rfl) (by kernel_rfl) (by kernel_rfl) (fun _ _ _ h => h) (Or.inl ⟨by rfl, ?_⟩) hHeld ?_
              rotate_left
              · intro W hSW; obtain ⟨hSW0, hSW1, hSW2, hSW3, hSW4, hSW5, hSW6⟩ := hSW; go_simp; first | done | with_reducible rfl
              (try simp only [Act.put, List.setIfInBounds_toArray, List.set_cons_zero, List.set_cons_succ])
              refine wpAnyH_take (i := 10) (oi := ⟨some 150, _, _, _, _, _⟩) (v := ?_) rfl (by kernel_rfl) (by kernel_rfl) (by kernel_rfl) (fun _ _ _ h => h) (Or.inl ⟨by rfl, ?_⟩) hHeld ?_
              rotate_left
              · intro W hSW; obtain ⟨hSW0, hSW1, hSW2, hSW3, hSW4, hSW5, hSW6⟩ := hSW; go_simp; first | done | with_reducible rfl
              (try simp only [Act.put, List.setIfInBounds_toArray, List.set_cons_zero, List.set_cons_succ])
              refine wpAnyH_take (i := 11) (oi := ⟨some 151, _, _, _, _, _⟩) (v := ?_) rfl (by kernel_rfl) (by kernel_rfl) (by kernel_rfl) (fun _ _ _ h => h) (Or.inl ⟨by rfl, ?_⟩) hHeld ?_
              rotate_left
              · intro W hSW; obtain ⟨hSW0, hSW1, hSW2, hSW3, hSW4, hSW5, hSW6⟩ := hSW; go_simp; first | done | with_reducible rfl
              (try simp only [Act.put, List.setIfInBounds_toArray, List.set_cons_zero, List.set_cons_succ])
              refine wpAnyH_take (i := 12) (oi := ⟨some 152, _, _, _, _, _⟩) (v := ?_) rfl (by kernel_rfl) (by kernel_rfl) (by kernel_rfl) (fun _ _ _ h => h) (Or.inl ⟨by rfl, ?_⟩) hHeld ?_
              rotate_left
              · intro W hSW; obtain ⟨hSW0, hSW1, hSW2, hSW3, hSW4, hSW5, hSW6⟩ := hSW; go_simp; first | done | with_reducible rfl
              (try simp only [Act.put, List.setIfInBounds_toArray, List.set_cons_zero, List.set_cons_succ])
              refine wpAnyH_take (i := 13) (oi := ⟨some 153, _, _, _, _, _⟩) (v := ?_) rfl (by kernel_rfl) (by kernel_rfl) (by kernel_rfl) (fun _ _ _ h => h) (Or.inl ⟨by rfl, ?_⟩) hHeld ?_
              rotate_left
              · intro W hSW; obtain ⟨hSW0, hSW1, hSW2, hSW3, hSW4, hSW5, hSW6⟩ := hSW; go_simp; first | done | with_reducible rfl
              (try simp only [Act.put, List.setIfInBounds_toArray, List.set_cons_zero, List.set_cons_succ])
              refine wpAnyH_take (i := 14) (oi := ⟨some 154, _, _, _, _, _⟩) (v := ?_) rfl (by kernel_rfl) (by kernel_rfl) (by kernel_rfl) (fun _ _ _ h => h) (Or.inl ⟨by rfl, ?_⟩) hHeld ?_
              rotate_left
              · intro W hSW; obtain ⟨hSW0, hSW1, hSW2, hSW3, hSW4, hSW5, hSW6⟩ := hSW; go_simp; first | done | with_reducible rfl
              (try simp only [Act.put, List.setIfInBounds_toArray, List.set_cons_zero, List.set_cons_succ])
              refine wpAnyH_take (i := 15) (oi := ⟨some 155, _, _, _, _, _⟩) (v := ?_) rfl (by kernel_rfl) (by kernel_rfl) (by kernel_rfl) (fun _ _ _ h => h) (Or.inl ⟨by rfl, ?_⟩) hHeld ?_
              rotate_left
              · intro W hSW; obtain ⟨hSW0, hSW1, hSW2, hSW3, hSW4, hSW5, hSW6⟩ := hSW; go_simp; first | done | with_reducible rfl
              (try simp only [Act.put, List.setIfInBounds_toArray, List.set_cons_zero, List.set_cons_succ])
              refine wpAnyH_take (i := 16) (oi := ⟨some 156, _, _, _, _, _⟩) (v := ?_) rfl (by kernel_rfl) (by kernel_rfl) (by kernel_rfl) (fun _ _ _ h => h) (Or.inl ⟨by rfl, ?_⟩) hHeld ?_
              rotate_left
              · intro W hSW; obtain ⟨hSW0, hSW1, hSW2, hSW3, hSW4, hSW5, hSW6⟩ := hSW; go_simp; first | done | with_reducible rfl
              (try simp only [Act.put, List.setIfInBounds_toArray, List.set_cons_zero, List.set_cons_succ])
              refine wpAnyH_take (i := 17) (oi := ⟨some 157, _, _, _, _, _⟩) (v := ?_) rfl (by kernel_rfl) (by kernel_rfl) (by kernel_rfl) (fun _ _ _ h => h) (Or.inl ⟨by rfl, ?_⟩) hHeld ?_
              rotate_left
              · intro W hSW; obtain ⟨hSW0, hSW1, hSW2, hSW3, hSW4, hSW5, hSW6⟩ := hSW; go_simp; first | done | with_reducible rfl
              (try simp only [Act.put, List.setIfInBounds_toArray, List.set_cons_zero, List.set_cons_succ])
              refine wpAnyH_take (i := 19) (oi := ⟨some 159, _, _, _, _, _⟩) (v := ?_) rfl (by kernel_rfl) (by kernel_rfl) (by kernel_rfl) (fun _ _ _ h => h) (Or.inl ⟨by rfl, ?_⟩) hHeld ?_
              rotate_left
              · intro W hSW; obtain ⟨hSW0, hSW1, hSW2, hSW3, hSW4, hSW5, hSW6⟩ := hSW; go_simp; first | done | with_reducible rfl
              (try simp only [Act.put, List.setIfInBounds_toArray, List.set_cons_zero, List.set_cons_succ])
              refine wpAnyH_take (i := 20) (oi := ⟨some 160, _, _, _, _, _⟩) (v := ?_) rfl (by kernel_rfl) (by kernel_rfl) (by kernel_rfl) (fun _ _ _ h => h) (Or.inl ⟨by rfl, ?_⟩) hHeld ?_
              rotate_left
              · intro W hSW; obtain ⟨hSW0, hSW1, hSW2, hSW3, hSW4, hSW5, hSW6⟩ := hSW; go_simp; first | done | with_reducible rfl
              (try simp only [Act.put, List.setIfInBounds_toArray, List.set_cons_zero, List.set_cons_succ])
              refine wpAnyH_take (i := 21) (oi := ⟨some 161, _, _, _, _, _⟩) (v := ?_) rfl (by kernel_rfl) (by kernel_rfl) (by kernel_rfl) (fun _ _ _ h => h) (Or.inl ⟨by rfl, ?_⟩) hHeld ?_
              rotate_left
              · intro W hSW; obtain ⟨hSW0, hSW1, hSW2, hSW3, hSW4, hSW5, hSW6⟩ := hSW; go_simp; first | done | with_reducible rfl
              (try simp only [Act.put, List.setIfInBounds_toArray, List.set_cons_zero, List.set_cons_succ])
              refine wpAnyH_take (i := 22) (oi := ⟨some 162, _, _, _, _, _⟩) (v := ?_) rfl (by kernel_rfl) (by kernel_rfl) (by kernel_rfl) (fun _ _ _ h => h) (Or.inl ⟨by rfl, ?_⟩) hHeld ?_
              rotate_left
              · intro W hSW; obtain ⟨hSW0, hSW1, hSW2, hSW3, hSW4, hSW5, hSW6⟩ := hSW; go_simp; first | done | with_reducible rfl
              (try simp only [Act.put, List.setIfInBounds_toArray, List.set_cons_zero, List.set_cons_succ])
              refine wpAnyH_ready (rs := [18]) (by kernel_rfl) (by simp) ?_
              refine AllReadyH.cons (o := ⟨some 158, _, _, _, _, _⟩) rfl (fun K hK => ?_) (AllReadyH.nil)
              go_simp
              refine (CDn.out _ hHeld.1).mono ?_
              rintro e W' ⟨rfl, rfl⟩
              have hS2 := hHeld
              clear hHeld
              refine hK.out _ _ ?_ (fun hHeld => ?_)
              · exact hS2
              clear hK K
              (try simp only [Act.put, List.setIfInBounds_toArray, List.set_cons_zero, List.set_cons_succ])
              clear hS2
              refine wpAnyH_take (i := 23) (oi := ⟨some 163, _, _, _, _, _⟩) (v := ?_) rfl (by kernel_rfl) (by kernel_rfl) (by kernel_rfl) (fun _ _ _ h => h) (Or.inl ⟨by rfl, ?_⟩) hHeld ?_
              rotate_left
              · intro W hSW; obtain ⟨hSW0, hSW1, hSW2, hSW3, hSW4, hSW5, hSW6⟩ := hSW; go_simp; first | done | with_reducible rfl
              (try simp only [Act.put, List.setIfInBounds_toArray, List.set_cons_zero, List.set_cons_succ])
              refine wpAnyH_take (i := 24) (oi := ⟨some 164, _, _, _, _, _⟩) (v := ?_) rfl (by kernel_rfl) (by kernel_rfl) (by kernel_rfl) (fun _ _ _ h => h) (Or.inl ⟨by rfl, ?_⟩) hHeld ?_
              rotate_left
              · intro W hSW; obtain ⟨hSW0, hSW1, hSW2, hSW3, hSW4, hSW5, hSW6⟩ := hSW; go_simp; first | done | with_reducible rfl
              (try simp only [Act.put, List.setIfInBounds_toArray, List.set_cons_zero, List.set_cons_succ])
              refine wpAnyH_take (i := 25) (oi := ⟨some 165, _, _, _, _, _⟩) (v := ?_) rfl (by kernel_rfl) (by kernel_rfl) (by kernel_rfl) (fun _ _ _ h => h) (Or.inl ⟨by rfl, ?_⟩) hHeld ?_
              rotate_left
              · intro W hSW; obtain ⟨hSW0, hSW1, hSW2, hSW3, hSW4, hSW5, hSW6⟩ := hSW; go_simp; first | done | with_reducible rfl
              (try simp only [Act.put, List.setIfInBounds_toArray, List.set_cons_zero, List.set_cons_succ])
              refine wpAnyH_take (i := 26) (oi := ⟨some 166, _, _, _, _, _⟩) (v := ?_) rfl (by kernel_rfl) (by kernel_rfl) (by kernel_rfl) (fun _ _ _ h => h) (Or.inl ⟨by rfl, ?_⟩) hHeld ?_
              rotate_left
              · intro W hSW; obtain ⟨hSW0, hSW1, hSW2, hSW3, hSW4, hSW5, hSW6⟩ := hSW; go_simp; first | done | with_reducible rfl
              (try simp only [Act.put, List.setIfInBounds_toArray, List.set_cons_zero, List.set_cons_succ])
              refine wpAnyH_take (i := 28) (oi := ⟨some 168, _, _, _, _, _⟩) (v := ?_) rfl (by kernel_rfl) (by kernel_rfl) (by kernel_rfl) (fun _ _ _ h => h) (Or.inl ⟨by rfl, ?_⟩) hHeld ?_
              rotate_left
              · intro W hSW; obtain ⟨hSW0, hSW1, hSW2, hSW3, hSW4, hSW5, hSW6⟩ := hSW; go_simp; first | done | with_reducible rfl
              (try simp only [Act.put, List.setIfInBounds_toArray, List.set_cons_zero, List.set_cons_succ])
              refine wpAnyH_take (i := 29) (oi := ⟨some 169, _, _, _, _, _⟩) (v := ?_) rfl (by kernel_rfl) (by kernel_rfl) (by kernel_rfl) (fun _ _ _ h => h) (Or.inl ⟨by rfl, ?_⟩) hHeld ?_
              rotate_left
              · intro W hSW; obtain ⟨hSW0, hSW1, hSW2, hSW3, hSW4, hSW5, hSW6⟩ := hSW; go_simp; first | done | with_reducible rfl
              (try simp only [Act.put, List.setIfInBounds_toArray, List.set_cons_zero, List.set_cons_succ])
              refine wpAnyH_take (i := 30) (oi := ⟨some 170, _, _, _, _, _⟩) (v := ?_) rfl (by kernel_rfl) (by kernel_rfl) (by kernel_rfl) (fun _ _ _ h => h) (Or.inl ⟨by rfl, ?_⟩) hHeld ?_
              rotate_left
              · intro W hSW; obtain ⟨hSW0, hSW1, hSW2, hSW3, hSW4, hSW5, hSW6⟩ := hSW; go_simp; first | done | with_reducible rfl
              (try simp only [Act.put, List.setIfInBounds_toArray, List.set_cons_zero, List.set_cons_succ])
              refine wpAnyH_take (i := 31) (oi := ⟨some 171, _, _, _, _, _⟩) (v := ?_) rfl (by kernel_rfl) (by kernel_rfl) (by kernel_rfl) (fun _ _ _ h => h) (Or.inl ⟨by rfl, ?_⟩) hHeld ?_
              rotate_left
              · intro W hSW; obtain ⟨hSW0, hSW1, hSW2, hSW3, hSW4, hSW5, hSW6⟩ := hSW; go_simp; first | done | with_reducible rfl
              (try simp only [Act.put, List.setIfInBounds_toArray, List.set_cons_zero, List.set_cons_succ])
              refine wpAnyH_ready (rs := [27]) (by kernel_rfl) (by simp) ?_
              refine AllReadyH.cons (o := ⟨some 167, _, _, _, _, _⟩) rfl (fun K hK => ?_) (AllReadyH.nil)
              go_simp
              refine (CCm.out _ hHeld.1).mono ?_
              rintro e W' ⟨rfl, rfl⟩
              have hS2 := hHeld
              clear hHeld
              refine hK.out _ _ ?_ (fun hHeld => ?_)
              · exact hS2
              clear hK K
              (try simp only [Act.put, List.setIfInBounds_toArray, List.set_cons_zero, List.set_cons_succ])
              clear hS2
              refine wpAnyH_take (i := 32) (oi := ⟨some 172, _, _, _, _, _⟩) (v := ?_) rfl (by kernel_rfl) (by kernel_rfl) (by kernel_rfl) (fun _ _ _ h => h) (Or.inl ⟨by rfl, ?_⟩) hHeld ?_
              rotate_left
              · intro W hSW; obtain ⟨hSW0, hSW1, hSW2, hSW3, hSW4, hSW5, hSW6⟩ := hSW; go_simp; first | done | with_reducible rfl
              (try simp only [Act.put, List.setIfInBounds_toArray, List.set_cons_zero, List.set_cons_succ])
              refine wpAnyH_take (i := 33) (oi := ⟨some 173, _, _, _, _, _⟩) (v := ?_) rfl (by kernel_rfl) (by kernel_rfl) (by kernel_rfl) (fun _ _ _ h => h) (Or.inl ⟨by rfl, ?_⟩) hHeld ?_
              rotate_left
              · intro W hSW; obtain ⟨hSW0, hSW1, hSW2, hSW3, hSW4, hSW5, hSW6⟩ := hSW; go_simp; first | done | with_reducible rfl
              (try simp only [Act.put, List.setIfInBounds_toArray, List.set_cons_zero, List.set_cons_succ])
              refine wpAnyH_take (i := 34) (oi := ⟨some 174, _, _, _, _, _⟩) (v := ?_) rfl (by kernel_rfl) (by kernel_rfl) (by kernel_rfl) (fun _ _ _ h => h) (Or.inl ⟨by rfl, ?_⟩) hHeld ?_
              rotate_left
              · intro W hSW; obtain ⟨hSW0, hSW1, hSW2, hSW3, hSW4, hSW5, hSW6⟩ := hSW; go_simp; first | done | with_reducible rfl
              (try simp only [Act.put, List.setIfInBounds_toArray, List.set_cons_zero, List.set_cons_succ])
              refine wpAnyH_take (i := 35) (oi := ⟨some 175, _, _, _, _, _⟩) (v := ?_) rfl (by kernel_rfl) (by kernel_rfl) (by kernel_rfl) (fun _ _ _ h => h) (Or.inl ⟨by rfl, ?_⟩) hHeld ?_
              rotate_left
              · intro W hSW; obtain ⟨hSW0, hSW1, hSW2, hSW3, hSW4, hSW5, hSW6⟩ := hSW; go_simp; first | done | with_reducible rfl
              (try simp only [Act.put, List.setIfInBounds_toArray, List.set_cons_zero, List.set_cons_succ])
              refine wpAnyH_take (i := 37) (oi := ⟨some 177, _, _, _, _, _⟩) (v := ?_) rfl (by kernel_rfl) (by kernel_rfl) (by kernel_rfl) (fun _ _ _ h => h) (Or.inl ⟨by rfl, ?_⟩) hHeld ?_
              rotate_left
              · intro W hSW; obtain ⟨hSW0, hSW1, hSW2, hSW3, hSW4, hSW5, hSW6⟩ := hSW; go_simp; first | done | with_reducible rfl
              (try simp only [Act.put, List.setIfInBounds_toArray, List.set_cons_zero, List.set_cons_succ])
              refine wpAnyH_take (i := 38) (oi := ⟨some 178, _, _, _, _, _⟩) (v := ?_) rfl (by kernel_rfl) (by kernel_rfl) (by kernel_rfl) (fun _ _ _ h => h) (Or.inl ⟨by rfl, ?_⟩) hHeld ?_
              rotate_left
              · intro W hSW; obtain ⟨hSW0, hSW1, hSW2, hSW3, hSW4, hSW5, hSW6⟩ := hSW; go_simp; first | done | with_reducible rfl
              (try simp only [Act.put, List.setIfInBounds_toArray, List.set_cons_zero, List.set_cons_succ])
              refine wpAnyH_take (i := 39) (oi := ⟨some 179, _, _, _, _, _⟩) (v := ?_) rfl (by kernel_rfl) (by kernel_rfl) (by kernel_rfl) (fun _ _ _ h => h) (Or.inl ⟨by rfl, ?_⟩) hHeld ?_
              rotate_left
              · intro W hSW; obtain ⟨hSW0, hSW1, hSW2, hSW3, hSW4, hSW5, hSW6⟩ := hSW; go_simp; first | done | with_reducible rfl
              (try simp only [Act.put, List.setIfInBounds_toArray, List.set_cons_zero, List.set_cons_succ])
              refine wpAnyH_take (i := 40) (oi := ⟨some 180, _, _, _, _, _⟩) (v := ?_) rfl (by kernel_rfl) (by kernel_rfl) (by kernel_rfl) (fun _ _ _ h => h) (Or.inl ⟨by rfl, ?_⟩) hHeld ?_
              rotate_left
              · intro W hSW; obtain ⟨hSW0, hSW1, hSW2, hSW3, hSW4, hSW5, hSW6⟩ := hSW; go_simp; first | done | with_reducible rfl
              (try simp only [Act.put, List.setIfInBounds_toArray, List.set_cons_zero, List.set_cons_succ])
              refine wpAnyH_ready (rs := [36]) (by kernel_rfl) (by simp) ?_
              refine AllReadyH.cons (o := ⟨some 176, _, _, _, _, _⟩) rfl (fun K hK => ?_) (AllReadyH.nil)
              go_simp
              refine (CLn.out _ hHeld.1).mono ?_
              rintro e W' ⟨rfl, rfl⟩
              have hS2 := hHeld
              clear hHeld
              refine hK.out _ _ ?_ (fun hHeld => ?_)
              · exact hS2
              clear hK K
              (try simp only [Act.put, List.setIfInBounds_toArray, List.set_cons_zero, List.set_cons_succ])
              clear hS2
              refine wpAnyH_take (i := 41) (oi := ⟨some 181, _, _, _, _, _⟩) (v := ?_) rfl (by kernel_rfl) (by kernel_rfl) (by kernel_rfl) (fun _ _ _ h => h) (Or.inl ⟨by rfl, ?_⟩) hHeld ?_
              rotate_left
              · intro W hSW; obtain ⟨hSW0, hSW1, hSW2, hSW3, hSW4, hSW5, hSW6⟩ := hSW; go_simp; first | done | with_reducible rfl
              (try simp only [Act.put, List.setIfInBounds_toArray, List.set_cons_zero, List.set_cons_succ])
              refine wpAnyH_take (i := 42) (oi := ⟨some 182, _, _, _, _, _⟩) (v := ?_) rfl (by kernel_rfl) (by kernel_rfl) (by kernel_rfl) (fun _ _ _ h => h) (Or.inl ⟨by rfl, ?_⟩) hHeld ?_
              rotate_left
              · intro W hSW; obtain ⟨hSW0, hSW1, hSW2, hSW3, hSW4, hSW5, hSW6⟩ := hSW; go_simp; first | done | with_reducible rfl
              (try simp only [Act.put, List.setIfInBounds_toArray, List.set_cons_zero, List.set_cons_succ])
              refine wpAnyH_done (by kernel_rfl) ?_ _
              refine NoPanic.normal ?_
              have bz := hHeld.1
              clear hHeld
              obtain ⟨np2, row2, d2, PP, QQ, e1, e2, e3, e4, e5, e6⟩ := HEND.out _ bz
              go_wp2
              go_roundw
              case rel => first | exact ⟨i + 1, by omega, by omega, by go_num, np2, row2, d2, PP, QQ, e1, e2, e3, e4, e5, e6⟩ | ((repeat apply Exists.intro); exact ⟨⟨i + 1, by omega, by omega, by go_num, np2, row2, d2, PP, QQ, e1, e2, e3, e4, e5, e6⟩, rfl⟩)
              case measure => simp [intOf] <;> omega
            | true =>
              have C2 := Lib.hid (CB2.out v hv w5 bw5)
              go_upto_region 18 with (first | (refine at_load rfl 37 _ rfl gC rfl 37 E _ q5 Tryd.underlying37 rfl iE.out ?_) | (go_at_call 20; refine C2.out.mono ?_; rintro e w6 ⟨A6, k6, c6, rfl, own6, b6⟩))
              have bw6 := Below.then_ bw5 b6
              have rb := own6.rd
              have hnb : A6 = none → k6 = 0 := fun e => (own6.none_ e).1
              have hb256 : ∀ b ∈ (bd mo v (es i)), b < 256 := bit256 (HBB2.out v)
              have hkb : k6 ≤ 65536 := by rw [own6.rd.len8]; have := HBL2.out v; omega
              have hAb : ∀ b off, A6 = some ⟨b, off, none⟩ → wr.heap.size ≤ b := fun b off e => by have := (own6.block b (by rw [e]; rfl)).1; have := bw5.size; omega
              have prt := pr.after bw6
              have qrt := qr.after bw6
              have bwt := Below.then_ bw bw6
              clear own6 ob qb k0b
              have kcb := rb.conv (c := c6) hnb w6 (Below.refl _ _)
              have bwt2 := bwt
              have K1 := Lib.hid (offerN w6 P gP np row d (o : Int) (v : Int) A6 k6 c6 (bd mo v (es i)) prt rb hb256 hkb (fun b off e h => by have := prt.lt b h; have := hAb b off e; have := pr0lt b h; omega) (fun h => by have := (hP 0 h).1; omega) (hT.after bwt))
              have K2 := Lib.hid (fun (W : World) (hk : Kr w6 W P) => docN W Q gQ np row d (o : Int) (v : Int) A6 k6 c6 (bd mo v (es i)) (qrt.of_heap (fun k hk2 => hk.block k (qrt.lt k hk2) (fun h => (hP k h).2 hk2)) hk.size) hrl (rb.krA hk (fun b off e h => by have := hAb b off e; have := pr0lt b h; omega)) hb256 hkb (fun b off e h => by have := hAb b off e; have := qr0lt b h; omega))
              have HNL := Lib.hid (nxt_len np row d (o : Int) (v : Int) k6 (bd mo v (es i)) hrl)
              obtain ⟨sb, hsb⟩ : ∃ s, s = str (bd mo v (es i)) := ⟨_, rfl⟩
              rw [← hsb] at kcb
              have HSB := Lib.hid hsb
              clear hsb
              generalize nxt np row d (o : Int) (v : Int) k6 (bd mo v (es i)) = X at *
              go_upto_region 19 with fail
              go_wp2_with fail
              refine K1.out.mono ?_
              rintro e w1 ⟨⟨A1, k1, c1, rfl, rd1, hno1, hA1⟩, ⟨P1, hP1, p1⟩, kr1⟩
              have K2' := Lib.hid (K2.out w1 kr1)
              go_wp2_with fail
              refine K2'.out.mono ?_
              rintro e w2 ⟨⟨A2, k2, c2, rfl, rd2, hno2⟩, ⟨Q2, hQ2, q2⟩, kr2⟩
              have rb1 := rb.krA kr1 (fun b off e h => by have := hAb b off e; have := pr0lt b h; omega)
              have rb2 := rb1.krA kr2 (fun b off e h => by have := hAb b off e; have := qr0lt b h; omega)
              have rd12 := rd1.krA kr2 (fun b off e h => by have := hA1 b off e; have := qrt.lt b h; omega)
              have hs1 := kr1.size
              have hs2 := kr2.size
              have HP1 : Hid (∀ k, P1 k → w.heap.size ≤ k ∧ ¬ Q k) := fun k hk => by
                rcases hP1 k hk with h | h
                · exact hP k h
                · have := bwt.size
                  exact ⟨by omega, fun hq => by have := qrt.lt k hq; omega⟩
              have p2 := p1.of_heap (w' := w2) (fun k hk => kr2.block k (p1.lt k hk) (HP1.out k hk).2) hs2
              have HP2 : Hid (∀ k, P1 k → w.heap.size ≤ k ∧ ¬ Q2 k) := fun k hk => ⟨(HP1.out k hk).1, fun hq => by
                rcases hQ2 k hq with h | h
                · exact (HP1.out k hk).2 h
                · have := p1.lt k hk; omega⟩
              have HQ2 : Hid (∀ k, Q2 k → w.heap.size ≤ k) := fun k hk => by
                rcases hQ2 k hk with h | h
                · exact hQ k h
                · have := bwt.size; omega
              have bw2 : Below w.heap.size w w2 := (bwt.trans (kr1.below (fun k hk => (hP k hk).1) bwt.size)).trans (kr2.below hQ (by have := bwt.size; omega))
              have HCX : Hid (∀ W, Below w2.heap.size w2 W → (convert 22 9 (.slice A1 k1 c1)).run Tryd.prog W = .ok (.string (str X.s)) W) := fun W hW => rd12.conv (c := c1) hno1 W hW
              have HCY : Hid (∀ W, Below w2.heap.size w2 W → (convert 22 9 (.slice A2 k2 c2)).run Tryd.prog W = .ok (.string (str X.s)) W) := fun W hW => rd2.conv (c := c2) hno2 W hW
              have HCB : Hid (∀ W, Below w2.heap.size w2 W → (convert 22 9 (.slice A6 k6 c6)).run Tryd.prog W = .ok (.string sb) W) := fun W hW => by rw [HSB.out]; exact rb2.conv (c := c6) hnb W hW
              have HCE : Hid (∀ W, Below w2.heap.size w2 W → W.cell? ⟨gQ, 3, none⟩ = some (.bool X.d) ∧ W.cell? ⟨gQ, 2, none⟩ = some (.int .i64 ((X.row.length : Nat) : Int)) ∧ W.cell? ⟨gQ, 0, none⟩ = some (.int .i64 (X.n : Int))) := fun W hW => (q2.after hW).cells
              have CDn := Lib.hid (fun (W : World) (h : Below w2.heap.size w2 W) => hDone W P1 gP X.n X.row X.d (p2.after h))
              have CCm := Lib.hid (fun (W : World) (h : Below w2.heap.size w2 W) => hCame W P1 gP X.n X.row X.d (p2.after h))
              have CLn := Lib.hid (fun (W : World) (h : Below w2.heap.size w2 W) => hLen W P1 gP X.n X.row X.d (p2.after h))
              have HEND : Hid (∀ W, Below w2.heap.size w2 W → ∃ (np2 : Nat) (row2 : List (Nat × List Nat)) (d2 : Bool) (PP QQ : Nat → Prop), PrS W PP gP np2 row2 d2 ∧ QrS W QQ gQ np2 row2 d2 ∧ row2.length ≤ 16 ∧ (∀ k, PP k → w.heap.size ≤ k ∧ ¬ QQ k) ∧ (∀ k, QQ k → w.heap.size ≤ k) ∧ Below w.heap.size w W) := fun W hW => ⟨X.n, X.row, X.d, P1, Q2, p2.after hW, q2.after hW, HNL.out, HP2.out, HQ2.out, Below.then_ bw2 hW⟩
              clear HP1 HP2 HQ2 p1 p2 q2 kr1 kr2 rb1 rb2 rd1 rd12 rd2 K1 K2 K2' bw2 HNL kcb
              obtain ⟨sx, hsx⟩ : ∃ s, s = str X.s := ⟨_, rfl⟩
              rw [← hsx] at HCX HCY
              generalize X.g = xg at *
              generalize X.d = xd at *
              generalize X.row.length = xl at *
              generalize X.n = xn at *
              have t1 : (sx.toList != sx.toList) = false := by simp
              have t2 : (xg != xg) = false := by simp
              have t3 : (sb.toList != sb.toList) = false := by simp
              have t4 : (xd != xd) = false := by simp
              have t5 : ((xl : Int) != (xl : Int)) = false := by simp
              have t6 : ((xn : Int) != (xn : Int)) = false := by simp
              have HK : Hid (∀ W, Below w2.heap.size w2 W → Below w2.heap.size w2 W ∧ (convert 22 9 (.slice A1 k1 c1)).run Tryd.prog W = .ok (.string sx) W ∧ (convert 22 9 (.slice A2 k2 c2)).run Tryd.prog W = .ok (.string sx) W ∧ (convert 22 9 (.slice A6 k6 c6)).run Tryd.prog W = .ok (.string sb) W ∧ W.cell? ⟨gQ, 3, none⟩ = some (.bool xd) ∧ W.cell? ⟨gQ, 2, none⟩ = some (.int .i64 (xl : Int)) ∧ W.cell? ⟨gQ, 0, none⟩ = some (.int .i64 (xn : Int))) := fun W h => ⟨h, HCX.out W h, HCY.out W h, HCB.out W h, (HCE.out W h).1, (HCE.out W h).2.1, (HCE.out W h).2.2⟩
              have hS0 := HK.out w2.drew (below_drawn 1)
              clear hsx HCX HCY HCB HCE
              go_upto_region 21 with fail
              refine wp_region_noPanic ?_
              refine wp_region_held_drew (S := fun W => Below w2.heap.size w2 W ∧ (convert 22 9 (.slice A1 k1 c1)).run Tryd.prog W = .ok (.string sx) W ∧ (convert 22 9 (.slice A2 k2 c2)).run Tryd.prog W = .ok (.string sx) W ∧ (convert 22 9 (.slice A6 k6 c6)).run Tryd.prog W = .ok (.string sb) W ∧ W.cell? ⟨gQ, 3, none⟩ = some (.bool xd) ∧ W.cell? ⟨gQ, 2, none⟩ = some (.int .i64 (xl : Int)) ∧ W.cell? ⟨gQ, 0, none⟩ = some (.int .i64 (xn : Int))) (by kernel_rfl) hS0 (fun hHeld => ?_)
              refine wpAnyH_take (i := 0) (oi := ⟨some 140, _, _, _, _, _⟩) (v := ?_) rfl (by kernel_rfl) (by kernel_rfl) (by kernel_rfl) (fun _ _ _ h => h) (Or.inl ⟨by rfl, ?_⟩) hHeld ?_
              rotate_left
              · intro W hSW; obtain ⟨hSW0, hSW1, hSW2, hSW3, hSW4, hSW5, hSW6⟩ := hSW; go_simp; first | done | with_reducible rfl
              (try simp only [Act.put, List.setIfInBounds_toArray, List.set_cons_zero, List.set_cons_succ])
              refine wpAnyH_take (i := 1) (oi := ⟨some 141, _, _, _, _, _⟩) (v := ?_) rfl (by kernel_rfl) (by kernel_rfl) (by kernel_rfl) (fun _ _ _ h => h) (Or.inl ⟨by rfl, ?_⟩) hHeld ?_
              rotate_left
              · intro W hSW; obtain ⟨hSW0, hSW1, hSW2, hSW3, hSW4, hSW5, hSW6⟩ := hSW; go_simp; first | done | with_reducible rfl
              (try simp only [Act.put, List.setIfInBounds_toArray, List.set_cons_zero, List.set_cons_succ])
              refine wpAnyH_take (i := 2) (oi := ⟨some 142, _, _, _, _, _⟩) (v := ?_) rfl (by kernel_rfl) (by kernel_rfl) (by kernel_rfl) (fun _ _ _ h => h) (Or.inl ⟨by rfl, ?_⟩) hHeld ?_
              rotate_left
              · intro W hSW; obtain ⟨hSW0, hSW1, hSW2, hSW3, hSW4, hSW5, hSW6⟩ := hSW; go_simp; first | done | with_reducible rfl
              (try simp only [Act.put, List.setIfInBounds_toArray, List.set_cons_zero, List.set_cons_succ])
              refine wpAnyH_take (i := 3) (oi := ⟨some 143, _, _, _, _, _⟩) (v := ?_) rfl (by kernel_rfl) (by kernel_rfl) (by kernel_rfl) (fun _ _ _ h => h) (Or.inl ⟨by rfl, ?_⟩) hHeld ?_
              rotate_left
              · intro W hSW; obtain ⟨hSW0, hSW1, hSW2, hSW3, hSW4, hSW5, hSW6⟩ := hSW; go_simp; first | done | with_reducible rfl
              (try simp only [Act.put, List.setIfInBounds_toArray, List.set_cons_zero, List.set_cons_succ])
              refine wpAnyH_take (i := 4) (oi := ⟨some 144, _, _, _, _, _⟩) (v := ?_) rfl (by kernel_rfl) (by kernel_rfl) (by kernel_rfl) (fun _ _ _ h => h) (Or.inl ⟨by rfl, ?_⟩) hHeld ?_
              rotate_left
              · intro W hSW; obtain ⟨hSW0, hSW1, hSW2, hSW3, hSW4, hSW5, hSW6⟩ := hSW; go_simp; first | done | with_reducible rfl
              (try simp only [Act.put, List.setIfInBounds_toArray, List.set_cons_zero, List.set_cons_succ])
              refine wpAnyH_take (i := 5) (oi := ⟨some 145, _, _, _, _, _⟩) (v := ?_) rfl (by kernel_rfl) (by kernel_rfl) (by kernel_rfl) (fun _ _ _ h => h) (Or.inl ⟨by rfl, ?_⟩) hHeld ?_
              rotate_left
              · intro W hSW; obtain ⟨hSW0, hSW1, hSW2, hSW3, hSW4, hSW5, hSW6⟩ := hSW; go_simp; first | done | with_reducible rfl
              (try simp only [Act.put, List.setIfInBounds_toArray, List.set_cons_zero, List.set_cons_succ])
              refine wpAnyH_take (i := 6) (oi := ⟨some 146, _, _, _, _, _⟩) (v := ?_) rfl (by kernel_rfl) (by kernel_rfl) (by kernel_rfl) (fun _ _ _ h => h) (Or.inl ⟨by rfl, ?_⟩) hHeld ?_
              rotate_left
              · intro W hSW; obtain ⟨hSW0, hSW1, hSW2, hSW3, hSW4, hSW5, hSW6⟩ := hSW; go_simp; first | done | with_reducible rfl
              (try simp only [Act.put, List.setIfInBounds_toArray, List.set_cons_zero, List.set_cons_succ])
              refine wpAnyH_take (i := 7) (oi := ⟨some 147, _, _, _, _, _⟩) (v := ?_) rfl (by kernel_rfl) (by kernel_rfl) (by kernel_rfl) (fun _ _ _ h => h) (Or.inl ⟨by rfl, ?_⟩) hHeld ?_
              rotate_left
              · intro W hSW; obtain ⟨hSW0, hSW1, hSW2, hSW3, hSW4, hSW5, hSW6⟩ := hSW; go_simp; first | done | with_reducible rfl
              (try simp only [Act.put, List.setIfInBounds_toArray, List.set_cons_zero, List.set_cons_succ])
              refine wpAnyH_take (i := 8) (oi := ⟨some 148, _, _, _, _, _⟩) (v := ?_) rfl (by kernel_rfl) (by kernel_rfl) (by kernel_rfl) (fun _ _ _ h => h) (Or.inl ⟨by rfl, ?_⟩) hHeld ?_
              rotate_left
              · intro W hSW; obtain ⟨hSW0, hSW1, hSW2, hSW3, hSW4, hSW5, hSW6⟩ := hSW; go_simp; first | done | with_reducible rfl
              (try simp only [Act.put, List.setIfInBounds_toArray, List.set_cons_zero, List.set_cons_succ])
              refine wpAnyH_take (i := 9) (oi := ⟨some 149, _, _, _, _, _⟩) (v := ?_) rfl (by kernel_rfl) (by kernel_rfl) (by kernel_rfl) (fun _ _ _ h => h) (Or.inl ⟨by rfl, ?_⟩) hHeld ?_
              rotate_left
              · intro W hSW; obtain ⟨hSW0, hSW1, hSW2, hSW3, hSW4, hSW5, hSW6⟩ := hSW; go_simp; first | done | with_reducible rfl
              (try simp only [Act.put, List.setIfInBounds_toArray, List.set_cons_zero, List.set_cons_succ])
              refine wpAnyH_take (i := 10) (oi := ⟨some 150, _, _, _, _, _⟩) (v := ?_) rfl (by kernel_rfl) (by kernel_rfl) (by kernel_rfl) (fun _ _ _ h => h) (Or.inl ⟨by rfl, ?_⟩) hHeld ?_
              rotate_left
              · intro W hSW; obtain ⟨hSW0, hSW1, hSW2, hSW3, hSW4, hSW5, hSW6⟩ := hSW; go_simp; first | done | with_reducible rfl
              (try simp only [Act.put, List.setIfInBounds_toArray, List.set_cons_zero, List.set_cons_succ])
              refine wpAnyH_take (i := 11) (oi := ⟨some 151, _, _, _, _, _⟩) (v := ?_) rfl (by kernel_rfl) (by kernel_rfl) (by kernel_rfl) (fun _ _ _ h => h) (Or.inl ⟨by rfl, ?_⟩) hHeld ?_
              rotate_left
              · intro W hSW; obtain ⟨hSW0, hSW1, hSW2, hSW3, hSW4, hSW5, hSW6⟩ := hSW; go_simp; first | done | with_reducible rfl
              (try simp only [Act.put, List.setIfInBounds_toArray, List.set_cons_zero, List.set_cons_succ])
              refine wpAnyH_take (i := 12) (oi := ⟨some 152, _, _, _, _, _⟩) (v := ?_) rfl (by kernel_rfl) (by kernel_rfl) (by kernel_rfl) (fun _ _ _ h => h) (Or.inl ⟨by rfl, ?_⟩) hHeld ?_
              rotate_left
              · intro W hSW; obtain ⟨hSW0, hSW1, hSW2, hSW3, hSW4, hSW5, hSW6⟩ := hSW; go_simp; first | done | with_reducible rfl
              (try simp only [Act.put, List.setIfInBounds_toArray, List.set_cons_zero, List.set_cons_succ])
              refine wpAnyH_take (i := 13) (oi := ⟨some 153, _, _, _, _, _⟩) (v := ?_) rfl (by kernel_rfl) (by kernel_rfl) (by kernel_rfl) (fun _ _ _ h => h) (Or.inl ⟨by rfl, ?_⟩) hHeld ?_
              rotate_left
              · intro W hSW; obtain ⟨hSW0, hSW1, hSW2, hSW3, hSW4, hSW5, hSW6⟩ := hSW; go_simp; first | done | with_reducible rfl
              (try simp only [Act.put, List.setIfInBounds_toArray, List.set_cons_zero, List.set_cons_succ])
              refine wpAnyH_take (i := 14) (oi := ⟨some 154, _, _, _, _, _⟩) (v := ?_) rfl (by kernel_rfl) (by kernel_rfl) (by kernel_rfl) (fun _ _ _ h => h) (Or.inl ⟨by rfl, ?_⟩) hHeld ?_
              rotate_left
              · intro W hSW; obtain ⟨hSW0, hSW1, hSW2, hSW3, hSW4, hSW5, hSW6⟩ := hSW; go_simp; first | done | with_reducible rfl
              (try simp only [Act.put, List.setIfInBounds_toArray, List.set_cons_zero, List.set_cons_succ])
              refine wpAnyH_take (i := 15) (oi := ⟨some 155, _, _, _, _, _⟩) (v := ?_) rfl (by kernel_rfl) (by kernel_rfl) (by kernel_rfl) (fun _ _ _ h => h) (Or.inl ⟨by rfl, ?_⟩) hHeld ?_
              rotate_left
              · intro W hSW; obtain ⟨hSW0, hSW1, hSW2, hSW3, hSW4, hSW5, hSW6⟩ := hSW; go_simp; first | done | with_reducible rfl
              (try simp only [Act.put, List.setIfInBounds_toArray, List.set_cons_zero, List.set_cons_succ])
              refine wpAnyH_take (i := 16) (oi := ⟨some 156, _, _, _, _, _⟩) (v := ?_) rfl (by kernel_rfl) (by kernel_rfl) (by kernel_rfl) (fun _ _ _ h => h) (Or.inl ⟨by rfl, ?_⟩) hHeld ?_
              rotate_left
              · intro W hSW; obtain ⟨hSW0, hSW1, hSW2, hSW3, hSW4, hSW5, hSW6⟩ := hSW; go_simp; first | done | with_reducible rfl
              (try simp only [Act.put, List.setIfInBounds_toArray, List.set_cons_zero, List.set_cons_succ])
              refine wpAnyH_take (i := 17) (oi := ⟨some 157, _, _, _, _, _⟩) (v := ?_) rfl (by kernel_rfl) (by kernel_rfl) (by kernel_rfl) (fun _ _ _ h => h) (Or.inl ⟨by rfl, ?_⟩) hHeld ?_
              rotate_left
              · intro W hSW; obtain ⟨hSW0, hSW1, hSW2, hSW3, hSW4, hSW5, hSW6⟩ := hSW; go_simp; first | done | with_reducible rfl
              (try simp only [Act.put, List.setIfInBounds_toArray, List.set_cons_zero, List.set_cons_succ])
              refine wpAnyH_take (i := 19) (oi := ⟨some 159, _, _, _, _, _⟩) (v := ?_) rfl (by kernel_rfl) (by kernel_rfl) (by kernel_rfl) (fun _ _ _ h => h) (Or.inl ⟨by rfl, ?_⟩) hHeld ?_
              rotate_left
              · intro W hSW; obtain ⟨hSW0, hSW1, hSW2, hSW3, hSW4, hSW5, hSW6⟩ := hSW; go_simp; first | done | with_reducible rfl
              (try simp only [Act.put, List.setIfInBounds_toArray, List.set_cons_zero, List.set_cons_succ])
              refine wpAnyH_take (i := 20) (oi := ⟨some 160, _, _, _, _, _⟩) (v := ?_) rfl (by kernel_rfl) (by kernel_rfl) (by kernel_rfl) (fun _ _ _ h => h) (Or.inl ⟨by rfl, ?_⟩) hHeld ?_
              rotate_left
              · intro W hSW; obtain ⟨hSW0, hSW1, hSW2, hSW3, hSW4, hSW5, hSW6⟩ := hSW; go_simp; first | done | with_reducible rfl
              (try simp only [Act.put, List.setIfInBounds_toArray, List.set_cons_zero, List.set_cons_succ])
              refine wpAnyH_take (i := 21) (oi := ⟨some 161, _, _, _, _, _⟩) (v := ?_) rfl (by kernel_rfl) (by kernel_rfl) (by kernel_rfl) (fun _ _ _ h => h) (Or.inl ⟨by rfl, ?_⟩) hHeld ?_
              rotate_left
              · intro W hSW; obtain ⟨hSW0, hSW1, hSW2, hSW3, hSW4, hSW5, hSW6⟩ := hSW; go_simp; first | done | with_reducible rfl
              (try simp only [Act.put, List.setIfInBounds_toArray, List.set_cons_zero, List.set_cons_succ])
              refine wpAnyH_take (i := 22) (oi := ⟨some 162, _, _, _, _, _⟩) (v := ?_) rfl (by kernel_rfl) (by kernel_rfl) (by kernel_rfl) (fun _ _ _ h => h) (Or.inl ⟨by rfl, ?_⟩) hHeld ?_
              rotate_left
              · intro W hSW; obtain ⟨hSW0, hSW1, hSW2, hSW3, hSW4, hSW5, hSW6⟩ := hSW; go_simp; first | done | with_reducible rfl
              (try simp only [Act.put, List.setIfInBounds_toArray, List.set_cons_zero, List.set_cons_succ])
              refine wpAnyH_ready (rs := [18]) (by kernel_rfl) (by simp) ?_
              refine AllReadyH.cons (o := ⟨some 158, _, _, _, _, _⟩) rfl (fun K hK => ?_) (AllReadyH.nil)
              go_simp
              refine (CDn.out _ hHeld.1).mono ?_
              rintro e W' ⟨rfl, rfl⟩
              have hS2 := hHeld
              clear hHeld
              refine hK.out _ _ ?_ (fun hHeld => ?_)
              · exact hS2
              clear hK K
              (try simp only [Act.put, List.setIfInBounds_toArray, List.set_cons_zero, List.set_cons_succ])
              clear hS2
              refine wpAnyH_take (i := 23) (oi := ⟨some 163, _, _, _, _, _⟩) (v := ?_) rfl (by kernel_rfl) (by kernel_rfl) (by kernel_rfl) (fun _ _ _ h => h) (Or.inl ⟨by rfl, ?_⟩) hHeld ?_
              rotate_left
              · intro W hSW; obtain ⟨hSW0, hSW1, hSW2, hSW3, hSW4, hSW5, hSW6⟩ := hSW; go_simp; first | done | with_reducible rfl
              (try simp only [Act.put, List.setIfInBounds_toArray, List.set_cons_zero, List.set_cons_succ])
              refine wpAnyH_take (i := 24) (oi := ⟨some 164, _, _, _, _, _⟩) (v := ?_) rfl (by kernel_rfl) (by kernel_rfl) (by kernel_rfl) (fun _ _ _ h => h) (Or.inl ⟨by rfl, ?_⟩) hHeld ?_
              rotate_left
              · intro W hSW; obtain ⟨hSW0, hSW1, hSW2, hSW3, hSW4, hSW5, hSW6⟩ := hSW; go_simp; first | done | with_reducible rfl
              (try simp only [Act.put, List.setIfInBounds_toArray, List.set_cons_zero, List.set_cons_succ])
              refine wpAnyH_take (i := 25) (oi := ⟨some 165, _, _, _, _, _⟩) (v := ?_) rfl (by kernel_rfl) (by kernel_rfl) (by kernel_rfl) (fun _ _ _ h => h) (Or.inl ⟨by rfl, ?_⟩) hHeld ?_
              rotate_left
              · intro W hSW; obtain ⟨hSW0, hSW1, hSW2, hSW3, hSW4, hSW5, hSW6⟩ := hSW; go_simp; first | done | with_reducible rfl
              (try simp only [Act.put, List.setIfInBounds_toArray, List.set_cons_zero, List.set_cons_succ])
              refine wpAnyH_take (i := 26) (oi := ⟨some 166, _, _, _, _, _⟩) (v := ?_) rfl (by kernel_rfl) (by kernel_rfl) (by kernel_rfl) (fun _ _ _ h => h) (Or.inl ⟨by rfl, ?_⟩) hHeld ?_
              rotate_left
              · intro W hSW; obtain ⟨hSW0, hSW1, hSW2, hSW3, hSW4, hSW5, hSW6⟩ := hSW; go_simp; first | done | with_reducible rfl
              (try simp only [Act.put, List.setIfInBounds_toArray, List.set_cons_zero, List.set_cons_succ])
              refine wpAnyH_take (i := 28) (oi := ⟨some 168, _, _, _, _, _⟩) (v := ?_) rfl (by kernel_rfl) (by kernel_rfl) (by kernel_rfl) (fun _ _ _ h => h) (Or.inl ⟨by rfl, ?_⟩) hHeld ?_
              rotate_left
              · intro W hSW; obtain ⟨hSW0, hSW1, hSW2, hSW3, hSW4, hSW5, hSW6⟩ := hSW; go_simp; first | done | with_reducible rfl
              (try simp only [Act.put, List.setIfInBounds_toArray, List.set_cons_zero, List.set_cons_succ])
              refine wpAnyH_take (i := 29) (oi := ⟨some 169, _, _, _, _, _⟩) (v := ?_) rfl (by kernel_rfl) (by kernel_rfl) (by kernel_rfl) (fun _ _ _ h => h) (Or.inl ⟨by rfl, ?_⟩) hHeld ?_
              rotate_left
              · intro W hSW; obtain ⟨hSW0, hSW1, hSW2, hSW3, hSW4, hSW5, hSW6⟩ := hSW; go_simp; first | done | with_reducible rfl
              (try simp only [Act.put, List.setIfInBounds_toArray, List.set_cons_zero, List.set_cons_succ])
              refine wpAnyH_take (i := 30) (oi := ⟨some 170, _, _, _, _, _⟩) (v := ?_) rfl (by kernel_rfl) (by kernel_rfl) (by kernel_rfl) (fun _ _ _ h => h) (Or.inl ⟨by rfl, ?_⟩) hHeld ?_
              rotate_left
              · intro W hSW; obtain ⟨hSW0, hSW1, hSW2, hSW3, hSW4, hSW5, hSW6⟩ := hSW; go_simp; first | done | with_reducible rfl
              (try simp only [Act.put, List.setIfInBounds_toArray, List.set_cons_zero, List.set_cons_succ])
              refine wpAnyH_take (i := 31) (oi := ⟨some 171, _, _, _, _, _⟩) (v := ?_) rfl (by kernel_rfl) (by kernel_rfl) (by kernel_rfl) (fun _ _ _ h => h) (Or.inl ⟨by rfl, ?_⟩) hHeld ?_
              rotate_left
              · intro W hSW; obtain ⟨hSW0, hSW1, hSW2, hSW3, hSW4, hSW5, hSW6⟩ := hSW; go_simp; first | done | with_reducible rfl
              (try simp only [Act.put, List.setIfInBounds_toArray, List.set_cons_zero, List.set_cons_succ])
              refine wpAnyH_ready (rs := [27]) (by kernel_rfl) (by simp) ?_
              refine AllReadyH.cons (o := ⟨some 167, _, _, _, _, _⟩) rfl (fun K hK => ?_) (AllReadyH.nil)
              go_simp
              refine (CCm.out _ hHeld.1).mono ?_
              rintro e W' ⟨rfl, rfl⟩
              have hS2 := hHeld
              clear hHeld
              refine hK.out _ _ ?_ (fun hHeld => ?_)
              · exact hS2
              clear hK K
              (try simp only [Act.put, List.setIfInBounds_toArray, List.set_cons_zero, List.set_cons_succ])
              clear hS2
              refine wpAnyH_take (i := 32) (oi := ⟨some 172, _, _, _, _, _⟩) (v := ?_) rfl (by kernel_rfl) (by kernel_rfl) (by kernel_rfl) (fun _ _ _ h => h) (Or.inl ⟨by rfl, ?_⟩) hHeld ?_
              rotate_left
              · intro W hSW; obtain ⟨hSW0, hSW1, hSW2, hSW3, hSW4, hSW5, hSW6⟩ := hSW; go_simp; first | done | with_reducible rfl
              (try simp only [Act.put, List.setIfInBounds_toArray, List.set_cons_zero, List.set_cons_succ])
              refine wpAnyH_take (i := 33) (oi := ⟨some 173, _, _, _, _, _⟩) (v := ?_) rfl (by kernel_rfl) (by kernel_rfl) (by kernel_rfl) (fun _ _ _ h => h) (Or.inl ⟨by rfl, ?_⟩) hHeld ?_
              rotate_left
              · intro W hSW; obtain ⟨hSW0, hSW1, hSW2, hSW3, hSW4, hSW5, hSW6⟩ := hSW; go_simp; first | done | with_reducible rfl
              (try simp only [Act.put, List.setIfInBounds_toArray, List.set_cons_zero, List.set_cons_succ])
              refine wpAnyH_take (i := 34) (oi := ⟨some 174, _, _, _, _, _⟩) (v := ?_) rfl (by kernel_rfl) (by kernel_rfl) (by kernel_rfl) (fun _ _ _ h => h) (Or.inl ⟨by rfl, ?_⟩) hHeld ?_
              rotate_left
              · intro W hSW; obtain ⟨hSW0, hSW1, hSW2, hSW3, hSW4, hSW5, hSW6⟩ := hSW; go_simp; first | done | with_reducible rfl
              (try simp only [Act.put, List.setIfInBounds_toArray, List.set_cons_zero, List.set_cons_succ])
              refine wpAnyH_take (i := 35) (oi := ⟨some 175, _, _, _, _, _⟩) (v := ?_) rfl (by kernel_rfl) (by kernel_rfl) (by kernel_rfl) (fun _ _ _ h => h) (Or.inl ⟨by rfl, ?_⟩) hHeld ?_
              rotate_left
              · intro W hSW; obtain ⟨hSW0, hSW1, hSW2, hSW3, hSW4, hSW5, hSW6⟩ := hSW; go_simp; first | done | with_reducible rfl
              (try simp only [Act.put, List.setIfInBounds_toArray, List.set_cons_zero, List.set_cons_succ])
              refine wpAnyH_take (i := 37) (oi := ⟨some 177, _, _, _, _, _⟩) (v := ?_) rfl (by kernel_rfl) (by kernel_rfl) (by kernel_rfl) (fun _ _ _ h => h) (Or.inl ⟨by rfl, ?_⟩) hHeld ?_
              rotate_left
              · intro W hSW; obtain ⟨hSW0, hSW1, hSW2, hSW3, hSW4, hSW5, hSW6⟩ := hSW; go_simp; first | done | with_reducible rfl
              (try simp only [Act.put, List.setIfInBounds_toArray, List.set_cons_zero, List.set_cons_succ])
              refine wpAnyH_take (i := 38) (oi := ⟨some 178, _, _, _, _, _⟩) (v := ?_) rfl (by kernel_rfl) (by kernel_rfl) (by kernel_rfl) (fun _ _ _ h => h) (Or.inl ⟨by rfl, ?_⟩) hHeld ?_
              rotate_left
              · intro W hSW; obtain ⟨hSW0, hSW1, hSW2, hSW3, hSW4, hSW5, hSW6⟩ := hSW; go_simp; first | done | with_reducible rfl
              (try simp only [Act.put, List.setIfInBounds_toArray, List.set_cons_zero, List.set_cons_succ])
              refine wpAnyH_take (i := 39) (oi := ⟨some 179, _, _, _, _, _⟩) (v := ?_) rfl (by kernel_rfl) (by kernel_rfl) (by kernel_rfl) (fun _ _ _ h => h) (Or.inl ⟨by rfl, ?_⟩) hHeld ?_
              rotate_left
              · intro W hSW; obtain ⟨hSW0, hSW1, hSW2, hSW3, hSW4, hSW5, hSW6⟩ := hSW; go_simp; first | done | with_reducible rfl
              (try simp only [Act.put, List.setIfInBounds_toArray, List.set_cons_zero, List.set_cons_succ])
              refine wpAnyH_take (i := 40) (oi := ⟨some 180, _, _, _, _, _⟩) (v := ?_) rfl (by kernel_rfl) (by kernel_rfl) (by kernel_rfl) (fun _ _ _ h => h) (Or.inl ⟨by rfl, ?_⟩) hHeld ?_
              rotate_left
              · intro W hSW; obtain ⟨hSW0, hSW1, hSW2, hSW3, hSW4, hSW5, hSW6⟩ := hSW; go_simp; first | done | with_reducible rfl
              (try simp only [Act.put, List.setIfInBounds_toArray, List.set_cons_zero, List.set_cons_succ])
              refine wpAnyH_ready (rs := [36]) (by kernel_rfl) (by simp) ?_
              refine AllReadyH.cons (o := ⟨some 176, _, _, _, _, _⟩) rfl (fun K hK => ?_) (AllReadyH.nil)
              go_simp
              refine (CLn.out _ hHeld.1).mono ?_
              rintro e W' ⟨rfl, rfl⟩
              have hS2 := hHeld
              clear hHeld
              refine hK.out _ _ ?_ (fun hHeld => ?_)
              · exact hS2
              clear hK K
              (try simp only [Act.put, List.setIfInBounds_toArray, List.set_cons_zero, List.set_cons_succ])
              clear hS2
              refine wpAnyH_take (i := 41) (oi := ⟨some 181, _, _, _, _, _⟩) (v := ?_) rfl (by kernel_rfl) (by kernel_rfl) (by kernel_rfl) (fun _ _ _ h => h) (Or.inl ⟨by rfl, ?_⟩) hHeld ?_
              rotate_left
              · intro W hSW; obtain ⟨hSW0, hSW1, hSW2, hSW3, hSW4, hSW5, hSW6⟩ := hSW; go_simp; first | done | with_reducible rfl
              (try simp only [Act.put, List.setIfInBounds_toArray, List.set_cons_zero, List.set_cons_succ])
              refine wpAnyH_take (i := 42) (oi := ⟨some 182, _, _, _, _, _⟩) (v := ?_) rfl (by kernel_rfl) (by kernel_rfl) (by kernel_rfl) (fun _ _ _ h => h) (Or.inl ⟨by rfl, ?_⟩) hHeld ?_
              rotate_left
              · intro W hSW; obtain ⟨hSW0, hSW1, hSW2, hSW3, hSW4, hSW5, hSW6⟩ := hSW; go_simp; first | done | with_reducible rfl
              (try simp only [Act.put, List.setIfInBounds_toArray, List.set_cons_zero, List.set_cons_succ])
              refine wpAnyH_done (by kernel_rfl) ?_ _
              refine NoPanic.normal ?_
              have bz := hHeld.1
              clear hHeld
              obtain ⟨np2, row2, d2, PP, QQ, e1, e2, e3, e4, e5, e6⟩ := HEND.out _ bz
              go_wp2
              go_roundw
              case rel => first | exact ⟨i + 1, by omega, by omega, by go_num, np2, row2, d2, PP, QQ, e1, e2, e3, e4, e5, e6⟩ | ((repeat apply Exists.intro); exact ⟨⟨i + 1, by omega, by omega, by go_num, np2, row2, d2, PP, QQ, e1, e2, e3, e4, e5, e6⟩, rfl⟩)
              case measure => simp [intOf] <;> omega
          · have dg : decide ((0 : Int) < (aL : Int)) = true := by simp; omega
            have dv1 : decide ((0 : Int) ≤ ev) = true := by simp; omega
            have dv2 : decide (ev < 4) = false := by simp; omega
            have rb := ob.rd
            have hnb : Ab = none → kR = 0 := fun e => (ob.none_ e).1
            have hb256 := HR256.out
            have hkb : kR ≤ 65536 := by omega
            have hAb : ∀ b off, Ab = some ⟨b, off, none⟩ → wr.heap.size ≤ b := fun b off e => by have := (ob.block b (by rw [e]; rfl)).1; have := bwc.size; have h2 : wc.drew.heap.size = wc.heap.size := rfl; omega
            have prt := pr.after bwb
            have qrt := qr.after bwb
            have bwt := Below.then_ bw bwb
            clear ob qb k0b
            have kcb := rb.conv (c := cb) hnb wb (Below.refl _ _)
            have bwt2 := bwt
            have K1 := Lib.hid (offerN wb P gP np row d en ev Ab kR cb rw0 prt rb hb256 hkb (fun b off e h => by have := prt.lt b h; have := hAb b off e; have := pr0lt b h; omega) (fun h => by have := (hP 0 h).1; omega) (hT.after bwt))
            have K2 := Lib.hid (fun (W : World) (hk : Kr wb W P) => docN W Q gQ np row d en ev Ab kR cb rw0 (qrt.of_heap (fun k hk2 => hk.block k (qrt.lt k hk2) (fun h => (hP k h).2 hk2)) hk.size) hrl (rb.krA hk (fun b off e h => by have := hAb b off e; have := pr0lt b h; omega)) hb256 hkb (fun b off e h => by have := hAb b off e; have := qr0lt b h; omega))
            have HNL := Lib.hid (nxt_len np row d en ev kR rw0 hrl)
            obtain ⟨sb, hsb⟩ : ∃ s, s = str rw0 := ⟨_, rfl⟩
            rw [← hsb] at kcb
            have HSB := Lib.hid hsb
            clear hsb
            generalize nxt np row d en ev kR rw0 = X at *
            go_upto_region 19 with fail
            go_wp2_with fail
            refine K1.out.mono ?_
            rintro e w1 ⟨⟨A1, k1, c1, rfl, rd1, hno1, hA1⟩, ⟨P1, hP1, p1⟩, kr1⟩
            have K2' := Lib.hid (K2.out w1 kr1)
            go_wp2_with fail
            refine K2'.out.mono ?_
            rintro e w2 ⟨⟨A2, k2, c2, rfl, rd2, hno2⟩, ⟨Q2, hQ2, q2⟩, kr2⟩
            have rb1 := rb.krA kr1 (fun b off e h => by have := hAb b off e; have := pr0lt b h; omega)
            have rb2 := rb1.krA kr2 (fun b off e h => by have := hAb b off e; have := qr0lt b h; omega)
            have rd12 := rd1.krA kr2 (fun b off e h => by have := hA1 b off e; have := qrt.lt b h; omega)
            have hs1 := kr1.size
            have hs2 := kr2.size
            have HP1 : Hid (∀ k, P1 k → w.heap.size ≤ k ∧ ¬ Q k) := fun k hk => by
              rcases hP1 k hk with h | h
              · exact hP k h
              · have := bwt.size
                exact ⟨by omega, fun hq => by have := qrt.lt k hq; omega⟩
            have p2 := p1.of_heap (w' := w2) (fun k hk => kr2.block k (p1.lt k hk) (HP1.out k hk).2) hs2
            have HP2 : Hid (∀ k, P1 k → w.heap.size ≤ k ∧ ¬ Q2 k) := fun k hk => ⟨(HP1.out k hk).1, fun hq => by
              rcases hQ2 k hq with h | h
              · exact (HP1.out k hk).2 h
              · have := p1.lt k hk; omega⟩
            have HQ2 : Hid (∀ k, Q2 k → w.heap.size ≤ k) := fun k hk => by
              rcases hQ2 k hk with h | h
              · exact hQ k h
              · have := bwt.size; omega
            have bw2 : Below w.heap.size w w2 := (bwt.trans (kr1.below (fun k hk => (hP k hk).1) bwt.size)).trans (kr2.below hQ (by have := bwt.size; omega))
            have HCX : Hid (∀ W, Below w2.heap.size w2 W → (convert 22 9 (.slice A1 k1 c1)).run Tryd.prog W = .ok (.string (str X.s)) W) := fun W hW => rd12.conv (c := c1) hno1 W hW
            have HCY : Hid (∀ W, Below w2.heap.size w2 W → (convert 22 9 (.slice A2 k2 c2)).run Tryd.prog W = .ok (.string (str X.s)) W) := fun W hW => rd2.conv (c := c2) hno2 W hW
            have HCB : Hid (∀ W, Below w2.heap.size w2 W → (convert 22 9 (.slice Ab kR cb)).run Tryd.prog W = .ok (.string sb) W) := fun W hW => by rw [HSB.out]; exact rb2.conv (c := cb) hnb W hW
            have HCE : Hid (∀ W, Below w2.heap.size w2 W → W.cell? ⟨gQ, 3, none⟩ = some (.bool X.d) ∧ W.cell? ⟨gQ, 2, none⟩ = some (.int .i64 ((X.row.length : Nat) : Int)) ∧ W.cell? ⟨gQ, 0, none⟩ = some (.int .i64 (X.n : Int))) := fun W hW => (q2.after hW).cells
            have CDn := Lib.hid (fun (W : World) (h : Below w2.heap.size w2 W) => hDone W P1 gP X.n X.row X.d (p2.after h))
            have CCm := Lib.hid (fun (W : World) (h : Below w2.heap.size w2 W) => hCame W P1 gP X.n X.row X.d (p2.after h))
            have CLn := Lib.hid (fun (W : World) (h : Below w2.heap.size w2 W) => hLen W P1 gP X.n X.row X.d (p2.after h))
            have HEND : Hid (∀ W, Below w2.heap.size w2 W → ∃ (np2 : Nat) (row2 : List (Nat × List Nat)) (d2 : Bool) (PP QQ : Nat → Prop), PrS W PP gP np2 row2 d2 ∧ QrS W QQ gQ np2 row2 d2 ∧ row2.length ≤ 16 ∧ (∀ k, PP k → w.heap.size ≤ k ∧ ¬ QQ k) ∧ (∀ k, QQ k → w.heap.size ≤ k) ∧ Below w.heap.size w W) := fun W hW => ⟨X.n, X.row, X.d, P1, Q2, p2.after hW, q2.after hW, HNL.out, HP2.out, HQ2.out, Below.then_ bw2 hW⟩
            clear HP1 HP2 HQ2 p1 p2 q2 kr1 kr2 rb1 rb2 rd1 rd12 rd2 K1 K2 K2' bw2 HNL kcb
            obtain ⟨sx, hsx⟩ : ∃ s, s = str X.s := ⟨_, rfl⟩
            rw [← hsx] at HCX HCY
            generalize X.g = xg at *
            generalize X.d = xd at *
            generalize X.row.length = xl at *
            generalize X.n = xn at *
            have t1 : (sx.toList != sx.toList) = false := by simp
            have t2 : (xg != xg) = false := by simp
            have t3 : (sb.toList != sb.toList) = false := by simp
            have t4 : (xd != xd) = false := by simp
            have t5 : ((xl : Int) != (xl : Int)) = false := by simp
            have t6 : ((xn : Int) != (xn : Int)) = false := by simp
            have HK : Hid (∀ W, Below w2.heap.size w2 W → Below w2.heap.size w2 W ∧ (convert 22 9 (.slice A1 k1 c1)).run Tryd.prog W = .ok (.string sx) W ∧ (convert 22 9 (.slice A2 k2 c2)).run Tryd.prog W = .ok (.string sx) W ∧ (convert 22 9 (.slice Ab kR cb)).run Tryd.prog W = .ok (.string sb) W ∧ W.cell? ⟨gQ, 3, none⟩ = some (.bool xd) ∧ W.cell? ⟨gQ, 2, none⟩ = some (.int .i64 (xl : Int)) ∧ W.cell? ⟨gQ, 0, none⟩ = some (.int .i64 (xn : Int))) := fun W h => ⟨h, HCX.out W h, HCY.out W h, HCB.out W h, (HCE.out W h).1, (HCE.out W h).2.1, (HCE.out W h).2.2⟩
            have hS0 := HK.out w2.drew (below_drawn 1)
            clear hsx HCX HCY HCB HCE
            go_upto_region 21 with fail
            refine wp_region_noPanic ?_
            refine wp_region_held_drew (S := fun W => Below w2.heap.size w2 W ∧ (convert 22 9 (.slice A1 k1 c1)).run Tryd.prog W = .ok (.string sx) W ∧ (convert 22 9 (.slice A2 k2 c2)).run Tryd.prog W = .ok (.string sx) W ∧ (convert 22 9 (.slice Ab kR cb)).run Tryd.prog W = .ok (.string sb) W ∧ W.cell? ⟨gQ, 3, none⟩ = some (.bool xd) ∧ W.cell? ⟨gQ, 2, none⟩ = some (.int .i64 (xl : Int)) ∧ W.cell? ⟨gQ, 0, none⟩ = some (.int .i64 (xn : Int))) (by kernel_rfl) hS0 (fun hHeld => ?_)
            refine wpAnyH_take (i := 0) (oi := ⟨some 140, _, _, _, _, _⟩) (v := ?_) rfl (by kernel_rfl) (by kernel_rfl) (by kernel_rfl) (fun _ _ _ h => h) (Or.inl ⟨by rfl, ?_⟩) hHeld ?_
            rotate_left
            · intro W hSW; obtain ⟨hSW0, hSW1, hSW2, hSW3, hSW4, hSW5, hSW6⟩ := hSW; go_simp; first | done | with_reducible rfl
            (try simp only [Act.put, List.setIfInBounds_toArray, List.set_cons_zero, List.set_cons_succ])
            refine wpAnyH_take (i := 1) (oi := ⟨some 141, _, _, _, _, _⟩) (v := ?_) rfl (by kernel_rfl) (by kernel_rfl) (by kernel_rfl) (fun _ _ _ h => h) (Or.inl ⟨by rfl, ?_⟩) hHeld ?_
            rotate_left
            · intro W hSW; obtain ⟨hSW0, hSW1, hSW2, hSW3, hSW4, hSW5, hSW6⟩ := hSW; go_simp; first | done | with_reducible rfl
            (try simp only [Act.put, List.setIfInBounds_toArray, List.set_cons_zero, List.set_cons_succ])
            refine wpAnyH_take (i := 2) (oi := ⟨some 142, _, _, _, _, _⟩) (v := ?_) rfl (by kernel_rfl) (by kernel_rfl) (by kernel_rfl) (fun _ _ _ h => h) (Or.inl ⟨by rfl, ?_⟩) hHeld ?_
            rotate_left
            · intro W hSW; obtain ⟨hSW0, hSW1, hSW2, hSW3, hSW4, hSW5, hSW6⟩ := hSW; go_simp; first | done | with_reducible rfl
            (try simp only [Act.put, List.setIfInBounds_toArray, List.set_cons_zero, List.set_cons_succ])
            refine wpAnyH_take (i := 3) (oi := ⟨some 143, _, _, _, _, _⟩) (v := ?_) rfl (by kernel_rfl) (by kernel_rfl) (by kernel_rfl) (fun _ _ _ h => h) (Or.inl ⟨by rfl, ?_⟩) hHeld ?_
            rotate_left
            · intro W hSW; obtain ⟨hSW0, hSW1, hSW2, hSW3, hSW4, hSW5, hSW6⟩ := hSW; go_simp; first | done | with_reducible rfl
            (try simp only [Act.put, List.setIfInBounds_toArray, List.set_cons_zero, List.set_cons_succ])
            refine wpAnyH_take (i := 4) (oi := ⟨some 144, _, _, _, _, _⟩) (v := ?_) rfl (by kernel_rfl) (by kernel_rfl) (by kernel_rfl) (fun _ _ _ h => h) (Or.inl ⟨by rfl, ?_⟩) hHeld ?_
            rotate_left
            · intro W hSW; obtain ⟨hSW0, hSW1, hSW2, hSW3, hSW4, hSW5, hSW6⟩ := hSW; go_simp; first | done | with_reducible rfl
            (try simp only [Act.put, List.setIfInBounds_toArray, List.set_cons_zero, List.set_cons_succ])
            refine wpAnyH_take (i := 5) (oi := ⟨some 145, _, _, _, _, _⟩) (v := ?_) rfl (by kernel_rfl) (by kernel_rfl) (by kernel_rfl) (fun _ _ _ h => h) (Or.inl ⟨by rfl, ?_⟩) hHeld ?_
            rotate_left
            · intro W hSW; obtain ⟨hSW0, hSW1, hSW2, hSW3, hSW4, hSW5, hSW6⟩ := hSW; go_simp; first | done | with_reducible rfl
            (try simp only [Act.put, List.setIfInBounds_toArray, List.set_cons_zero, List.set_cons_succ])
            refine wpAnyH_take (i := 6) (oi := ⟨some 146, _, _, _, _, _⟩) (v := ?_) rfl (by kernel_rfl) (by kernel_rfl) (by kernel_rfl) (fun _ _ _ h => h) (Or.inl ⟨by rfl, ?_⟩) hHeld ?_
            rotate_left
            · intro W hSW; obtain ⟨hSW0, hSW1, hSW2, hSW3, hSW4, hSW5, hSW6⟩ := hSW; go_simp; first | done | with_reducible rfl
            (try simp only [Act.put, List.setIfInBounds_toArray, List.set_cons_zero, List.set_cons_succ])
            refine wpAnyH_take (i := 7) (oi := ⟨some 147, _, _, _, _, _⟩) (v := ?_) rfl (by kernel_rfl) (by kernel_rfl) (by kernel_rfl) (fun _ _ _ h => h) (Or.inl ⟨by rfl, ?_⟩) hHeld ?_
            rotate_left
            · intro W hSW; obtain ⟨hSW0, hSW1, hSW2, hSW3, hSW4, hSW5, hSW6⟩ := hSW; go_simp; first | done | with_reducible rfl
            (try simp only [Act.put, List.setIfInBounds_toArray, List.set_cons_zero, List.set_cons_succ])
            refine wpAnyH_take (i := 8) (oi := ⟨some 148, _, _, _, _, _⟩) (v := ?_) rfl (by kernel_rfl) (by kernel_rfl) (by kernel_rfl) (fun _ _ _ h => h) (Or.inl ⟨by rfl, ?_⟩) hHeld ?_
            rotate_left
            · intro W hSW; obtain ⟨hSW0, hSW1, hSW2, hSW3, hSW4, hSW5, hSW6⟩ := hSW; go_simp; first | done | with_reducible rfl
            (try simp only [Act.put, List.setIfInBounds_toArray, List.set_cons_zero, List.set_cons_succ])
            refine wpAnyH_take (i := 9) (oi := ⟨some 149, _, _, _, _, _⟩) (v := ?_) rfl (by kernel_rfl) (by kernel_rfl) (by kernel_rfl) (fun _ _ _ h => h) (Or.inl ⟨by rfl, ?_⟩) hHeld ?_
            rotate_left
            · intro W hSW; obtain ⟨hSW0, hSW1, hSW2, hSW3, hSW4, hSW5, hSW6⟩ := hSW; go_simp; first | done | with_reducible rfl
            (try simp only [Act.put, List.setIfInBounds_toArray, List.set_cons_zero, List.set_cons_succ])
            refine wpAnyH_take (i := 10) (oi := ⟨some 150, _, _, _, _, _⟩) (v := ?_) rfl (by kernel_rfl) (by kernel_rfl) (by kernel_rfl) (fun _ _ _ h => h) (Or.inl ⟨by rfl, ?_⟩) hHeld ?_
            rotate_left
            · intro W hSW; obtain ⟨hSW0, hSW1, hSW2, hSW3, hSW4, hSW5, hSW6⟩ := hSW; go_simp; first | done | with_reducible rfl
            (try simp only [Act.put, List.setIfInBounds_toArray, List.set_cons_zero, List.set_cons_succ])
            refine wpAnyH_take (i := 11) (oi := ⟨some 151, _, _, _, _, _⟩) (v := ?_) rfl (by kernel_rfl) (by kernel_rfl) (by kernel_rfl) (fun _ _ _ h => h) (Or.inl ⟨by rfl, ?_⟩) hHeld ?_
            rotate_left
            · intro W hSW; obtain ⟨hSW0, hSW1, hSW2, hSW3, hSW4, hSW5, hSW6⟩ := hSW; go_simp; first | done | with_reducible rfl
            (try simp only [Act.put, List.setIfInBounds_toArray, List.set_cons_zero, List.set_cons_succ])
            refine wpAnyH_take (i := 12) (oi := ⟨some 152, _, _, _, _, _⟩) (v := ?_) rfl (by kernel_rfl) (by kernel_rfl) (by kernel_rfl) (fun _ _ _ h => h) (Or.inl ⟨by rfl, ?_⟩) hHeld ?_
            rotate_left
            · intro W hSW; obtain ⟨hSW0, hSW1, hSW2, hSW3, hSW4, hSW5, hSW6⟩ := hSW; go_simp; first | done | with_reducible rfl
            (try simp only [Act.put, List.setIfInBounds_toArray, List.set_cons_zero, List.set_cons_succ])
            refine wpAnyH_take (i := 13) (oi := ⟨some 153, _, _, _, _, _⟩) (v := ?_) rfl (by kernel_rfl) (by kernel_rfl) (by kernel_rfl) (fun _ _ _ h => h) (Or.inl ⟨by rfl, ?_⟩) hHeld ?_
            rotate_left
            · intro W hSW; obtain ⟨hSW0, hSW1, hSW2, hSW3, hSW4, hSW5, hSW6⟩ := hSW; go_simp; first | done | with_reducible rfl
            (try simp only [Act.put, List.setIfInBounds_toArray, List.set_cons_zero, List.set_cons_succ])
            refine wpAnyH_take (i := 14) (oi := ⟨some 154, _, _, _, _, _⟩) (v := ?_) rfl (by kernel_rfl) (by kernel_rfl) (by kernel_rfl) (fun _ _ _ h => h) (Or.inl ⟨by rfl, ?_⟩) hHeld ?_
            rotate_left
            · intro W hSW; obtain ⟨hSW0, hSW1, hSW2, hSW3, hSW4, hSW5, hSW6⟩ := hSW; go_simp; first | done | with_reducible rfl
            (try simp only [Act.put, List.setIfInBounds_toArray, List.set_cons_zero, List.set_cons_succ])
            refine wpAnyH_take (i := 15) (oi := ⟨some 155, _, _, _, _, _⟩) (v := ?_) rfl (by kernel_rfl) (by kernel_rfl) (by kernel_rfl) (fun _ _ _ h => h) (Or.inl ⟨by rfl, ?_⟩) hHeld ?_
            rotate_left
            · intro W hSW; obtain ⟨hSW0, hSW1, hSW2, hSW3, hSW4, hSW5, hSW6⟩ := hSW; go_simp; first | done | with_reducible rfl
            (try simp only [Act.put, List.setIfInBounds_toArray, List.set_cons_zero, List.set_cons_succ])
            refine wpAnyH_take (i := 16) (oi := ⟨some 156, _, _, _, _, _⟩) (v := ?_) rfl (by kernel_rfl) (by kernel_rfl) (by kernel_rfl) (fun _ _ _ h => h) (Or.inl ⟨by rfl, ?_⟩) hHeld ?_
            rotate_left
            · intro W hSW; obtain ⟨hSW0, hSW1, hSW2, hSW3, hSW4, hSW5, hSW6⟩ := hSW; go_simp; first | done | with_reducible rfl
            (try simp only [Act.put, List.setIfInBounds_toArray, List.set_cons_zero, List.set_cons_succ])
            refine wpAnyH_take (i := 17) (oi := ⟨some 157, _, _, _, _, _⟩) (v := ?_) rfl (by kernel_rfl) (by kernel_rfl) (by kernel_rfl) (fun _ _ _ h => h) (Or.inl ⟨by rfl, ?_⟩) hHeld ?_
            rotate_left
            · intro W hSW; obtain ⟨hSW0, hSW1, hSW2, hSW3, hSW4, hSW5, hSW6⟩ := hSW; go_simp; first | done | with_reducible rfl
            (try simp only [Act.put, List.setIfInBounds_toArray, List.set_cons_zero, List.set_cons_succ])
            refine wpAnyH_take (i := 19) (oi := ⟨some 159, _, _, _, _, _⟩) (v := ?_) rfl (by kernel_rfl) (by kernel_rfl) (by kernel_rfl) (fun _ _ _ h => h) (Or.inl ⟨by rfl, ?_⟩) hHeld ?_
            rotate_left
            · intro W hSW; obtain ⟨hSW0, hSW1, hSW2, hSW3, hSW4, hSW5, hSW6⟩ := hSW; go_simp; first | done | with_reducible rfl
            (try simp only [Act.put, List.setIfInBounds_toArray, List.set_cons_zero, List.set_cons_succ])
            refine wpAnyH_take (i := 20) (oi := ⟨some 160, _, _, _, _, _⟩) (v := ?_) rfl (by kernel_rfl) (by kernel_rfl) (by kernel_rfl) (fun _ _ _ h => h) (Or.inl ⟨by rfl, ?_⟩) hHeld ?_
            rotate_left
            · intro W hSW; obtain ⟨hSW0, hSW1, hSW2, hSW3, hSW4, hSW5, hSW6⟩ := hSW; go_simp; first | done | with_reducible rfl
            (try simp only [Act.put, List.setIfInBounds_toArray, List.set_cons_zero, List.set_cons_succ])
            refine wpAnyH_take (i := 21) (oi := ⟨some 161, _, _, _, _, _⟩) (v := ?_) rfl (by kernel_rfl) (by kernel_rfl) (by kernel_rfl) (fun _ _ _ h => h) (Or.inl ⟨by rfl, ?_⟩) hHeld ?_
            rotate_left
            · intro W hSW; obtain ⟨hSW0, hSW1, hSW2, hSW3, hSW4, hSW5, hSW6⟩ := hSW; go_simp; first | done | with_reducible rfl
            (try simp only [Act.put, List.setIfInBounds_toArray, List.set_cons_zero, List.set_cons_succ])
            refine wpAnyH_take (i := 22) (oi := ⟨some 162, _, _, _, _, _⟩) (v := ?_) rfl (by kernel_rfl) (by kernel_rfl) (by kernel_rfl) (fun _ _ _ h => h) (Or.inl ⟨by rfl, ?_⟩) hHeld ?_
            rotate_left
            · intro W hSW; obtain ⟨hSW0, hSW1, hSW2, hSW3, hSW4, hSW5, hSW6⟩ := hSW; go_simp; first | done | with_reducible rfl
            (try simp only [Act.put, List.setIfInBounds_toArray, List.set_cons_zero, List.set_cons_succ])
            refine wpAnyH_ready (rs := [18]) (by kernel_rfl) (by simp) ?_
            refine AllReadyH.cons (o := ⟨some 158, _, _, _, _, _⟩) rfl (fun K hK => ?_) (AllReadyH.nil)
            go_simp
            refine (CDn.out _ hHeld.1).mono ?_
            rintro e W' ⟨rfl, rfl⟩
            have hS2 := hHeld
            clear hHeld
            refine hK.out _ _ ?_ (fun hHeld => ?_)
            · exact hS2
            clear hK K
            (try simp only [Act.put, List.setIfInBounds_toArray, List.set_cons_zero, List.set_cons_succ])
            clear hS2
            refine wpAnyH_take (i := 23) (oi := ⟨some 163, _, _, _, _, _⟩) (v := ?_) rfl (by kernel_rfl) (by kernel_rfl) (by kernel_rfl) (fun _ _ _ h => h) (Or.inl ⟨by rfl, ?_⟩) hHeld ?_
            rotate_left
            · intro W hSW; obtain ⟨hSW0, hSW1, hSW2, hSW3, hSW4, hSW5, hSW6⟩ := hSW; go_simp; first | done | with_reducible rfl
            (try simp only [Act.put, List.setIfInBounds_toArray, List.set_cons_zero, List.set_cons_succ])
            refine wpAnyH_take (i := 24) (oi := ⟨some 164, _, _, _, _, _⟩) (v := ?_) rfl (by kernel_rfl) (by kernel_rfl) (by kernel_rfl) (fun _ _ _ h => h) (Or.inl ⟨by rfl, ?_⟩) hHeld ?_
            rotate_left
            · intro W hSW; obtain ⟨hSW0, hSW1, hSW2, hSW3, hSW4, hSW5, hSW6⟩ := hSW; go_simp; first | done | with_reducible rfl
            (try simp only [Act.put, List.setIfInBounds_toArray, List.set_cons_zero, List.set_cons_succ])
            refine wpAnyH_take (i := 25) (oi := ⟨some 165, _, _, _, _, _⟩) (v := ?_) rfl (by kernel_rfl) (by kernel_rfl) (by kernel_rfl) (fun _ _ _ h => h) (Or.inl ⟨by rfl, ?_⟩) hHeld ?_
            rotate_left
            · intro W hSW; obtain ⟨hSW0, hSW1, hSW2, hSW3, hSW4, hSW5, hSW6⟩ := hSW; go_simp; first | done | with_reducible rfl
            (try simp only [Act.put, List.setIfInBounds_toArray, List.set_cons_zero, List.set_cons_succ])
            refine wpAnyH_take (i := 26) (oi := ⟨some 166, _, _, _, _, _⟩) (v := ?_) rfl (by kernel_rfl) (by kernel_rfl) (by kernel_rfl) (fun _ _ _ h => h) (Or.inl ⟨by rfl, ?_⟩) hHeld ?_
            rotate_left
            · intro W hSW; obtain ⟨hSW0, hSW1, hSW2, hSW3, hSW4, hSW5, hSW6⟩ := hSW; go_simp; first | done | with_reducible rfl
            (try simp only [Act.put, List.setIfInBounds_toArray, List.set_cons_zero, List.set_cons_succ])
            refine wpAnyH_take (i := 28) (oi := ⟨some 168, _, _, _, _, _⟩) (v := ?_) rfl (by kernel_rfl) (by kernel_rfl) (by kernel_rfl) (fun _ _ _ h => h) (Or.inl ⟨by rfl, ?_⟩) hHeld ?_
            rotate_left
            · intro W hSW; obtain ⟨hSW0, hSW1, hSW2, hSW3, hSW4, hSW5, hSW6⟩ := hSW; go_simp; first | done | with_reducible rfl
            (try simp only [Act.put, List.setIfInBounds_toArray, List.set_cons_zero, List.set_cons_succ])
            refine wpAnyH_take (i := 29) (oi := ⟨some 169, _, _, _, _, _⟩) (v := ?_) rfl (by kernel_rfl) (by kernel_rfl) (by kernel_rfl) (fun _ _ _ h => h) (Or.inl ⟨by rfl, ?_⟩) hHeld ?_
            rotate_left
            · intro W hSW; obtain ⟨hSW0, hSW1, hSW2, hSW3, hSW4, hSW5, hSW6⟩ := hSW; go_simp; first | done | with_reducible rfl
            (try simp only [Act.put, List.setIfInBounds_toArray, List.set_cons_zero, List.set_cons_succ])
            refine wpAnyH_take (i := 30) (oi := ⟨some 170, _, _, _, _, _⟩) (v := ?_) rfl (by kernel_rfl) (by kernel_rfl) (by kernel_rfl) (fun _ _ _ h => h) (Or.inl ⟨by rfl, ?_⟩) hHeld ?_
            rotate_left
            · intro W hSW; obtain ⟨hSW0, hSW1, hSW2, hSW3, hSW4, hSW5, hSW6⟩ := hSW; go_simp; first | done | with_reducible rfl
            (try simp only [Act.put, List.setIfInBounds_toArray, List.set_cons_zero, List.set_cons_succ])
            refine wpAnyH_take (i := 31) (oi := ⟨some 171, _, _, _, _, _⟩) (v := ?_) rfl (by kernel_rfl) (by kernel_rfl) (by kernel_rfl) (fun _ _ _ h => h) (Or.inl ⟨by rfl, ?_⟩) hHeld ?_
            rotate_left
            · intro W hSW; obtain ⟨hSW0, hSW1, hSW2, hSW3, hSW4, hSW5, hSW6⟩ := hSW; go_simp; first | done | with_reducible rfl
            (try simp only [Act.put, List.setIfInBounds_toArray, List.set_cons_zero, List.set_cons_succ])
            refine wpAnyH_ready (rs := [27]) (by kernel_rfl) (by simp) ?_
            refine AllReadyH.cons (o := ⟨some 167, _, _, _, _, _⟩) rfl (fun K hK => ?_) (AllReadyH.nil)
            go_simp
            refine (CCm.out _ hHeld.1).mono ?_
            rintro e W' ⟨rfl, rfl⟩
            have hS2 := hHeld
            clear hHeld
            refine hK.out _ _ ?_ (fun hHeld => ?_)
            · exact hS2
            clear hK K
            (try simp only [Act.put, List.setIfInBounds_toArray, List.set_cons_zero, List.set_cons_succ])
            clear hS2
            refine wpAnyH_take (i := 32) (oi := ⟨some 172, _, _, _, _, _⟩) (v := ?_) rfl (by kernel_rfl) (by kernel_rfl) (by kernel_rfl) (fun _ _ _ h => h) (Or.inl ⟨by rfl, ?_⟩) hHeld ?_
            rotate_left
            · intro W hSW; obtain ⟨hSW0, hSW1, hSW2, hSW3, hSW4, hSW5, hSW6⟩ := hSW; go_simp; first | done | with_reducible rfl
            (try simp only [Act.put, List.setIfInBounds_toArray, List.set_cons_zero, List.set_cons_succ])
            refine wpAnyH_take (i := 33) (oi := ⟨some 173, _, _, _, _, _⟩) (v := ?_) rfl (by kernel_rfl) (by kernel_rfl) (by kernel_rfl) (fun _ _ _ h => h) (Or.inl ⟨by rfl, ?_⟩) hHeld ?_
            rotate_left
            · intro W hSW; obtain ⟨hSW0, hSW1, hSW2, hSW3, hSW4, hSW5, hSW6⟩ := hSW; go_simp; first | done | with_reducible rfl
            (try simp only [Act.put, List.setIfInBounds_toArray, List.set_cons_zero, List.set_cons_succ])
            refine wpAnyH_take (i := 34) (oi := ⟨some 174, _, _, _, _, _⟩) (v := ?_) rfl (by kernel_rfl) (by kernel_rfl) (by kernel_rfl) (fun _ _ _ h => h) (Or.inl ⟨by rfl, ?_⟩) hHeld ?_
            rotate_left
            · intro W hSW; obtain ⟨hSW0, hSW1, hSW2, hSW3, hSW4, hSW5, hSW6⟩ := hSW; go_simp; first | done | with_reducible rfl
            (try simp only [Act.put, List.setIfInBounds_toArray, List.set_cons_zero, List.set_cons_succ])
            refine wpAnyH_take (i := 35) (oi := ⟨some 175, _, _, _, _, _⟩) (v := ?_) rfl (by kernel_rfl) (by kernel_rfl) (by kernel_rfl) (fun _ _ _ h => h) (Or.inl ⟨by rfl, ?_⟩) hHeld ?_
            rotate_left
            · intro W hSW; obtain ⟨hSW0, hSW1, hSW2, hSW3, hSW4, hSW5, hSW6⟩ := hSW; go_simp; first | done | with_reducible rfl
            (try simp only [Act.put, List.setIfInBounds_toArray, List.set_cons_zero, List.set_cons_succ])
            refine wpAnyH_take (i := 37) (oi := ⟨some 177, _, _, _, _, _⟩) (v := ?_) rfl (by kernel_rfl) (by kernel_rfl) (by kernel_rfl) (fun _ _ _ h => h) (Or.inl ⟨by rfl, ?_⟩) hHeld ?_
            rotate_left
            · intro W hSW; obtain ⟨hSW0, hSW1, hSW2, hSW3, hSW4, hSW5, hSW6⟩ := hSW; go_simp; first | done | with_reducible rfl
            (try simp only [Act.put, List.setIfInBounds_toArray, List.set_cons_zero, List.set_cons_succ])
            refine wpAnyH_take (i := 38) (oi := ⟨some 178, _, _, _, _, _⟩) (v := ?_) rfl (by kernel_rfl) (by kernel_rfl) (by kernel_rfl) (fun _ _ _ h => h) (Or.inl ⟨by rfl, ?_⟩) hHeld ?_
            rotate_left
            · intro W hSW; obtain ⟨hSW0, hSW1, hSW2, hSW3, hSW4, hSW5, hSW6⟩ := hSW; go_simp; first | done | with_reducible rfl
            (try simp only [Act.put, List.setIfInBounds_toArray, List.set_cons_zero, List.set_cons_succ])
            refine wpAnyH_take (i := 39) (oi := ⟨some 179, _, _, _, _, _⟩) (v := ?_) rfl (by kernel_rfl) (by kernel_rfl) (by kernel_rfl) (fun _ _ _ h => h) (Or.inl ⟨by rfl, ?_⟩) hHeld ?_
            rotate_left
            · intro W hSW; obtain ⟨hSW0, hSW1, hSW2, hSW3, hSW4, hSW5, hSW6⟩ := hSW; go_simp; first | done | with_reducible rfl
            (try simp only [Act.put, List.setIfInBounds_toArray, List.set_cons_zero, List.set_cons_succ])
            refine wpAnyH_take (i := 40) (oi := ⟨some 180, _, _, _, _, _⟩) (v := ?_) rfl (by kernel_rfl) (by kernel_rfl) (by kernel_rfl) (fun _ _ _ h => h) (Or.inl ⟨by rfl, ?_⟩) hHeld ?_
            rotate_left
            · intro W hSW; obtain ⟨hSW0, hSW1, hSW2, hSW3, hSW4, hSW5, hSW6⟩ := hSW; go_simp; first | done | with_reducible rfl
            (try simp only [Act.put, List.setIfInBounds_toArray, List.set_cons_zero, List.set_cons_succ])
            refine wpAnyH_ready (rs := [36]) (by kernel_rfl) (by simp) ?_
            refine AllReadyH.cons (o := ⟨some 176, _, _, _, _, _⟩) rfl (fun K hK => ?_) (AllReadyH.nil)
            go_simp
            refine (CLn.out _ hHeld.1).mono ?_
            rintro e W' ⟨rfl, rfl⟩
            have hS2 := hHeld
            clear hHeld
            refine hK.out _ _ ?_ (fun hHeld => ?_)
            · exact hS2
            clear hK K
            (try simp only [Act.put, List.setIfInBounds_toArray, List.set_cons_zero, List.set_cons_succ])
            clear hS2
            refine wpAnyH_take (i := 41) (oi := ⟨some 181, _, _, _, _, _⟩) (v := ?_) rfl (by kernel_rfl) (by kernel_rfl) (by kernel_rfl) (fun _ _ _ h => h) (Or.inl ⟨by rfl, ?_⟩) hHeld ?_
            rotate_left
            · intro W hSW; obtain ⟨hSW0, hSW1, hSW2, hSW3, hSW4, hSW5, hSW6⟩ := hSW; go_simp; first | done | with_reducible rfl
            (try simp only [Act.put, List.setIfInBounds_toArray, List.set_cons_zero, List.set_cons_succ])
            refine wpAnyH_take (i := 42) (oi := ⟨some 182, _, _, _, _, _⟩) (v := ?_) rfl (by kernel_rfl) (by kernel_rfl) (by kernel_rfl) (fun _ _ _ h => h) (Or.inl ⟨by rfl, ?_⟩) hHeld ?_
            rotate_left
            · intro W hSW; obtain ⟨hSW0, hSW1, hSW2, hSW3, hSW4, hSW5, hSW6⟩ := hSW; go_simp; first | done | with_reducible rfl
            (try simp only [Act.put, List.setIfInBounds_toArray, List.set_cons_zero, List.set_cons_succ])
            refine wpAnyH_done (by kernel_rfl) ?_ _
            refine NoPanic.normal ?_
            have bz := hHeld.1
            clear hHeld
            obtain ⟨np2, row2, d2, PP, QQ, e1, e2, e3, e4, e5, e6⟩ := HEND.out _ bz
            go_wp2
            go_roundw
            case rel => first | exact ⟨i + 1, by omega, by omega, by go_num, np2, row2, d2, PP, QQ, e1, e2, e3, e4, e5, e6⟩ | ((repeat apply Exists.intro); exact ⟨⟨i + 1, by omega, by omega, by go_num, np2, row2, d2, PP, QQ, e1, e2, e3, e4, e5, e6⟩, rfl⟩)
            case measure => simp [intOf] <;> omega
        · have dg : decide ((0 : Int) < (aL : Int)) = true := by simp; omega
          have dv1 : decide ((0 : Int) ≤ ev) = false := by simp; omega
          have rb := ob.rd
          have hnb : Ab = none → kR = 0 := fun e => (ob.none_ e).1
          have hb256 := HR256.out
          have hkb : kR ≤ 65536 := by omega
          have hAb : ∀ b off, Ab = some ⟨b, off, none⟩ → wr.heap.size ≤ b := fun b off e => by have := (ob.block b (by rw [e]; rfl)).1; have := bwc.size; have h2 : wc.drew.heap.size = wc.heap.size := rfl; omega
          have prt := pr.after bwb
          have qrt := qr.after bwb
          have bwt := Below.then_ bw bwb
          clear ob qb k0b
          have kcb := rb.conv (c := cb) hnb wb (Below.refl _ _)
          have bwt2 := bwt
          have K1 := Lib.hid (offerN wb P gP np row d en ev Ab kR cb rw0 prt rb hb256 hkb (fun b off e h => by have := prt.lt b h; have := hAb b off e; have := pr0lt b h; omega) (fun h => by have := (hP 0 h).1; omega) (hT.after bwt))
          have K2 := Lib.hid (fun (W : World) (hk : Kr wb W P) => docN W Q gQ np row d en ev Ab kR cb rw0 (qrt.of_heap (fun k hk2 => hk.block k (qrt.lt k hk2) (fun h => (hP k h).2 hk2)) hk.size) hrl (rb.krA hk (fun b off e h => by have := hAb b off e; have := pr0lt b h; omega)) hb256 hkb (fun b off e h => by have := hAb b off e; have := qr0lt b h; omega))
          have HNL := Lib.hid (nxt_len np row d en ev kR rw0 hrl)
          obtain ⟨sb, hsb⟩ : ∃ s, s = str rw0 := ⟨_, rfl⟩
          rw [← hsb] at kcb
          have HSB := Lib.hid hsb
          clear hsb
          generalize nxt np row d en ev kR rw0 = X at *
          go_upto_region 19 with fail
          go_wp2_with fail
          refine K1.out.mono ?_
          rintro e w1 ⟨⟨A1, k1, c1, rfl, rd1, hno1, hA1⟩, ⟨P1, hP1, p1⟩, kr1⟩
          have K2' := Lib.hid (K2.out w1 kr1)
          go_wp2_with fail
          refine K2'.out.mono ?_
          rintro e w2 ⟨⟨A2, k2, c2, rfl, rd2, hno2⟩, ⟨Q2, hQ2, q2⟩, kr2⟩
          have rb1 := rb.krA kr1 (fun b off e h => by have := hAb b off e; have := pr0lt b h; omega)
          have rb2 := rb1.krA kr2 (fun b off e h => by have := hAb b off e; have := qr0lt b h; omega)
          have rd12 := rd1.krA kr2 (fun b off e h => by have := hA1 b off e; have := qrt.lt b h; omega)
          have hs1 := kr1.size
          have hs2 := kr2.size
          have HP1 : Hid (∀ k, P1 k → w.heap.size ≤ k ∧ ¬ Q k) := fun k hk => by
            rcases hP1 k hk with h | h
            · exact hP k h
            · have := bwt.size
              exact ⟨by omega, fun hq => by have := qrt.lt k hq; omega⟩
          have p2 := p1.of_heap (w' := w2) (fun k hk => kr2.block k (p1.lt k hk) (HP1.out k hk).2) hs2
          have HP2 : Hid (∀ k, P1 k → w.heap.size ≤ k ∧ ¬ Q2 k) := fun k hk => ⟨(HP1.out k hk).1, fun hq => by
            rcases hQ2 k hq with h | h
            · exact (HP1.out k hk).2 h
            · have := p1.lt k hk; omega⟩
          have HQ2 : Hid (∀ k, Q2 k → w.heap.size ≤ k) := fun k hk => by
            rcases hQ2 k hk with h | h
            · exact hQ k h
            · have := bwt.size; omega
          have bw2 : Below w.heap.size w w2 := (bwt.trans (kr1.below (fun k hk => (hP k hk).1) bwt.size)).trans (kr2.below hQ (by have := bwt.size; omega))
          have HCX : Hid (∀ W, Below w2.heap.size w2 W → (convert 22 9 (.slice A1 k1 c1)).run Tryd.prog W = .ok (.string (str X.s)) W) := fun W hW => rd12.conv (c := c1) hno1 W hW
          have HCY : Hid (∀ W, Below w2.heap.size w2 W → (convert 22 9 (.slice A2 k2 c2)).run Tryd.prog W = .ok (.string (str X.s)) W) := fun W hW => rd2.conv (c := c2) hno2 W hW
          have HCB : Hid (∀ W, Below w2.heap.size w2 W → (convert 22 9 (.slice Ab kR cb)).run Tryd.prog W = .ok (.string sb) W) := fun W hW => by rw [HSB.out]; exact rb2.conv (c := cb) hnb W hW
          have HCE : Hid (∀ W, Below w2.heap.size w2 W → W.cell? ⟨gQ, 3, none⟩ = some (.bool X.d) ∧ W.cell? ⟨gQ, 2, none⟩ = some (.int .i64 ((X.row.length : Nat) : Int)) ∧ W.cell? ⟨gQ, 0, none⟩ = some (.int .i64 (X.n : Int))) := fun W hW => (q2.after hW).cells
          have CDn := Lib.hid (fun (W : World) (h : Below w2.heap.size w2 W) => hDone W P1 gP X.n X.row X.d (p2.after h))
          have CCm := Lib.hid (fun (W : World) (h : Below w2.heap.size w2 W) => hCame W P1 gP X.n X.row X.d (p2.after h))
          have CLn := Lib.hid (fun (W : World) (h : Below w2.heap.size w2 W) => hLen W P1 gP X.n X.row X.d (p2.after h))
          have HEND : Hid (∀ W, Below w2.heap.size w2 W → ∃ (np2 : Nat) (row2 : List (Nat × List Nat)) (d2 : Bool) (PP QQ : Nat → Prop), PrS W PP gP np2 row2 d2 ∧ QrS W QQ gQ np2 row2 d2 ∧ row2.length ≤ 16 ∧ (∀ k, PP k → w.heap.size ≤ k ∧ ¬ QQ k) ∧ (∀ k, QQ k → w.heap.size ≤ k) ∧ Below w.heap.size w W) := fun W hW => ⟨X.n, X.row, X.d, P1, Q2, p2.after hW, q2.after hW, HNL.out, HP2.out, HQ2.out, Below.then_ bw2 hW⟩
          clear HP1 HP2 HQ2 p1 p2 q2 kr1 kr2 rb1 rb2 rd1 rd12 rd2 K1 K2 K2' bw2 HNL kcb
          obtain ⟨sx, hsx⟩ : ∃ s, s = str X.s := ⟨_, rfl⟩
          rw [← hsx] at HCX HCY
          generalize X.g = xg at *
          generalize X.d = xd at *
          generalize X.row.length = xl at *
          generalize X.n = xn at *
          have t1 : (sx.toList != sx.toList) = false := by simp
          have t2 : (xg != xg) = false := by simp
          have t3 : (sb.toList != sb.toList) = false := by simp
          have t4 : (xd != xd) = false := by simp
          have t5 : ((xl : Int) != (xl : Int)) = false := by simp
          have t6 : ((xn : Int) != (xn : Int)) = false := by simp
          have HK : Hid (∀ W, Below w2.heap.size w2 W → Below w2.heap.size w2 W ∧ (convert 22 9 (.slice A1 k1 c1)).run Tryd.prog W = .ok (.string sx) W ∧ (convert 22 9 (.slice A2 k2 c2)).run Tryd.prog W = .ok (.string sx) W ∧ (convert 22 9 (.slice Ab kR cb)).run Tryd.prog W = .ok (.string sb) W ∧ W.cell? ⟨gQ, 3, none⟩ = some (.bool xd) ∧ W.cell? ⟨gQ, 2, none⟩ = some (.int .i64 (xl : Int)) ∧ W.cell? ⟨gQ, 0, none⟩ = some (.int .i64 (xn : Int))) := fun W h => ⟨h, HCX.out W h, HCY.out W h, HCB.out W h, (HCE.out W h).1, (HCE.out W h).2.1, (HCE.out W h).2.2⟩
          have hS0 := HK.out w2.drew (below_drawn 1)
          clear hsx HCX HCY HCB HCE
          go_upto_region 21 with fail
          refine wp_region_noPanic ?_
          refine wp_region_held_drew (S := fun W => Below w2.heap.size w2 W ∧ (convert 22 9 (.slice A1 k1 c1)).run Tryd.prog W = .ok (.string sx) W ∧ (convert 22 9 (.slice A2 k2 c2)).run Tryd.prog W = .ok (.string sx) W ∧ (convert 22 9 (.slice Ab kR cb)).run Tryd.prog W = .ok (.string sb) W ∧ W.cell? ⟨gQ, 3, none⟩ = some (.bool xd) ∧ W.cell? ⟨gQ, 2, none⟩ = some (.int .i64 (xl : Int)) ∧ W.cell? ⟨gQ, 0, none⟩ = some (.int .i64 (xn : Int))) (by kernel_rfl) hS0 (fun hHeld => ?_)
          refine wpAnyH_take (i := 0) (oi := ⟨some 140, _, _, _, _, _⟩) (v := ?_) rfl (by kernel_rfl) (by kernel_rfl) (by kernel_rfl) (fun _ _ _ h => h) (Or.inl ⟨by rfl, ?_⟩) hHeld ?_
          rotate_left
          · intro W hSW; obtain ⟨hSW0, hSW1, hSW2, hSW3, hSW4, hSW5, hSW6⟩ := hSW; go_simp; first | done | with_reducible rfl
          (try simp only [Act.put, List.setIfInBounds_toArray, List.set_cons_zero, List.set_cons_succ])
          refine wpAnyH_take (i := 1) (oi := ⟨some 141, _, _, _, _, _⟩) (v := ?_) rfl (by kernel_rfl) (by kernel_rfl) (by kernel_rfl) (fun _ _ _ h => h) (Or.inl ⟨by rfl, ?_⟩) hHeld ?_
          rotate_left
          · intro W hSW; obtain ⟨hSW0, hSW1, hSW2, hSW3, hSW4, hSW5, hSW6⟩ := hSW; go_simp; first | done | with_reducible rfl
          (try simp only [Act.put, List.setIfInBounds_toArray, List.set_cons_zero, List.set_cons_succ])
          refine wpAnyH_take (i := 2) (oi := ⟨some 142, _, _, _, _, _⟩) (v := ?_) rfl (by kernel_rfl) (by kernel_rfl) (by kernel_rfl) (fun _ _ _ h => h) (Or.inl ⟨by rfl, ?_⟩) hHeld ?_
          rotate_left
          · intro W hSW; obtain ⟨hSW0, hSW1, hSW2, hSW3, hSW4, hSW5, hSW6⟩ := hSW; go_simp; first | done | with_reducible rfl
          (try simp only [Act.put, List.setIfInBounds_toArray, List.set_cons_zero, List.set_cons_succ])
          refine wpAnyH_take (i := 3) (oi := ⟨some 143, _, _, _, _, _⟩) (v := ?_) rfl (by kernel_rfl) (by kernel_rfl) (by kernel_rfl) (fun _ _ _ h => h) (Or.inl ⟨by rfl, ?_⟩) hHeld ?_
          rotate_left
          · intro W hSW; obtain ⟨hSW0, hSW1, hSW2, hSW3, hSW4, hSW5, hSW6⟩ := hSW; go_simp; first | done | with_reducible rfl
          (try simp only [Act.put, List.setIfInBounds_toArray, List.set_cons_zero, List.set_cons_succ])
          refine wpAnyH_take (i := 4) (oi := ⟨some 144, _, _, _, _, _⟩) (v := ?_) rfl (by kernel_rfl) (by kernel_rfl) (by kernel_rfl) (fun _ _ _ h => h) (Or.inl ⟨by rfl, ?_⟩) hHeld ?_
          rotate_left
          · intro W hSW; obtain ⟨hSW0, hSW1, hSW2, hSW3, hSW4, hSW5, hSW6⟩ := hSW; go_simp; first | done | with_reducible rfl
          (try simp only [Act.put, List.setIfInBounds_toArray, List.set_cons_zero, List.set_cons_succ])
          refine wpAnyH_take (i := 5) (oi := ⟨some 145, _, _, _, _, _⟩) (v := ?_) rfl (by kernel_rfl) (by kernel_rfl) (by kernel_rfl) (fun _ _ _ h => h) (Or.inl ⟨by rfl, ?_⟩) hHeld ?_
          rotate_left
          · intro W hSW; obtain ⟨hSW0, hSW1, hSW2, hSW3, hSW4, hSW5, hSW6⟩ := hSW; go_simp; first | done | with_reducible rfl
          (try simp only [Act.put, List.setIfInBounds_toArray, List.set_cons_zero, List.set_cons_succ])
          refine wpAnyH_take (i := 6) (oi := ⟨some 146, _, _, _, _, _⟩) (v := ?_) rfl (by kernel_rfl) (by kernel_rfl) (by kernel_rfl) (fun _ _ _ h => h) (Or.inl ⟨by rfl, ?_⟩) hHeld ?_
          rotate_left
          · intro W hSW; obtain ⟨hSW0, hSW1, hSW2, hSW3, hSW4, hSW5, hSW6⟩ := hSW; go_simp; first | done | with_reducible rfl
          (try simp only [Act.put, List.setIfInBounds_toArray, List.set_cons_zero, List.set_cons_succ])
          refine wpAnyH_take (i := 7) (oi := ⟨some 147, _, _, _, _, _⟩) (v := ?_) rfl (by kernel_rfl) (by kernel_rfl) (by kernel_rfl) (fun _ _ _ h => h) (Or.inl ⟨by rfl, ?_⟩) hHeld ?_
          rotate_left
          · intro W hSW; obtain ⟨hSW0, hSW1, hSW2, hSW3, hSW4, hSW5, hSW6⟩ := hSW; go_simp; first | done | with_reducible rfl
          (try simp only [Act.put, List.setIfInBounds_toArray, List.set_cons_zero, List.set_cons_succ])
          refine wpAnyH_take (i := 8) (oi := ⟨some 148, _, _, _, _, _⟩) (v := ?_) rfl (by kernel_rfl) (by kernel_rfl) (by kernel_rfl) (fun _ _ _ h => h) (Or.inl ⟨by rfl, ?_⟩) hHeld ?_
          rotate_left
          · intro W hSW; obtain ⟨hSW0, hSW1, hSW2, hSW3, hSW4, hSW5, hSW6⟩ := hSW; go_simp; first | done | with_reducible rfl
          (try simp only [Act.put, List.setIfInBounds_toArray, List.set_cons_zero, List.set_cons_succ])
          refine wpAnyH_take (i := 9) (oi := ⟨some 149, _, _, _, _, _⟩) (v := ?_) rfl (by kernel_rfl) (by kernel_rfl) (by kernel_rfl) (fun _ _ _ h => h) (Or.inl ⟨by rfl, ?_⟩) hHeld ?_
          rotate_left
          · intro W hSW; obtain ⟨hSW0, hSW1, hSW2, hSW3, hSW4, hSW5, hSW6⟩ := hSW; go_simp; first | done | with_reducible rfl
          (try simp only [Act.put, List.setIfInBounds_toArray, List.set_cons_zero, List.set_cons_succ])
          refine wpAnyH_take (i := 10) (oi := ⟨some 150, _, _, _, _, _⟩) (v := ?_) rfl (by kernel_rfl) (by kernel_rfl) (by kernel_rfl) (fun _ _ _ h => h) (Or.inl ⟨by rfl, ?_⟩) hHeld ?_
          rotate_left
          · intro W hSW; obtain ⟨hSW0, hSW1, hSW2, hSW3, hSW4, hSW5, hSW6⟩ := hSW; go_simp; first | done | with_reducible rfl
          (try simp only [Act.put, List.setIfInBounds_toArray, List.set_cons_zero, List.set_cons_succ])
          refine wpAnyH_take (i := 11) (oi := ⟨some 151, _, _, _, _, _⟩) (v := ?_) rfl (by kernel_rfl) (by kernel_rfl) (by kernel_rfl) (fun _ _ _ h => h) (Or.inl ⟨by rfl, ?_⟩) hHeld ?_
          rotate_left
          · intro W hSW; obtain ⟨hSW0, hSW1, hSW2, hSW3, hSW4, hSW5, hSW6⟩ := hSW; go_simp; first | done | with_reducible rfl
          (try simp only [Act.put, List.setIfInBounds_toArray, List.set_cons_zero, List.set_cons_succ])
          refine wpAnyH_take (i := 12) (oi := ⟨some 152, _, _, _, _, _⟩) (v := ?_) rfl (by kernel_rfl) (by kernel_rfl) (by kernel_rfl) (fun _ _ _ h => h) (Or.inl ⟨by rfl, ?_⟩) hHeld ?_
          rotate_left
          · intro W hSW; obtain ⟨hSW0, hSW1, hSW2, hSW3, hSW4, hSW5, hSW6⟩ := hSW; go_simp; first | done | with_reducible rfl
          (try simp only [Act.put, List.setIfInBounds_toArray, List.set_cons_zero, List.set_cons_succ])
          refine wpAnyH_take (i := 13) (oi := ⟨some 153, _, _, _, _, _⟩) (v := ?_) rfl (by kernel_rfl) (by kernel_rfl) (by kernel_rfl) (fun _ _ _ h => h) (Or.inl ⟨by rfl, ?_⟩) hHeld ?_
          rotate_left
          · intro W hSW; obtain ⟨hSW0, hSW1, hSW2, hSW3, hSW4, hSW5, hSW6⟩ := hSW; go_simp; first | done | with_reducible rfl
          (try simp only [Act.put, List.setIfInBounds_toArray, List.set_cons_zero, List.set_cons_succ])
          refine wpAnyH_take (i := 14) (oi := ⟨some 154, _, _, _, _, _⟩) (v := ?_) rfl (by kernel_rfl) (by kernel_rfl) (by kernel_rfl) (fun _ _ _ h => h) (Or.inl ⟨by rfl, ?_⟩) hHeld ?_
          rotate_left
          · intro W hSW; obtain ⟨hSW0, hSW1, hSW2, hSW3, hSW4, hSW5, hSW6⟩ := hSW; go_simp; first | done | with_reducible rfl
          (try simp only [Act.put, List.setIfInBounds_toArray, List.set_cons_zero, List.set_cons_succ])
          refine wpAnyH_take (i := 15) (oi := ⟨some 155, _, _, _, _, _⟩) (v := ?_) rfl (by kernel_rfl) (by kernel_rfl) (by kernel_rfl) (fun _ _ _ h => h) (Or.inl ⟨by rfl, ?_⟩) hHeld ?_
          rotate_left
          · intro W hSW; obtain ⟨hSW0, hSW1, hSW2, hSW3, hSW4, hSW5, hSW6⟩ := hSW; go_simp; first | done | with_reducible rfl
          (try simp only [Act.put, List.setIfInBounds_toArray, List.set_cons_zero, List.set_cons_succ])
          refine wpAnyH_take (i := 16) (oi := ⟨some 156, _, _, _, _, _⟩) (v := ?_) rfl (by kernel_rfl) (by kernel_rfl) (by kernel_rfl) (fun _ _ _ h => h) (Or.inl ⟨by rfl, ?_⟩) hHeld ?_
          rotate_left
          · intro W hSW; obtain ⟨hSW0, hSW1, hSW2, hSW3, hSW4, hSW5, hSW6⟩ := hSW; go_simp; first | done | with_reducible rfl
          (try simp only [Act.put, List.setIfInBounds_toArray, List.set_cons_zero, List.set_cons_succ])
          refine wpAnyH_take (i := 17) (oi := ⟨some 157, _, _, _, _, _⟩) (v := ?_) rfl (by kernel_rfl) (by kernel_rfl) (by kernel_rfl) (fun _ _ _ h => h) (Or.inl ⟨by rfl, ?_⟩) hHeld ?_
          rotate_left
          · intro W hSW; obtain ⟨hSW0, hSW1, hSW2, hSW3, hSW4, hSW5, hSW6⟩ := hSW; go_simp; first | done | with_reducible rfl
          (try simp only [Act.put, List.setIfInBounds_toArray, List.set_cons_zero, List.set_cons_succ])
          refine wpAnyH_take (i := 19) (oi := ⟨some 159, _, _, _, _, _⟩) (v := ?_) rfl (by kernel_rfl) (by kernel_rfl) (by kernel_rfl) (fun _ _ _ h => h) (Or.inl ⟨by rfl, ?_⟩) hHeld ?_
          rotate_left
          · intro W hSW; obtain ⟨hSW0, hSW1, hSW2, hSW3, hSW4, hSW5, hSW6⟩ := hSW; go_simp; first | done | with_reducible rfl
          (try simp only [Act.put, List.setIfInBounds_toArray, List.set_cons_zero, List.set_cons_succ])
          refine wpAnyH_take (i := 20) (oi := ⟨some 160, _, _, _, _, _⟩) (v := ?_) rfl (by kernel_rfl) (by kernel_rfl) (by kernel_rfl) (fun _ _ _ h => h) (Or.inl ⟨by rfl, ?_⟩) hHeld ?_
          rotate_left
          · intro W hSW; obtain ⟨hSW0, hSW1, hSW2, hSW3, hSW4, hSW5, hSW6⟩ := hSW; go_simp; first | done | with_reducible rfl
          (try simp only [Act.put, List.setIfInBounds_toArray, List.set_cons_zero, List.set_cons_succ])
          refine wpAnyH_take (i := 21) (oi := ⟨some 161, _, _, _, _, _⟩) (v := ?_) rfl (by kernel_rfl) (by kernel_rfl) (by kernel_rfl) (fun _ _ _ h => h) (Or.inl ⟨by rfl, ?_⟩) hHeld ?_
          rotate_left
          · intro W hSW; obtain ⟨hSW0, hSW1, hSW2, hSW3, hSW4, hSW5, hSW6⟩ := hSW; go_simp; first | done | with_reducible rfl
          (try simp only [Act.put, List.setIfInBounds_toArray, List.set_cons_zero, List.set_cons_succ])
          refine wpAnyH_take (i := 22) (oi := ⟨some 162, _, _, _, _, _⟩) (v := ?_) rfl (by kernel_rfl) (by kernel_rfl) (by kernel_rfl) (fun _ _ _ h => h) (Or.inl ⟨by rfl, ?_⟩) hHeld ?_
          rotate_left
          · intro W hSW; obtain ⟨hSW0, hSW1, hSW2, hSW3, hSW4, hSW5, hSW6⟩ := hSW; go_simp; first | done | with_reducible rfl
          (try simp only [Act.put, List.setIfInBounds_toArray, List.set_cons_zero, List.set_cons_succ])
          refine wpAnyH_ready (rs := [18]) (by kernel_rfl) (by simp) ?_
          refine AllReadyH.cons (o := ⟨some 158, _, _, _, _, _⟩) rfl (fun K hK => ?_) (AllReadyH.nil)
          go_simp
          refine (CDn.out _ hHeld.1).mono ?_
          rintro e W' ⟨rfl, rfl⟩
          have hS2 := hHeld
          clear hHeld
          refine hK.out _ _ ?_ (fun hHeld => ?_)
          · exact hS2
          clear hK K
          (try simp only [Act.put, List.setIfInBounds_toArray, List.set_cons_zero, List.set_cons_succ])
          clear hS2
          refine wpAnyH_take (i := 23) (oi := ⟨some 163, _, _, _, _, _⟩) (v := ?_) rfl (by kernel_rfl) (by kernel_rfl) (by kernel_rfl) (fun _ _ _ h => h) (Or.inl ⟨by rfl, ?_⟩) hHeld ?_
          rotate_left
          · intro W hSW; obtain ⟨hSW0, hSW1, hSW2, hSW3, hSW4, hSW5, hSW6⟩ := hSW; go_simp; first | done | with_reducible rfl
          (try simp only [Act.put, List.setIfInBounds_toArray, List.set_cons_zero, List.set_cons_succ])
          refine wpAnyH_take (i := 24) (oi := ⟨some 164, _, _, _, _, _⟩) (v := ?_) rfl (by kernel_rfl) (by kernel_rfl) (by kernel_rfl) (fun _ _ _ h => h) (Or.inl ⟨by rfl, ?_⟩) hHeld ?_
          rotate_left
          · intro W hSW; obtain ⟨hSW0, hSW1, hSW2, hSW3, hSW4, hSW5, hSW6⟩ := hSW; go_simp; first | done | with_reducible rfl
          (try simp only [Act.put, List.setIfInBounds_toArray, List.set_cons_zero, List.set_cons_succ])
          refine wpAnyH_take (i := 25) (oi := ⟨some 165, _, _, _, _, _⟩) (v := ?_) rfl (by kernel_rfl) (by kernel_rfl) (by kernel_rfl) (fun _ _ _ h => h) (Or.inl ⟨by rfl, ?_⟩) hHeld ?_
          rotate_left
          · intro W hSW; obtain ⟨hSW0, hSW1, hSW2, hSW3, hSW4, hSW5, hSW6⟩ := hSW; go_simp; first | done | with_reducible rfl
          (try simp only [Act.put, List.setIfInBounds_toArray, List.set_cons_zero, List.set_cons_succ])
          refine wpAnyH_take (i := 26) (oi := ⟨some 166, _, _, _, _, _⟩) (v := ?_) rfl (by kernel_rfl) (by kernel_rfl) (by kernel_rfl) (fun _ _ _ h => h) (Or.inl ⟨by rfl, ?_⟩) hHeld ?_
          rotate_left
          · intro W hSW; obtain ⟨hSW0, hSW1, hSW2, hSW3, hSW4, hSW5, hSW6⟩ := hSW; go_simp; first | done | with_reducible rfl
          (try simp only [Act.put, List.setIfInBounds_toArray, List.set_cons_zero, List.set_cons_succ])
          refine wpAnyH_take (i := 28) (oi := ⟨some 168, _, _, _, _, _⟩) (v := ?_) rfl (by kernel_rfl) (by kernel_rfl) (by kernel_rfl) (fun _ _ _ h => h) (Or.inl ⟨by rfl, ?_⟩) hHeld ?_
          rotate_left
          · intro W hSW; obtain ⟨hSW0, hSW1, hSW2, hSW3, hSW4, hSW5, hSW6⟩ := hSW; go_simp; first | done | with_reducible rfl
          (try simp only [Act.put, List.setIfInBounds_toArray, List.set_cons_zero, List.set_cons_succ])
          refine wpAnyH_take (i := 29) (oi := ⟨some 169, _, _, _, _, _⟩) (v := ?_) rfl (by kernel_rfl) (by kernel_rfl) (by kernel_rfl) (fun _ _ _ h => h) (Or.inl ⟨by rfl, ?_⟩) hHeld ?_
          rotate_left
          · intro W hSW; obtain ⟨hSW0, hSW1, hSW2, hSW3, hSW4, hSW5, hSW6⟩ := hSW; go_simp; first | done | with_reducible rfl
          (try simp only [Act.put, List.setIfInBounds_toArray, List.set_cons_zero, List.set_cons_succ])
          refine wpAnyH_take (i := 30) (oi := ⟨some 170, _, _, _, _, _⟩) (v := ?_) rfl (by kernel_rfl) (by kernel_rfl) (by kernel_rfl) (fun _ _ _ h => h) (Or.inl ⟨by rfl, ?_⟩) hHeld ?_
          rotate_left
          · intro W hSW; obtain ⟨hSW0, hSW1, hSW2, hSW3, hSW4, hSW5, hSW6⟩ := hSW; go_simp; first | done | with_reducible rfl
          (try simp only [Act.put, List.setIfInBounds_toArray, List.set_cons_zero, List.set_cons_succ])
          refine wpAnyH_take (i := 31) (oi := ⟨some 171, _, _, _, _, _⟩) (v := ?_) rfl (by kernel_rfl) (by kernel_rfl) (by kernel_rfl) (fun _ _ _ h => h) (Or.inl ⟨by rfl, ?_⟩) hHeld ?_
          rotate_left
          · intro W hSW; obtain ⟨hSW0, hSW1, hSW2, hSW3, hSW4, hSW5, hSW6⟩ := hSW; go_simp; first | done | with_reducible rfl
          (try simp only [Act.put, List.setIfInBounds_toArray, List.set_cons_zero, List.set_cons_succ])
          refine wpAnyH_ready (rs := [27]) (by kernel_rfl) (by simp) ?_
          refine AllReadyH.cons (o := ⟨some 167, _, _, _, _, _⟩) rfl (fun K hK => ?_) (AllReadyH.nil)
          go_simp
          refine (CCm.out _ hHeld.1).mono ?_
          rintro e W' ⟨rfl, rfl⟩
          have hS2 := hHeld
          clear hHeld
          refine hK.out _ _ ?_ (fun hHeld => ?_)
          · exact hS2
          clear hK K
          (try simp only [Act.put, List.setIfInBounds_toArray, List.set_cons_zero, List.set_cons_succ])
          clear hS2
          refine wpAnyH_take (i := 32) (oi := ⟨some 172, _, _, _, _, _⟩) (v := ?_) rfl (by kernel_rfl) (by kernel_rfl) (by kernel_rfl) (fun _ _ _ h => h) (Or.inl ⟨by rfl, ?_⟩) hHeld ?_
          rotate_left
          · intro W hSW; obtain ⟨hSW0, hSW1, hSW2, hSW3, hSW4, hSW5, hSW6⟩ := hSW; go_simp; first | done | with_reducible rfl
          (try simp only [Act.put, List.setIfInBounds_toArray, List.set_cons_zero, List.set_cons_succ])
          refine wpAnyH_take (i := 33) (oi := ⟨some 173, _, _, _, _, _⟩) (v := ?_) rfl (by kernel_rfl) (by kernel_rfl) (by kernel_rfl) (fun _ _ _ h => h) (Or.inl ⟨by rfl, ?_⟩) hHeld ?_
          rotate_left
          · intro W hSW; obtain ⟨hSW0, hSW1, hSW2, hSW3, hSW4, hSW5, hSW6⟩ := hSW; go_simp; first | done | with_reducible rfl
          (try simp only [Act.put, List.setIfInBounds_toArray, List.set_cons_zero, List.set_cons_succ])
          refine wpAnyH_take (i := 34) (oi := ⟨some 174, _, _, _, _, _⟩) (v := ?_) rfl (by kernel_rfl) (by kernel_rfl) (by kernel_rfl) (fun _ _ _ h => h) (Or.inl ⟨by rfl, ?_⟩) hHeld ?_
          rotate_left
          · intro W hSW; obtain ⟨hSW0, hSW1, hSW2, hSW3, hSW4, hSW5, hSW6⟩ := hSW; go_simp; first | done | with_reducible rfl
          (try simp only [Act.put, List.setIfInBounds_toArray, List.set_cons_zero, List.set_cons_succ])
          refine wpAnyH_take (i := 35) (oi := ⟨some 175, _, _, _, _, _⟩) (v := ?_) rfl (by kernel_rfl) (by kernel_rfl) (by kernel_rfl) (fun _ _ _ h => h) (Or.inl ⟨by rfl, ?_⟩) hHeld ?_
          rotate_left
          · intro W hSW; obtain ⟨hSW0, hSW1, hSW2, hSW3, hSW4, hSW5, hSW6⟩ := hSW; go_simp; first | done | with_reducible rfl
          (try simp only [Act.put, List.setIfInBounds_toArray, List.set_cons_zero, List.set_cons_succ])
          refine wpAnyH_take (i := 37) (oi := ⟨some 177, _, _, _, _, _⟩) (v := ?_) rfl (by kernel_rfl) (by kernel_rfl) (by kernel_rfl) (fun _ _ _ h => h) (Or.inl ⟨by rfl, ?_⟩) hHeld ?_
          rotate_left
          · intro W hSW; obtain ⟨hSW0, hSW1, hSW2, hSW3, hSW4, hSW5, hSW6⟩ := hSW; go_simp; first | done | with_reducible rfl
          (try simp only [Act.put, List.setIfInBounds_toArray, List.set_cons_zero, List.set_cons_succ])
          refine wpAnyH_take (i := 38) (oi := ⟨some 178, _, _, _, _, _⟩) (v := ?_) rfl (by kernel_rfl) (by kernel_rfl) (by kernel_rfl) (fun _ _ _ h => h) (Or.inl ⟨by rfl, ?_⟩) hHeld ?_
          rotate_left
          · intro W hSW; obtain ⟨hSW0, hSW1, hSW2, hSW3, hSW4, hSW5, hSW6⟩ := hSW; go_simp; first | done | with_reducible rfl
          (try simp only [Act.put, List.setIfInBounds_toArray, List.set_cons_zero, List.set_cons_succ])
          refine wpAnyH_take (i := 39) (oi := ⟨some 179, _, _, _, _, _⟩) (v := ?_) rfl (by kernel_rfl) (by kernel_rfl) (by kernel_rfl) (fun _ _ _ h => h) (Or.inl ⟨by rfl, ?_⟩) hHeld ?_
          rotate_left
          · intro W hSW; obtain ⟨hSW0, hSW1, hSW2, hSW3, hSW4, hSW5, hSW6⟩ := hSW; go_simp; first | done | with_reducible rfl
          (try simp only [Act.put, List.setIfInBounds_toArray, List.set_cons_zero, List.set_cons_succ])
          refine wpAnyH_take (i := 40) (oi := ⟨some 180, _, _, _, _, _⟩) (v := ?_) rfl (by kernel_rfl) (by kernel_rfl) (by kernel_rfl) (fun _ _ _ h => h) (Or.inl ⟨by rfl, ?_⟩) hHeld ?_
          rotate_left
          · intro W hSW; obtain ⟨hSW0, hSW1, hSW2, hSW3, hSW4, hSW5, hSW6⟩ := hSW; go_simp; first | done | with_reducible rfl
          (try simp only [Act.put, List.setIfInBounds_toArray, List.set_cons_zero, List.set_cons_succ])
          refine wpAnyH_ready (rs := [36]) (by kernel_rfl) (by simp) ?_
          refine AllReadyH.cons (o := ⟨some 176, _, _, _, _, _⟩) rfl (fun K hK => ?_) (AllReadyH.nil)
          go_simp
          refine (CLn.out _ hHeld.1).mono ?_
          rintro e W' ⟨rfl, rfl⟩
          have hS2 := hHeld
          clear hHeld
          refine hK.out _ _ ?_ (fun hHeld => ?_)
          · exact hS2
          clear hK K
          (try simp only [Act.put, List.setIfInBounds_toArray, List.set_cons_zero, List.set_cons_succ])
          clear hS2
          refine wpAnyH_take (i := 41) (oi := ⟨some 181, _, _, _, _, _⟩) (v := ?_) rfl (by kernel_rfl) (by kernel_rfl) (by kernel_rfl) (fun _ _ _ h => h) (Or.inl ⟨by rfl, ?_⟩) hHeld ?_
          rotate_left
          · intro W hSW; obtain ⟨hSW0, hSW1, hSW2, hSW3, hSW4, hSW5, hSW6⟩ := hSW; go_simp; first | done | with_reducible rfl
          (try simp only [Act.put, List.setIfInBounds_toArray, List.set_cons_zero, List.set_cons_succ])
          refine wpAnyH_take (i := 42) (oi := ⟨some 182, _, _, _, _, _⟩) (v := ?_) rfl (by kernel_rfl) (by kernel_rfl) (by kernel_rfl) (fun _ _ _ h => h) (Or.inl ⟨by rfl, ?_⟩) hHeld ?_
          rotate_left
          · intro W hSW; obtain ⟨hSW0, hSW1, hSW2, hSW3, hSW4, hSW5, hSW6⟩ := hSW; go_simp; first | done | with_reducible rfl
          (try simp only [Act.put, List.setIfInBounds_toArray, List.set_cons_zero, List.set_cons_succ])
          refine wpAnyH_done (by kernel_rfl) ?_ _
          refine NoPanic.normal ?_
          have bz := hHeld.1
          clear hHeld
          obtain ⟨np2, row2, d2, PP, QQ, e1, e2, e3, e4, e5, e6⟩ := HEND.out _ bz
          go_wp2
          go_roundw
          case rel => first | exact ⟨i + 1, by omega, by omega, by go_num, np2, row2, d2, PP, QQ, e1, e2, e3, e4, e5, e6⟩ | ((repeat apply Exists.intro); exact ⟨⟨i + 1, by omega, by omega, by go_num, np2, row2, d2, PP, QQ, e1, e2, e3, e4, e5, e6⟩, rfl⟩)
          case measure => simp [intOf] <;> omega
      · have dg : decide ((0 : Int) < (aL : Int)) = false := by simp; omega
        have rb := ob.rd
        have hnb : Ab = none → kR = 0 := fun e => (ob.none_ e).1
        have hb256 := HR256.out
        have hkb : kR ≤ 65536 := by omega
        have hAb : ∀ b off, Ab = some ⟨b, off, none⟩ → wr.heap.size ≤ b := fun b off e => by have := (ob.block b (by rw [e]; rfl)).1; have := bwc.size; have h2 : wc.drew.heap.size = wc.heap.size := rfl; omega
        have prt := pr.after bwb
        have qrt := qr.after bwb
        have bwt := Below.then_ bw bwb
        clear ob qb k0b
        have kcb := rb.conv (c := cb) hnb wb (Below.refl _ _)
        have bwt2 := bwt
        have K1 := Lib.hid (offerN wb P gP np row d en ev Ab kR cb rw0 prt rb hb256 hkb (fun b off e h => by have := prt.lt b h; have := hAb b off e; have := pr0lt b h; omega) (fun h => by have := (hP 0 h).1; omega) (hT.after bwt))
        have K2 := Lib.hid (fun (W : World) (hk : Kr wb W P) => docN W Q gQ np row d en ev Ab kR cb rw0 (qrt.of_heap (fun k hk2 => hk.block k (qrt.lt k hk2) (fun h => (hP k h).2 hk2)) hk.size) hrl (rb.krA hk (fun b off e h => by have := hAb b off e; have := pr0lt b h; omega)) hb256 hkb (fun b off e h => by have := hAb b off e; have := qr0lt b h; omega))
        have HNL := Lib.hid (nxt_len np row d en ev kR rw0 hrl)
        obtain ⟨sb, hsb⟩ : ∃ s, s = str rw0 := ⟨_, rfl⟩
        rw [← hsb] at kcb
        have HSB := Lib.hid hsb
        clear hsb
        generalize nxt np row d en ev kR rw0 = X at *
        go_upto_region 19 with fail
        go_wp2_with fail
        refine K1.out.mono ?_
        rintro e w1 ⟨⟨A1, k1, c1, rfl, rd1, hno1, hA1⟩, ⟨P1, hP1, p1⟩, kr1⟩
        have K2' := Lib.hid (K2.out w1 kr1)
        go_wp2_with fail
        refine K2'.out.mono ?_
        rintro e w2 ⟨⟨A2, k2, c2, rfl, rd2, hno2⟩, ⟨Q2, hQ2, q2⟩, kr2⟩
        have rb1 := rb.krA kr1 (fun b off e h => by have := hAb b off e; have := pr0lt b h; omega)
        have rb2 := rb1.krA kr2 (fun b off e h => by have := hAb b off e; have := qr0lt b h; omega)
        have rd12 := rd1.krA kr2 (fun b off e h => by have := hA1 b off e; have := qrt.lt b h; omega)
        have hs1 := kr1.size
        have hs2 := kr2.size
        have HP1 : Hid (∀ k, P1 k → w.heap.size ≤ k ∧ ¬ Q k) := fun k hk => by
          rcases hP1 k hk with h | h
          · exact hP k h
          · have := bwt.size
            exact ⟨by omega, fun hq => by have := qrt.lt k hq; omega⟩
        have p2 := p1.of_heap (w' := w2) (fun k hk => kr2.block k (p1.lt k hk) (HP1.out k hk).2) hs2
        have HP2 : Hid (∀ k, P1 k → w.heap.size ≤ k ∧ ¬ Q2 k) := fun k hk => ⟨(HP1.out k hk).1, fun hq => by
          rcases hQ2 k hq with h | h
          · exact (HP1.out k hk).2 h
          · have := p1.lt k hk; omega⟩
        have HQ2 : Hid (∀ k, Q2 k → w.heap.size ≤ k) := fun k hk => by
          rcases hQ2 k hk with h | h
          · exact hQ k h
          · have := bwt.size; omega
        have bw2 : Below w.heap.size w w2 := (bwt.trans (kr1.below (fun k hk => (hP k hk).1) bwt.size)).trans (kr2.below hQ (by have := bwt.size; omega))
        have HCX : Hid (∀ W, Below w2.heap.size w2 W → (convert 22 9 (.slice A1 k1 c1)).run Tryd.prog W = .ok (.string (str X.s)) W) := fun W hW => rd12.conv (c := c1) hno1 W hW
        have HCY : Hid (∀ W, Below w2.heap.size w2 W → (convert 22 9 (.slice A2 k2 c2)).run Tryd.prog W = .ok (.string (str X.s)) W) := fun W hW => rd2.conv (c := c2) hno2 W hW
        have HCB : Hid (∀ W, Below w2.heap.size w2 W → (convert 22 9 (.slice Ab kR cb)).run Tryd.prog W = .ok (.string sb) W) := fun W hW => by rw [HSB.out]; exact rb2.conv (c := cb) hnb W hW
        have HCE : Hid (∀ W, Below w2.heap.size w2 W → W.cell? ⟨gQ, 3, none⟩ = some (.bool X.d) ∧ W.cell? ⟨gQ, 2, none⟩ = some (.int .i64 ((X.row.length : Nat) : Int)) ∧ W.cell? ⟨gQ, 0, none⟩ = some (.int .i64 (X.n : Int))) := fun W hW => (q2.after hW).cells
        have CDn := Lib.hid (fun (W : World) (h : Below w2.heap.size w2 W) => hDone W P1 gP X.n X.row X.d (p2.after h))
        have CCm := Lib.hid (fun (W : World) (h : Below w2.heap.size w2 W) => hCame W P1 gP X.n X.row X.d (p2.after h))
        have CLn := Lib.hid (fun (W : World) (h : Below w2.heap.size w2 W) => hLen W P1 gP X.n X.row X.d (p2.after h))
        have HEND : Hid (∀ W, Below w2.heap.size w2 W → ∃ (np2 : Nat) (row2 : List (Nat × List Nat)) (d2 : Bool) (PP QQ : Nat → Prop), PrS W PP gP np2 row2 d2 ∧ QrS W QQ gQ np2 row2 d2 ∧ row2.length ≤ 16 ∧ (∀ k, PP k → w.heap.size ≤ k ∧ ¬ QQ k) ∧ (∀ k, QQ k → w.heap.size ≤ k) ∧ Below w.heap.size w W) := fun W hW => ⟨X.n, X.row, X.d, P1, Q2, p2.after hW, q2.after hW, HNL.out, HP2.out, HQ2.out, Below.then_ bw2 hW⟩
        clear HP1 HP2 HQ2 p1 p2 q2 kr1 kr2 rb1 rb2 rd1 rd12 rd2 K1 K2 K2' bw2 HNL kcb
        obtain ⟨sx, hsx⟩ : ∃ s, s = str X.s := ⟨_, rfl⟩
        rw [← hsx] at HCX HCY
        generalize X.g = xg at *
        generalize X.d = xd at *
        generalize X.row.length = xl at *
        generalize X.n = xn at *
        have t1 : (sx.toList != sx.toList) = false := by simp
        have t2 : (xg != xg) = false := by simp
        have t3 : (sb.toList != sb.toList) = false := by simp
        have t4 : (xd != xd) = false := by simp
        have t5 : ((xl : Int) != (xl : Int)) = false := by simp
        have t6 : ((xn : Int) != (xn : Int)) = false := by simp
        have HK : Hid (∀ W, Below w2.heap.size w2 W → Below w2.heap.size w2 W ∧ (convert 22 9 (.slice A1 k1 c1)).run Tryd.prog W = .ok (.string sx) W ∧ (convert 22 9 (.slice A2 k2 c2)).run Tryd.prog W = .ok (.string sx) W ∧ (convert 22 9 (.slice Ab kR cb)).run Tryd.prog W = .ok (.string sb) W ∧ W.cell? ⟨gQ, 3, none⟩ = some (.bool xd) ∧ W.cell? ⟨gQ, 2, none⟩ = some (.int .i64 (xl : Int)) ∧ W.cell? ⟨gQ, 0, none⟩ = some (.int .i64 (xn : Int))) := fun W h => ⟨h, HCX.out W h, HCY.out W h, HCB.out W h, (HCE.out W h).1, (HCE.out W h).2.1, (HCE.out W h).2.2⟩
        have hS0 := HK.out w2.drew (below_drawn 1)
        clear hsx HCX HCY HCB HCE
        go_upto_region 21 with fail
        refine wp_region_noPanic ?_
        refine wp_region_held_drew (S := fun W => Below w2.heap.size w2 W ∧ (convert 22 9 (.slice A1 k1 c1)).run Tryd.prog W = .ok (.string sx) W ∧ (convert 22 9 (.slice A2 k2 c2)).run Tryd.prog W = .ok (.string sx) W ∧ (convert 22 9 (.slice Ab kR cb)).run Tryd.prog W = .ok (.string sb) W ∧ W.cell? ⟨gQ, 3, none⟩ = some (.bool xd) ∧ W.cell? ⟨gQ, 2, none⟩ = some (.int .i64 (xl : Int)) ∧ W.cell? ⟨gQ, 0, none⟩ = some (.int .i64 (xn : Int))) (by kernel_rfl) hS0 (fun hHeld => ?_)
        refine wpAnyH_take (i := 0) (oi := ⟨some 140, _, _, _, _, _⟩) (v := ?_) rfl (by kernel_rfl) (by kernel_rfl) (by kernel_rfl) (fun _ _ _ h => h) (Or.inl ⟨by rfl, ?_⟩) hHeld ?_
        rotate_left
        · intro W hSW; obtain ⟨hSW0, hSW1, hSW2, hSW3, hSW4, hSW5, hSW6⟩ := hSW; go_simp; first | done | with_reducible rfl
        (try simp only [Act.put, List.setIfInBounds_toArray, List.set_cons_zero, List.set_cons_succ])
        refine wpAnyH_take (i := 1) (oi := ⟨some 141, _, _, _, _, _⟩) (v := ?_) rfl (by kernel_rfl) (by kernel_rfl) (by kernel_rfl) (fun _ _ _ h => h) (Or.inl ⟨by rfl, ?_⟩) hHeld ?_
        rotate_left
        · intro W hSW; obtain ⟨hSW0, hSW1, hSW2, hSW3, hSW4, hSW5, hSW6⟩ := hSW; go_simp; first | done | with_reducible rfl
        (try simp only [Act.put, List.setIfInBounds_toArray, List.set_cons_zero, List.set_cons_succ])
        refine wpAnyH_take (i := 2) (oi := ⟨some 142, _, _, _, _, _⟩) (v := ?_) rfl (by kernel_rfl) (by kernel_rfl) (by kernel_rfl) (fun _ _ _ h => h) (Or.inl ⟨by rfl, ?_⟩) hHeld ?_
        rotate_left
        · intro W hSW; obtain ⟨hSW0, hSW1, hSW2, hSW3, hSW4, hSW5, hSW6⟩ := hSW; go_simp; first | done | with_reducible rfl
        (try simp only [Act.put, List.setIfInBounds_toArray, List.set_cons_zero, List.set_cons_succ])
        refine wpAnyH_take (i := 3) (oi := ⟨some 143, _, _, _, _, _⟩) (v := ?_) rfl (by kernel_rfl) (by kernel_rfl) (by kernel_rfl) (fun _ _ _ h => h) (Or.inl ⟨by rfl, ?_⟩) hHeld ?_
        rotate_left
        · intro W hSW; obtain ⟨hSW0, hSW1, hSW2, hSW3, hSW4, hSW5, hSW6⟩ := hSW; go_simp; first | done | with_reducible rfl
        (try simp only [Act.put, List.setIfInBounds_toArray, List.set_cons_zero, List.set_cons_succ])
        refine wpAnyH_take (i := 4) (oi := ⟨some 144, _, _, _, _, _⟩) (v := ?_) rfl (by kernel_rfl) (by kernel_rfl) (by kernel_rfl) (fun _ _ _ h => h) (Or.inl ⟨by rfl, ?_⟩) hHeld ?_
        rotate_left
        · intro W hSW; obtain ⟨hSW0, hSW1, hSW2, hSW3, hSW4, hSW5, hSW6⟩ := hSW; go_simp; first | done | with_reducible rfl
        (try simp only [Act.put, List.setIfInBounds_toArray, List.set_cons_zero, List.set_cons_succ])
        refine wpAnyH_take (i := 5) (oi := ⟨some 145, _, _, _, _, _⟩) (v := ?_) rfl (by kernel_rfl) (by kernel_rfl) (by kernel_rfl) (fun _ _ _ h => h) (Or.inl ⟨by rfl, ?_⟩) hHeld ?_
        rotate_left
        · intro W hSW; obtain ⟨hSW0, hSW1, hSW2, hSW3, hSW4, hSW5, hSW6⟩ := hSW; go_simp; first | done | with_reducible rfl
        (try simp only [Act.put, List.setIfInBounds_toArray, List.set_cons_zero, List.set_cons_succ])
        refine wpAnyH_take (i := 6) (oi := ⟨some 146, _, _, _, _, _⟩) (v := ?_) rfl (by kernel_rfl) (by kernel_rfl) (by kernel_rfl) (fun _ _ _ h => h) (Or.inl ⟨by rfl, ?_⟩) hHeld ?_
        rotate_left
        · intro W hSW; obtain ⟨hSW0, hSW1, hSW2, hSW3, hSW4, hSW5, hSW6⟩ := hSW; go_simp; first | done | with_reducible rfl
        (try simp only [Act.put, List.setIfInBounds_toArray, List.set_cons_zero, List.set_cons_succ])
        refine wpAnyH_take (i := 7) (oi := ⟨some 147, _, _, _, _, _⟩) (v := ?_) rfl (by kernel_rfl) (by kernel_rfl) (by kernel_rfl) (fun _ _ _ h => h) (Or.inl ⟨by rfl, ?_⟩) hHeld ?_
        rotate_left
        · intro W hSW; obtain ⟨hSW0, hSW1, hSW2, hSW3, hSW4, hSW5, hSW6⟩ := hSW; go_simp; first | done | with_reducible rfl
        (try simp only [Act.put, List.setIfInBounds_toArray, List.set_cons_zero, List.set_cons_succ])
        refine wpAnyH_take (i := 8) (oi := ⟨some 148, _, _, _, _, _⟩) (v := ?_) rfl (by kernel_rfl) (by kernel_rfl) (by kernel_rfl) (fun _ _ _ h => h) (Or.inl ⟨by rfl, ?_⟩) hHeld ?_
        rotate_left
        · intro W hSW; obtain ⟨hSW0, hSW1, hSW2, hSW3, hSW4, hSW5, hSW6⟩ := hSW; go_simp; first | done | with_reducible rfl
        (try simp only [Act.put, List.setIfInBounds_toArray, List.set_cons_zero, List.set_cons_succ])
        refine wpAnyH_take (i := 9) (oi := ⟨some 149, _, _, _, _, _⟩) (v := ?_) rfl (by kernel_rfl) (by kernel_rfl) (by kernel_rfl) (fun _ _ _ h => h) (Or.inl ⟨by rfl, ?_⟩) hHeld ?_
        rotate_left
        · intro W hSW; obtain ⟨hSW0, hSW1, hSW2, hSW3, hSW4, hSW5, hSW6⟩ := hSW; go_simp; first | done | with_reducible rfl
        (try simp only [Act.put, List.setIfInBounds_toArray, List.set_cons_zero, List.set_cons_succ])
        refine wpAnyH_take (i := 10) (oi := ⟨some 150, _, _, _, _, _⟩) (v := ?_) rfl (by kernel_rfl) (by kernel_rfl) (by kernel_rfl) (fun _ _ _ h => h) (Or.inl ⟨by rfl, ?_⟩) hHeld ?_
        rotate_left
        · intro W hSW; obtain ⟨hSW0, hSW1, hSW2, hSW3, hSW4, hSW5, hSW6⟩ := hSW; go_simp; first | done | with_reducible rfl
        (try simp only [Act.put, List.setIfInBounds_toArray, List.set_cons_zero, List.set_cons_succ])
        refine wpAnyH_take (i := 11) (oi := ⟨some 151, _, _, _, _, _⟩) (v := ?_) rfl (by kernel_rfl) (by kernel_rfl) (by kernel_rfl) (fun _ _ _ h => h) (Or.inl ⟨by rfl, ?_⟩) hHeld ?_
        rotate_left
        · intro W hSW; obtain ⟨hSW0, hSW1, hSW2, hSW3, hSW4, hSW5, hSW6⟩ := hSW; go_simp; first | done | with_reducible rfl
        (try simp only [Act.put, List.setIfInBounds_toArray, List.set_cons_zero, List.set_cons_succ])
        refine wpAnyH_take (i := 12) (oi := ⟨some 152, _, _, _, _, _⟩) (v := ?_) rfl (by kernel_rfl) (by kernel_rfl) (by kernel_rfl) (fun _ _ _ h => h) (Or.inl ⟨by rfl, ?_⟩) hHeld ?_
        rotate_left
        · intro W hSW; obtain ⟨hSW0, hSW1, hSW2, hSW3, hSW4, hSW5, hSW6⟩ := hSW; go_simp; first | done | with_reducible rfl
        (try simp only [Act.put, List.setIfInBounds_toArray, List.set_cons_zero, List.set_cons_succ])
        refine wpAnyH_take (i := 13) (oi := ⟨some 153, _, _, _, _, _⟩) (v := ?_) rfl (by kernel_rfl) (by kernel_rfl) (by kernel_rfl) (fun _ _ _ h => h) (Or.inl ⟨by rfl, ?_⟩) hHeld ?_
        rotate_left
        · intro W hSW; obtain ⟨hSW0, hSW1, hSW2, hSW3, hSW4, hSW5, hSW6⟩ := hSW; go_simp; first | done | with_reducible rfl
        (try simp only [Act.put, List.setIfInBounds_toArray, List.set_cons_zero, List.set_cons_succ])
        refine wpAnyH_take (i := 14) (oi := ⟨some 154, _, _, _, _, _⟩) (v := ?_) rfl (by kernel_rfl) (by kernel_rfl) (by kernel_rfl) (fun _ _ _ h => h) (Or.inl ⟨by rfl, ?_⟩) hHeld ?_
        rotate_left
        · intro W hSW; obtain ⟨hSW0, hSW1, hSW2, hSW3, hSW4, hSW5, hSW6⟩ := hSW; go_simp; first | done | with_reducible rfl
        (try simp only [Act.put, List.setIfInBounds_toArray, List.set_cons_zero, List.set_cons_succ])
        refine wpAnyH_take (i := 15) (oi := ⟨some 155, _, _, _, _, _⟩) (v := ?_) rfl (by kernel_rfl) (by kernel_rfl) (by kernel_rfl) (fun _ _ _ h => h) (Or.inl ⟨by rfl, ?_⟩) hHeld ?_
        rotate_left
        · intro W hSW; obtain ⟨hSW0, hSW1, hSW2, hSW3, hSW4, hSW5, hSW6⟩ := hSW; go_simp; first | done | with_reducible rfl
        (try simp only [Act.put, List.setIfInBounds_toArray, List.set_cons_zero, List.set_cons_succ])
        refine wpAnyH_take (i := 16) (oi := ⟨some 156, _, _, _, _, _⟩) (v := ?_) rfl (by kernel_rfl) (by kernel_rfl) (by kernel_rfl) (fun _ _ _ h => h) (Or.inl ⟨by rfl, ?_⟩) hHeld ?_
        rotate_left
        · intro W hSW; obtain ⟨hSW0, hSW1, hSW2, hSW3, hSW4, hSW5, hSW6⟩ := hSW; go_simp; first | done | with_reducible rfl
        (try simp only [Act.put, List.setIfInBounds_toArray, List.set_cons_zero, List.set_cons_succ])
        refine wpAnyH_take (i := 17) (oi := ⟨some 157, _, _, _, _, _⟩) (v := ?_) rfl (by kernel_rfl) (by kernel_rfl) (by kernel_rfl) (fun _ _ _ h => h) (Or.inl ⟨by rfl, ?_⟩) hHeld ?_
        rotate_left
        · intro W hSW; obtain ⟨hSW0, hSW1, hSW2, hSW3, hSW4, hSW5, hSW6⟩ := hSW; go_simp; first | done | with_reducible rfl
        (try simp only [Act.put, List.setIfInBounds_toArray, List.set_cons_zero, List.set_cons_succ])
        refine wpAnyH_take (i := 19) (oi := ⟨some 159, _, _, _, _, _⟩) (v := ?_) rfl (by kernel_rfl) (by kernel_rfl) (by kernel_rfl) (fun _ _ _ h => h) (Or.inl ⟨by rfl, ?_⟩) hHeld ?_
        rotate_left
        · intro W hSW; obtain ⟨hSW0, hSW1, hSW2, hSW3, hSW4, hSW5, hSW6⟩ := hSW; go_simp; first | done | with_reducible rfl
        (try simp only [Act.put, List.setIfInBounds_toArray, List.set_cons_zero, List.set_cons_succ])
        refine wpAnyH_take (i := 20) (oi := ⟨some 160, _, _, _, _, _⟩) (v := ?_) rfl (by kernel_rfl) (by kernel_rfl) (by kernel_rfl) (fun _ _ _ h => h) (Or.inl ⟨by rfl, ?_⟩) hHeld ?_
        rotate_left
        · intro W hSW; obtain ⟨hSW0, hSW1, hSW2, hSW3, hSW4, hSW5, hSW6⟩ := hSW; go_simp; first | done | with_reducible rfl
        (try simp only [Act.put, List.setIfInBounds_toArray, List.set_cons_zero, List.set_cons_succ])
        refine wpAnyH_take (i := 21) (oi := ⟨some 161, _, _, _, _, _⟩) (v := ?_) rfl (by kernel_rfl) (by kernel_rfl) (by kernel_rfl) (fun _ _ _ h => h) (Or.inl ⟨by rfl, ?_⟩) hHeld ?_
        rotate_left
        · intro W hSW; obtain ⟨hSW0, hSW1, hSW2, hSW3, hSW4, hSW5, hSW6⟩ := hSW; go_simp; first | done | with_reducible rfl
        (try simp only [Act.put, List.setIfInBounds_toArray, List.set_cons_zero, List.set_cons_succ])
        refine wpAnyH_take (i := 22) (oi := ⟨some 162, _, _, _, _, _⟩) (v := ?_) rfl (by kernel_rfl) (by kernel_rfl) (by kernel_rfl) (fun _ _ _ h => h) (Or.inl ⟨by rfl, ?_⟩) hHeld ?_
        rotate_left
        · intro W hSW; obtain ⟨hSW0, hSW1, hSW2, hSW3, hSW4, hSW5, hSW6⟩ := hSW; go_simp; first | done | with_reducible rfl
        (try simp only [Act.put, List.setIfInBounds_toArray, List.set_cons_zero, List.set_cons_succ])
        refine wpAnyH_ready (rs := [18]) (by kernel_rfl) (by simp) ?_
        refine AllReadyH.cons (o := ⟨some 158, _, _, _, _, _⟩) rfl (fun K hK => ?_) (AllReadyH.nil)
        go_simp
        refine (CDn.out _ hHeld.1).mono ?_
        rintro e W' ⟨rfl, rfl⟩
        have hS2 := hHeld
        clear hHeld
        refine hK.out _ _ ?_ (fun hHeld => ?_)
        · exact hS2
        clear hK K
        (try simp only [Act.put, List.setIfInBounds_toArray, List.set_cons_zero, List.set_cons_succ])
        clear hS2
        refine wpAnyH_take (i := 23) (oi := ⟨some 163, _, _, _, _, _⟩) (v := ?_) rfl (by kernel_rfl) (by kernel_rfl) (by kernel_rfl) (fun _ _ _ h => h) (Or.inl ⟨by rfl, ?_⟩) hHeld ?_
        rotate_left
        · intro W hSW; obtain ⟨hSW0, hSW1, hSW2, hSW3, hSW4, hSW5, hSW6⟩ := hSW; go_simp; first | done | with_reducible rfl
        (try simp only [Act.put, List.setIfInBounds_toArray, List.set_cons_zero, List.set_cons_succ])
        refine wpAnyH_take (i := 24) (oi := ⟨some 164, _, _, _, _, _⟩) (v := ?_) rfl (by kernel_rfl) (by kernel_rfl) (by kernel_rfl) (fun _ _ _ h => h) (Or.inl ⟨by rfl, ?_⟩) hHeld ?_
        rotate_left
        · intro W hSW; obtain ⟨hSW0, hSW1, hSW2, hSW3, hSW4, hSW5, hSW6⟩ := hSW; go_simp; first | done | with_reducible rfl
        (try simp only [Act.put, List.setIfInBounds_toArray, List.set_cons_zero, List.set_cons_succ])
        refine wpAnyH_take (i := 25) (oi := ⟨some 165, _, _, _, _, _⟩) (v := ?_) rfl (by kernel_rfl) (by kernel_rfl) (by kernel_rfl) (fun _ _ _ h => h) (Or.inl ⟨by rfl, ?_⟩) hHeld ?_
        rotate_left
        · intro W hSW; obtain ⟨hSW0, hSW1, hSW2, hSW3, hSW4, hSW5, hSW6⟩ := hSW; go_simp; first | done | with_reducible rfl
        (try simp only [Act.put, List.setIfInBounds_toArray, List.set_cons_zero, List.set_cons_succ])
        refine wpAnyH_take (i := 26) (oi := ⟨some 166, _, _, _, _, _⟩) (v := ?_) rfl (by kernel_rfl) (by kernel_rfl) (by kernel_rfl) (fun _ _ _ h => h) (Or.inl ⟨by rfl, ?_⟩) hHeld ?_
        rotate_left
        · intro W hSW; obtain ⟨hSW0, hSW1, hSW2, hSW3, hSW4, hSW5, hSW6⟩ := hSW; go_simp; first | done | with_reducible rfl
        (try simp only [Act.put, List.setIfInBounds_toArray, List.set_cons_zero, List.set_cons_succ])
        refine wpAnyH_take (i := 28) (oi := ⟨some 168, _, _, _, _, _⟩) (v := ?_) rfl (by kernel_rfl) (by kernel_rfl) (by kernel_rfl) (fun _ _ _ h => h) (Or.inl ⟨by rfl, ?_⟩) hHeld ?_
        rotate_left
        · intro W hSW; obtain ⟨hSW0, hSW1, hSW2, hSW3, hSW4, hSW5, hSW6⟩ := hSW; go_simp; first | done | with_reducible rfl
        (try simp only [Act.put, List.setIfInBounds_toArray, List.set_cons_zero, List.set_cons_succ])
        refine wpAnyH_take (i := 29) (oi := ⟨some 169, _, _, _, _, _⟩) (v := ?_) rfl (by kernel_rfl) (by kernel_rfl) (by kernel_rfl) (fun _ _ _ h => h) (Or.inl ⟨by rfl, ?_⟩) hHeld ?_
        rotate_left
        · intro W hSW; obtain ⟨hSW0, hSW1, hSW2, hSW3, hSW4, hSW5, hSW6⟩ := hSW; go_simp; first | done | with_reducible rfl
        (try simp only [Act.put, List.setIfInBounds_toArray, List.set_cons_zero, List.set_cons_succ])
        refine wpAnyH_take (i := 30) (oi := ⟨some 170, _, _, _, _, _⟩) (v := ?_) rfl (by kernel_rfl) (by kernel_rfl) (by kernel_rfl) (fun _ _ _ h => h) (Or.inl ⟨by rfl, ?_⟩) hHeld ?_
        rotate_left
        · intro W hSW; obtain ⟨hSW0, hSW1, hSW2, hSW3, hSW4, hSW5, hSW6⟩ := hSW; go_simp; first | done | with_reducible rfl
        (try simp only [Act.put, List.setIfInBounds_toArray, List.set_cons_zero, List.set_cons_succ])
        refine wpAnyH_take (i := 31) (oi := ⟨some 171, _, _, _, _, _⟩) (v := ?_) rfl (by kernel_rfl) (by kernel_rfl) (by kernel_rfl) (fun _ _ _ h => h) (Or.inl ⟨by rfl, ?_⟩) hHeld ?_
        rotate_left
        · intro W hSW; obtain ⟨hSW0, hSW1, hSW2, hSW3, hSW4, hSW5, hSW6⟩ := hSW; go_simp; first | done | with_reducible rfl
        (try simp only [Act.put, List.setIfInBounds_toArray, List.set_cons_zero, List.set_cons_succ])
        refine wpAnyH_ready (rs := [27]) (by kernel_rfl) (by simp) ?_
        refine AllReadyH.cons (o := ⟨some 167, _, _, _, _, _⟩) rfl (fun K hK => ?_) (AllReadyH.nil)
        go_simp
        refine (CCm.out _ hHeld.1).mono ?_
        rintro e W' ⟨rfl, rfl⟩
        have hS2 := hHeld
        clear hHeld
        refine hK.out _ _ ?_ (fun hHeld => ?_)
        · exact hS2
        clear hK K
        (try simp only [Act.put, List.setIfInBounds_toArray, List.set_cons_zero, List.set_cons_succ])
        clear hS2
        refine wpAnyH_take (i := 32) (oi := ⟨some 172, _, _, _, _, _⟩) (v := ?_) rfl (by kernel_rfl) (by kernel_rfl) (by kernel_rfl) (fun _ _ _ h => h) (Or.inl ⟨by rfl, ?_⟩) hHeld ?_
        rotate_left
        · intro W hSW; obtain ⟨hSW0, hSW1, hSW2, hSW3, hSW4, hSW5, hSW6⟩ := hSW; go_simp; first | done | with_reducible rfl
        (try simp only [Act.put, List.setIfInBounds_toArray, List.set_cons_zero, List.set_cons_succ])
        refine wpAnyH_take (i := 33) (oi := ⟨some 173, _, _, _, _, _⟩) (v := ?_) rfl (by kernel_rfl) (by kernel_rfl) (by kernel_rfl) (fun _ _ _ h => h) (Or.inl ⟨by rfl, ?_⟩) hHeld ?_
        rotate_left
        · intro W hSW; obtain ⟨hSW0, hSW1, hSW2, hSW3, hSW4, hSW5, hSW6⟩ := hSW; go_simp; first | done | with_reducible rfl
        (try simp only [Act.put, List.setIfInBounds_toArray, List.set_cons_zero, List.set_cons_succ])
        refine wpAnyH_take (i := 34) (oi := ⟨some 174, _, _, _, _, _⟩) (v := ?_) rfl (by kernel_rfl) (by kernel_rfl) (by kernel_rfl) (fun _ _ _ h => h) (Or.inl ⟨by rfl, ?_⟩) hHeld ?_
        rotate_left
        · intro W hSW; obtain ⟨hSW0, hSW1, hSW2, hSW3, hSW4, hSW5, hSW6⟩ := hSW; go_simp; first | done | with_reducible rfl
        (try simp only [Act.put, List.setIfInBounds_toArray, List.set_cons_zero, List.set_cons_succ])
        refine wpAnyH_take (i := 35) (oi := ⟨some 175, _, _, _, _, _⟩) (v := ?_) rfl (by kernel_rfl) (by kernel_rfl) (by kernel_rfl) (fun _ _ _ h => h) (Or.inl ⟨by rfl, ?_⟩) hHeld ?_
        rotate_left
        · intro W hSW; obtain ⟨hSW0, hSW1, hSW2, hSW3, hSW4, hSW5, hSW6⟩ := hSW; go_simp; first | done | with_reducible rfl
        (try simp only [Act.put, List.setIfInBounds_toArray, List.set_cons_zero, List.set_cons_succ])
        refine wpAnyH_take (i := 37) (oi := ⟨some 177, _, _, _, _, _⟩) (v := ?_) rfl (by kernel_rfl) (by kernel_rfl) (by kernel_rfl) (fun _ _ _ h => h) (Or.inl ⟨by rfl, ?_⟩) hHeld ?_
        rotate_left
        · intro W hSW; obtain ⟨hSW0, hSW1, hSW2, hSW3, hSW4, hSW5, hSW6⟩ := hSW; go_simp; first | done | with_reducible rfl
        (try simp only [Act.put, List.setIfInBounds_toArray, List.set_cons_zero, List.set_cons_succ])
        refine wpAnyH_take (i := 38) (oi := ⟨some 178, _, _, _, _, _⟩) (v := ?_) rfl (by kernel_rfl) (by kernel_rfl) (by kernel_rfl) (fun _ _ _ h => h) (Or.inl ⟨by rfl, ?_⟩) hHeld ?_
        rotate_left
        · intro W hSW; obtain ⟨hSW0, hSW1, hSW2, hSW3, hSW4, hSW5, hSW6⟩ := hSW; go_simp; first | done | with_reducible rfl
        (try simp only [Act.put, List.setIfInBounds_toArray, List.set_cons_zero, List.set_cons_succ])
        refine wpAnyH_take (i := 39) (oi := ⟨some 179, _, _, _, _, _⟩) (v := ?_) rfl (by kernel_rfl) (by kernel_rfl) (by kernel_rfl) (fun _ _ _ h => h) (Or.inl ⟨by rfl, ?_⟩) hHeld ?_
        rotate_left
        · intro W hSW; obtain ⟨hSW0, hSW1, hSW2, hSW3, hSW4, hSW5, hSW6⟩ := hSW; go_simp; first | done | with_reducible rfl
        (try simp only [Act.put, List.setIfInBounds_toArray, List.set_cons_zero, List.set_cons_succ])
        refine wpAnyH_take (i := 40) (oi := ⟨some 180, _, _, _, _, _⟩) (v := ?_) rfl (by kernel_rfl) (by kernel_rfl) (by kernel_rfl) (fun _ _ _ h => h) (Or.inl ⟨by rfl, ?_⟩) hHeld ?_
        rotate_left
        · intro W hSW; obtain ⟨hSW0, hSW1, hSW2, hSW3, hSW4, hSW5, hSW6⟩ := hSW; go_simp; first | done | with_reducible rfl
        (try simp only [Act.put, List.setIfInBounds_toArray, List.set_cons_zero, List.set_cons_succ])
        refine wpAnyH_ready (rs := [36]) (by kernel_rfl) (by simp) ?_
        refine AllReadyH.cons (o := ⟨some 176, _, _, _, _, _⟩) rfl (fun K hK => ?_) (AllReadyH.nil)
        go_simp
        refine (CLn.out _ hHeld.1).mono ?_
        rintro e W' ⟨rfl, rfl⟩
        have hS2 := hHeld
        clear hHeld
        refine hK.out _ _ ?_ (fun hHeld => ?_)
        · exact hS2
        clear hK K
        (try simp only [Act.put, List.setIfInBounds_toArray, List.set_cons_zero, List.set_cons_succ])
        clear hS2
        refine wpAnyH_take (i := 41) (oi := ⟨some 181, _, _, _, _, _⟩) (v := ?_) rfl (by kernel_rfl) (by kernel_rfl) (by kernel_rfl) (fun _ _ _ h => h) (Or.inl ⟨by rfl, ?_⟩) hHeld ?_
        rotate_left
        · intro W hSW; obtain ⟨hSW0, hSW1, hSW2, hSW3, hSW4, hSW5, hSW6⟩ := hSW; go_simp; first | done | with_reducible rfl
        (try simp only [Act.put, List.setIfInBounds_toArray, List.set_cons_zero, List.set_cons_succ])
        refine wpAnyH_take (i := 42) (oi := ⟨some 182, _, _, _, _, _⟩) (v := ?_) rfl (by kernel_rfl) (by kernel_rfl) (by kernel_rfl) (fun _ _ _ h => h) (Or.inl ⟨by rfl, ?_⟩) hHeld ?_
        rotate_left
        · intro W hSW; obtain ⟨hSW0, hSW1, hSW2, hSW3, hSW4, hSW5, hSW6⟩ := hSW; go_simp; first | done | with_reducible rfl
        (try simp only [Act.put, List.setIfInBounds_toArray, List.set_cons_zero, List.set_cons_succ])
        refine wpAnyH_done (by kernel_rfl) ?_ _
        refine NoPanic.normal ?_
        have bz := hHeld.1
        clear hHeld
        obtain ⟨np2, row2, d2, PP, QQ, e1, e2, e3, e4, e5, e6⟩ := HEND.out _ bz
        go_wp2
        go_roundw
        case rel => first | exact ⟨i + 1, by omega, by omega, by go_num, np2, row2, d2, PP, QQ, e1, e2, e3, e4, e5, e6⟩ | ((repeat apply Exists.intro); exact ⟨⟨i + 1, by omega, by omega, by go_num, np2, row2, d2, PP, QQ, e1, e2, e3, e4, e5, e6⟩, rfl⟩)
        case measure => simp [intOf] <;> omega
    · by_cases ha : i < n1
      · have d1 : decide ((i : Int) < (n1 : Int)) = true := by simp; omega
        have d2 : decide ((i : Int) < 9) = false := by simp; omega
        clear hlt
        go_wp2
        go_ret
        exact ⟨rfl, bw⟩
      · have d1 : decide ((i : Int) < (n1 : Int)) = false := by simp; omega
        clear hlt
        go_wp2
        go_ret
        exact ⟨rfl, bw⟩
end Go.Proofs.YtcmoedhpedlalaaDoor
