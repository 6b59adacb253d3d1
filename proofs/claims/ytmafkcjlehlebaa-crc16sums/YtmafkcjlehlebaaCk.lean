/-
  Contract of the reference's Right of 16 bits.
-/
import Derived.Test.YtmafkcjlehlebaaCj
import Derived.Deep.RegionHeld3
import Derived.Lib.Bytes
namespace Go.Proofs.Ytmafkcjlehlebaa
open Go.RowKit
set_option linter.unusedVariables false
set_option linter.unusedSimpArgs false

theorem str_list (bs : List Nat) : (str bs).toList = bs.map UInt8.ofNat := by
  unfold str
  rw [Lib.strOfNums_toList]
  simp [Lib.bytesOf]
theorem str_inj {a b : List Nat} (ha : ∀ x ∈ a, x < 256) (hb : ∀ x ∈ b, x < 256) (h : (str a).toList = (str b).toList) : a = b := by
  rw [str_list, str_list] at h
  have key : ∀ (a b : List Nat), (∀ x ∈ a, x < 256) → (∀ x ∈ b, x < 256) → a.map UInt8.ofNat = b.map UInt8.ofNat → a = b := by
    intro a
    induction a with
    | nil => intro b _ _ h; cases b with
      | nil => rfl
      | cons y b => simp at h
    | cons x a ih => intro b h1 h2 h; cases b with
      | nil => simp at h
      | cons y b =>
        simp only [List.map_cons, List.cons.injEq] at h
        have e : x = y := by
          have := congrArg UInt8.toNat h.1
          have hx := h1 x List.mem_cons_self
          have hy := h2 y List.mem_cons_self
          simp at this; omega
        subst e
        rw [ih b (fun z hz => h1 z (List.mem_cons_of_mem _ hz)) (fun z hz => h2 z (List.mem_cons_of_mem _ hz)) h.2]
  exact key a b ha hb h
theorem str_ne {a b : List Nat} (ha : ∀ x ∈ a, x < 256) (hb : ∀ x ∈ b, x < 256) (h : a ≠ b) : ((str a).toList == (str b).toList) = false := by
  rw [Bool.eq_false_iff]
  intro hc
  exact h (str_inj ha hb (by simpa using hc))
theorem ok16_seal (bs : List Nat) (hb : ∀ b ∈ bs, b < 256) (h : 2 ≤ bs.length) : Crc.ok16 bs = decide (Crc.seal16 (bs.take (bs.length - 2)) = bs) := by
  have e := Crc.split2 bs h
  have h1 := Crc.r16_lt (bs.take (bs.length - 2)) (take256 hb _)
  have h2 := Bm.byte_lt bs hb (bs.length - 2)
  have h3 := Bm.byte_lt bs hb (bs.length - 1)
  unfold Crc.ok16 Crc.seal16
  rw [Bool.eq_iff_iff]
  simp only [decide_eq_true_eq]
  conv => rhs; rhs; rw [e]
  constructor
  · rintro ⟨_, h4⟩
    rw [h4]
    congr 1
    congr 1
    · omega
    · congr 1; omega
  · intro h4
    have h5 := List.append_cancel_left h4
    simp only [List.cons.injEq, and_true] at h5
    exact ⟨h, by omega⟩

set_option maxHeartbeats 1000000 in
/-- The reference's Right. -/
theorem refRight16 (A : Option Addr) (n c : Nat) (bs : List Nat) (w : World) (hr : Rd w w.heap.size A n (U8 bs)) (hb : ∀ b ∈ bs, b < 256) (hnc : n ≤ c) (hn : n ≤ 65536) (hc : c ≤ 9223372036854775807)
    (hcv : Hid (∀ W, Below w.heap.size w W → convO A n c W = .ok (.string (str bs)) W)) :
    Calls Try.prog 23 #[.slice A n c] w fun e w' => e = .returned (.bool (Crc.ok16 bs)) ∧ Below w.heap.size w w' := by
  have HN := Lib.hid hr.len8
  by_cases h2 : 2 ≤ n
  · obtain ⟨m, hm⟩ : ∃ m, m = n - 2 := ⟨_, rfl⟩
    have r1 := hr.cut8 m (by omega)
    obtain ⟨b, off, rfl, hlt, g1⟩ := hr.cell8 m (by omega)
    have C := Lib.hid (fun (W : World) (hB : Below w.heap.size w W) => refSeal16 (some ⟨b, off, none⟩) m c (bs.take m) W ((r1.below hB).up hB.size) (take256 hb m) (by simp) (by omega))
    have HO : Hid (Crc.ok16 bs = ((str (Crc.seal16 (bs.take m))).toList == (str bs).toList)) := by
      unfold Hid
      rw [ok16_seal bs hb (by rw [← HN.out]; exact h2), ← HN.out, ← hm]
      by_cases he : Crc.seal16 (bs.take m) = bs
      · rw [he]; simp
      · rw [str_ne (Crc.seal16_lt _ (take256 hb m)) hb he]; simp [he]
    have HQ : Hid (∀ {W : World} {A' : Option Addr} {n' c' : Nat}, Own W w.heap.size 5 A' n' c' (U8 (Crc.seal16 (bs.take m))) → convO A' n' c' W = .ok (.string (str (Crc.seal16 (bs.take m)))) W) := fun h => h.convO _ (Below.refl _ _)
    generalize Crc.seal16 (bs.take m) = ss at *
    generalize str bs = s1 at *
    generalize str ss = s2 at *
    have t0 : decide ((2 : Int) ≤ (n : Int)) = true := by simp; omega
    have t1 : decide (2 ≤ n) = true := by simp; omega
    have e0 : (n : Int) - 2 = (m : Int) := by omega
    have f0 : (0 : Int) ≤ (m : Int) := by omega
    have f8 : (m : Int) ≤ (c : Int) := by omega
    have f1 : IntKind.i64.wrap (m : Int) = (m : Int) := IntWalk.i64_in _ (by omega)
    have HK : Hid (∀ W, Below w.heap.size w W → (Below w.heap.size w W ∧ convO (some ⟨b, off, none⟩) n c W = .ok (.string s1) W)) := fun W hB => ⟨hB, hcv.out W hB⟩
    have hany := convO_eq
    clear hm h2 g1
    go_enter Try.func23, Try.ntmps23
    go_wp2_with fail
    refine wp_region_noPanic ?_
    refine wp_region_held_drew (S := fun W => Below w.heap.size w W ∧ convO (some ⟨b, off, none⟩) n c W = .ok (.string s1) W) (by kernel_rfl) (HK.out _ (Below.refl _ _).drew) (fun hHeld => ?_)
    refine wpAnyH_take (i := 0) (oi := ⟨some 3, _, _, _, _, _⟩) (v := ?_) rfl (by kernel_rfl) (by kernel_rfl) (by kernel_rfl) (fun _ _ _ h => h) (Or.inl ⟨by rfl, ?_⟩) (by assumption) ?_
    rotate_left
    · intro W hSW; obtain ⟨hSW0, hSW1⟩ := hSW; go_simp; first | done | with_reducible rfl
    (try simp only [Act.put, List.setIfInBounds_toArray, List.set_cons_zero, List.set_cons_succ])
    refine wpAnyH_take (i := 1) (oi := ⟨some 4, _, _, _, _, _⟩) (v := ?_) rfl (by kernel_rfl) (by kernel_rfl) (by kernel_rfl) (fun _ _ _ h => h) (Or.inl ⟨by rfl, ?_⟩) (by assumption) ?_
    rotate_left
    · intro W hSW; obtain ⟨hSW0, hSW1⟩ := hSW; go_simp; first | done | with_reducible rfl
    (try simp only [Act.put, List.setIfInBounds_toArray, List.set_cons_zero, List.set_cons_succ])
    refine wpAnyH_take (i := 2) (oi := ⟨some 5, _, _, _, _, _⟩) (v := ?_) rfl (by kernel_rfl) (by kernel_rfl) (by kernel_rfl) (fun _ _ _ h => h) (Or.inl ⟨by rfl, ?_⟩) (by assumption) ?_
    rotate_left
    · intro W hSW; obtain ⟨hSW0, hSW1⟩ := hSW; go_simp; first | done | with_reducible rfl
    (try simp only [Act.put, List.setIfInBounds_toArray, List.set_cons_zero, List.set_cons_succ])
    refine wpAnyH_take (i := 3) (oi := ⟨some 6, _, _, _, _, _⟩) (v := ?_) rfl (by kernel_rfl) (by kernel_rfl) (by kernel_rfl) (fun _ _ _ h => h) (Or.inl ⟨by rfl, ?_⟩) (by assumption) ?_
    rotate_left
    · intro W hSW; obtain ⟨hSW0, hSW1⟩ := hSW; go_simp; first | done | with_reducible rfl
    (try simp only [Act.put, List.setIfInBounds_toArray, List.set_cons_zero, List.set_cons_succ])
    refine wpAnyH_take (i := 4) (oi := ⟨some 7, _, _, _, _, _⟩) (v := ?_) rfl (by kernel_rfl) (by kernel_rfl) (by kernel_rfl) (fun _ _ _ h => h) (Or.inl ⟨by rfl, ?_⟩) (by assumption) ?_
    rotate_left
    · intro W hSW; obtain ⟨hSW0, hSW1⟩ := hSW; go_simp; first | done | with_reducible rfl
    (try simp only [Act.put, List.setIfInBounds_toArray, List.set_cons_zero, List.set_cons_succ])
    refine wpAnyH_take (i := 5) (oi := ⟨some 8, _, _, _, _, _⟩) (v := ?_) rfl (by kernel_rfl) (by kernel_rfl) (by kernel_rfl) (fun _ _ _ h => h) (Or.inl ⟨by rfl, ?_⟩) (by assumption) ?_
    rotate_left
    · intro W hSW; obtain ⟨hSW0, hSW1⟩ := hSW; go_simp; first | done | with_reducible rfl
    (try simp only [Act.put, List.setIfInBounds_toArray, List.set_cons_zero, List.set_cons_succ])
    refine wpAnyH_take (i := 6) (oi := ⟨some 9, _, _, _, _, _⟩) (v := ?_) rfl (by kernel_rfl) (by kernel_rfl) (by kernel_rfl) (fun _ _ _ h => h) (Or.inl ⟨by rfl, ?_⟩) (by assumption) ?_
    rotate_left
    · intro W hSW; obtain ⟨hSW0, hSW1⟩ := hSW; go_simp; first | done | with_reducible rfl
    (try simp only [Act.put, List.setIfInBounds_toArray, List.set_cons_zero, List.set_cons_succ])
    refine wpAnyH_take (i := 7) (oi := ⟨some 10, _, _, _, _, _⟩) (v := ?_) rfl (by kernel_rfl) (by kernel_rfl) (by kernel_rfl) (fun _ _ _ h => h) (Or.inl ⟨by rfl, ?_⟩) (by assumption) ?_
    rotate_left
    · intro W hSW; obtain ⟨hSW0, hSW1⟩ := hSW; go_simp; first | done | with_reducible rfl
    (try simp only [Act.put, List.setIfInBounds_toArray, List.set_cons_zero, List.set_cons_succ])
    refine wpAnyH_take (i := 8) (oi := ⟨some 11, _, _, _, _, _⟩) (v := ?_) rfl (by kernel_rfl) (by kernel_rfl) (by kernel_rfl) (fun _ _ _ h => h) (Or.inl ⟨by rfl, ?_⟩) (by assumption) ?_
    rotate_left
    · intro W hSW; obtain ⟨hSW0, hSW1⟩ := hSW; go_simp; first | done | with_reducible rfl
    (try simp only [Act.put, List.setIfInBounds_toArray, List.set_cons_zero, List.set_cons_succ])
    refine wpAnyH_take (i := 11) (oi := ⟨some 14, _, _, _, _, _⟩) (v := ?_) rfl (by kernel_rfl) (by kernel_rfl) (by kernel_rfl) (fun _ _ _ h => h) (Or.inl ⟨by rfl, ?_⟩) (by assumption) ?_
    rotate_left
    · intro W hSW; obtain ⟨hSW0, hSW1⟩ := hSW; go_simp; first | done | with_reducible rfl
    (try simp only [Act.put, List.setIfInBounds_toArray, List.set_cons_zero, List.set_cons_succ])
    refine wpAnyH_take (i := 12) (oi := ⟨some 15, _, _, _, _, _⟩) (v := ?_) rfl (by kernel_rfl) (by kernel_rfl) (by kernel_rfl) (fun _ _ _ h => h) (Or.inl ⟨by rfl, ?_⟩) (by assumption) ?_
    rotate_left
    · intro W hSW; obtain ⟨hSW0, hSW1⟩ := hSW; go_simp; first | done | with_reducible rfl
    (try simp only [Act.put, List.setIfInBounds_toArray, List.set_cons_zero, List.set_cons_succ])
    refine wpAnyH_ready (rs := [9]) (by kernel_rfl) (by simp) ?_
    refine AllReadyH.cons (o := ⟨some 12, _, _, _, _, _⟩) rfl (fun K hK => ?_) AllReadyH.nil
    go_simp
    have b1 := hHeld.1
    refine (C.out _ b1).mono ?_
    rintro e wo ⟨Ao, no, co, rfl, owo, beo⟩
    have hq := HQ.out owo
    have bo := Below.then_ b1 beo
    clear hHeld
    refine hK.out _ _ ?_ (fun hHeld => ?_)
    · exact HK.out _ bo
    clear hK K
    (try simp only [Act.put, List.setIfInBounds_toArray, List.set_cons_zero, List.set_cons_succ])
    refine wpAnyH_ready (rs := [10]) (by kernel_rfl) (by simp) ?_
    refine AllReadyH.cons (o := ⟨some 13, _, _, _, _, _⟩) rfl (fun K hK => ?_) AllReadyH.nil
    go_simp
    refine hK.out _ _ ?_ (fun hHeld => ?_)
    · exact HK.out _ bo
    clear hK K
    (try simp only [Act.put, List.setIfInBounds_toArray, List.set_cons_zero, List.set_cons_succ])
    refine wpAnyH_take (i := 13) (oi := ⟨some 16, _, _, _, _, _⟩) (v := ?_) rfl (by kernel_rfl) (by kernel_rfl) (by kernel_rfl) (fun _ _ _ h => h) (Or.inl ⟨by rfl, ?_⟩) (by assumption) ?_
    rotate_left
    · intro W hSW; obtain ⟨hSW0, hSW1⟩ := hSW; go_simp; first | done | with_reducible rfl
    (try simp only [Act.put, List.setIfInBounds_toArray, List.set_cons_zero, List.set_cons_succ])
    refine wpAnyH_take (i := 14) (oi := ⟨some 17, _, _, _, _, _⟩) (v := ?_) rfl (by kernel_rfl) (by kernel_rfl) (by kernel_rfl) (fun _ _ _ h => h) (Or.inl ⟨by rfl, ?_⟩) (by assumption) ?_
    rotate_left
    · intro W hSW; obtain ⟨hSW0, hSW1⟩ := hSW; go_simp; first | done | with_reducible rfl
    (try simp only [Act.put, List.setIfInBounds_toArray, List.set_cons_zero, List.set_cons_succ])
    refine wpAnyH_take (i := 15) (oi := ⟨some 2, _, _, _, _, _⟩) (v := ?_) rfl (by kernel_rfl) (by kernel_rfl) (by kernel_rfl) (fun _ _ _ h => h) (Or.inl ⟨by rfl, ?_⟩) (by assumption) ?_
    rotate_left
    · intro W hSW; obtain ⟨hSW0, hSW1⟩ := hSW; go_simp; first | done | with_reducible rfl
    (try simp only [Act.put, List.setIfInBounds_toArray, List.set_cons_zero, List.set_cons_succ])
    refine wpAnyH_done (by kernel_rfl) ?_ _
    refine NoPanic.normal ?_
    go_wp2
    go_ret
    exact ⟨ret_bool HO.out.symm, bo⟩
  · have t0 : decide ((2 : Int) ≤ (n : Int)) = false := by simp; omega
    have t1 : decide (2 ≤ n) = false := by simp; omega
    have HO : Hid (Crc.ok16 bs = false) := by
      unfold Hid Crc.ok16
      rw [← HN.out]; simp; omega
    go_enter Try.func23, Try.ntmps23
    go_wp2_with fail
    go_quiet (fail)
    go_wp2
    go_ret
    exact ⟨by rw [HO.out]; rfl, below_drawn _⟩
end Go.Proofs.Ytmafkcjlehlebaa
