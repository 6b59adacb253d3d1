/-
  Layer 4's reference: Close, Open; both Opens told alike.
-/
import Derived.Test.YtcmoedhpedlalaaDoorYb
import Derived.Deep.RegionHeld3
import Derived.Lib.Bytes
namespace Go.Proofs.YtcmoedhpedlalaaDoor
open Go.RowKit
set_option maxRecDepth 100000
set_option linter.unusedVariables false
set_option linter.unusedSimpArgs false

theorem le4_leTo (a b c d : Nat) (ha : a < 256) (hb : b < 256) (hc : c < 256) (hd : d < 256) : Crc.le4 (Crc.leTo [a, b, c, d] 4) = [a, b, c, d] := by
  have e : Crc.leTo [a, b, c, d] 4 = 0 + a * 2 ^ 0 + b * 2 ^ 8 + c * 2 ^ 16 + d * 2 ^ 24 := rfl
  rw [e]
  unfold Crc.le4
  congr 1
  · omega
  · congr 1
    · omega
    · congr 1
      · omega
      · congr 1; omega
theorem ok32_close (bs : List Nat) (hb : ∀ b ∈ bs, b < 256) (h : 4 ≤ bs.length) : Crc.ok32 bs = decide (Crc.close32 (bs.take (bs.length - 4)) = bs) := by
  obtain ⟨a, b, c, d, e⟩ := Crc.split4 bs h
  have h4 : ∀ x ∈ [a, b, c, d], x < 256 := fun x hx => hb x (List.mem_of_mem_drop (by rw [e]; exact hx))
  have hc := Crc.c32_lt (bs.take (bs.length - 4)) (take256 hb _)
  unfold Crc.ok32 Crc.close32
  rw [Bool.eq_iff_iff]
  simp only [decide_eq_true_eq]
  conv => rhs; rhs; rw [← List.take_append_drop (bs.length - 4) bs]
  rw [e]
  constructor
  · rintro ⟨_, h5⟩
    rw [h5, le4_leTo a b c d (h4 a (by simp)) (h4 b (by simp)) (h4 c (by simp)) (h4 d (by simp))]
  · intro h5
    have h6 := List.append_cancel_left h5
    refine ⟨h, ?_⟩
    rw [← h6, Crc.leTo_le4 _ hc]
theorem Rd.convO {w : World} {A : Option Addr} {n c : Nat} {bs : List Nat} (h : Rd w w.heap.size A n (U8 bs)) (hnone : A = none → n = 0) (W : World) (hb : Below w.heap.size w W) :
    YtcmoedhpedlalaaDoor.convO A n c W = .ok (.string (str bs)) W := by
  show (convert 22 9 (.slice A n c)).run Tryd.prog W = .ok (.string (str bs)) W
  have hl := h.len8
  cases A with
  | none =>
    have h0 := hnone rfl
    subst h0
    have hbs : bs = [] := List.eq_nil_of_length_eq_zero hl.symm
    subst hbs
    exact run_convert_bytes_nil W 22 5 Tryd.underlying22 Tryd.underlying5 0 c 9 Tryd.underlying9
  | some x =>
    by_cases hn : 0 < n
    · obtain ⟨b, off, e, hlt, hc⟩ := h.at_ hn
      injection e with e
      subst e
      refine run_convert_bytes_arg W 22 5 Tryd.underlying22 Tryd.underlying5 b off n c _ (by simp [hl]) (fun i hi => ?_) 9 Tryd.underlying9
      rw [hb.cell (p := ⟨b, off + i, none⟩) hlt, hc i _ (U8_get bs i (by omega))]
      simp [List.getD, show i < bs.length by omega]
    · obtain rfl : n = 0 := by omega
      have hbs : bs = [] := List.eq_nil_of_length_eq_zero hl.symm
      subst hbs
      exact run_convert_bytes_back (P := Tryd.prog) W 22 9 5 x c [] Tryd.underlying22 Tryd.underlying5 Tryd.underlying9 (fun j hj => absurd hj (by simp))
theorem conv_none (W : World) : convO none 0 0 W = .ok (.string (str [])) W := run_convert_bytes_nil W 22 5 Tryd.underlying22 Tryd.underlying5 0 0 9 Tryd.underlying9
set_option maxHeartbeats 400000 in
/-- The reference's Close. -/
theorem refCloseC (A : Option Addr) (n c : Nat) (bs : List Nat) (w : World) (hr : Rd w w.heap.size A n (U8 bs)) (hb : ∀ b ∈ bs, b < 256) (hnone : A = none → n = 0 ∧ c = 0) (hn : n ≤ 1000) :
    Calls Tryd.prog 62 #[.slice A n c] w (Made w (Crc.close32 bs)) := by
  obtain ⟨i0, hi0, hz0, hz1, hz2⟩ := info_parts info5
  have HN := Lib.hid hr.len8
  have C := Lib.hid (refSum32 A n c bs w hr hb hn)
  have hl := Crc.c32_lt bs hb
  have HS : Hid (Crc.close32 bs = bs ++ Crc.le4 (Crc.c32 bs)) := rfl
  generalize Crc.c32 bs = s at *
  go_enter Tryd.func62, Tryd.ntmps62
  go_wp2_with fail
  refine C.out.mono ?_
  rintro e w1 ⟨rfl, be1⟩
  have r1 := (hr.below be1).up be1.size
  have o1 : Own (w1.alloc (.cells #[] 5)) w1.heap.size 5 (some ⟨w1.heap.size, 0, none⟩) 0 0 [] := ⟨World.ownsRow_made w1 #[] 0 (Nat.le_refl _) (by unfold maxLen; omega) (by simp)⟩
  have bel0 : Below w1.heap.size w1 (w1.alloc (.cells #[] 5)) := (Below.refl _ _).alloc (Nat.le_refl _) _
  go_wp2_with (at_builtin; refine wpList_app _ rfl _ _ 22 rfl w1.heap.size 5 i0 _ 1 Tryd.underlying22 hi0 hz0 hz1 hz2 rfl _ 0 0 [] rfl o1 w1.heap.size A n c (U8 bs) rfl (r1.below bel0) hnone (U8_one bs) (by omega) (by unfold maxLen; omega) bel0.size ?_; intro A5 c5 w5 hown5 hgrow5; have own5 := hown5.to (Nat.zero_add n) (List.nil_append (U8 bs)); have hbel5 : Below w1.heap.size w1 w5 := bel0.grown hgrow5 bel0.size (fun j hj => by simp [Value.ownBlock] at hj; omega))
  clear hown5 hgrow5 o1 bel0 hi0 hz0 hz1 hz2 C
  have hs1 := be1.size
  go_loopw [4, 5] (fun l i wr => ∃ k : Nat, k ≤ 4 ∧ i = .int .i64 k ∧ ∃ A6 c6, l = .slice A6 (n + k) c6 ∧ Own wr w1.heap.size 5 A6 (n + k) c6 (U8 (bs ++ (Crc.le4 s).take k)) ∧ Below w1.heap.size w1 wr) (fun _ i _ => 4 - (intOf i).toNat)
  case atStart => exact ⟨0, Nat.zero_le _, rfl, A5, c5, rfl, by simpa using own5, hbel5⟩
  case round =>
    clear own5 hbel5
    obtain ⟨k, hk, rfl, A6, c6, rfl, own, bel⟩ := hrel
    have hsz := bel.size
    by_cases hlt : k < 4
    · have HT := Lib.hid (Crc.le4_take s k hlt)
      obtain ⟨m, hm⟩ : ∃ m, m = 8 * k := ⟨_, rfl⟩
      rw [← hm] at HT
      have e1 : (8 : Int) * (k : Int) = (m : Int) := by omega
      have hm2 : m ≤ 24 := by omega
      obtain ⟨y, hy⟩ : ∃ y, y = s / 2 ^ m := ⟨_, rfl⟩
      rw [← hy] at HT
      have hy2 : y ≤ s := by rw [hy]; exact Nat.div_le_self _ _
      have e2 : (s : Int) / 2 ^ m = (y : Int) := by rw [hy]; simp
      obtain ⟨x, hx⟩ : ∃ x, x = y % 256 := ⟨_, rfl⟩
      rw [← hx] at HT
      have e3 : (y : Int) % 256 = (x : Int) := by omega
      have hx2 : x < 256 := by omega
      have e4 : IntKind.u8.wrap (y : Int) = (x : Int) := by rw [IntKind.wrap_u8]; exact e3
      clear hm hy hx
      go_wp2_with (at_builtin; refine app8 _ rfl _ _ rfl w1.heap.size _ _ _ _ x _ (by first | rfl | omega) rfl own rfl (by omega) hsz ?_; intro A3 c3 w3 hown3 hgrow3)
      go_roundw
      case rel =>
        refine ⟨k + 1, by omega, by go_num, A3, c3, rfl, ?_, bel.grown hgrow3 hsz (fun j hj => (own.block j hj).1)⟩
        rw [HT.out, ← List.append_assoc]; exact hown3
      case measure => simp [intOf] <;> omega
    · go_wp2
      go_ret
      refine ⟨A6, n + k, c6, rfl, ?_, Below.then_ be1 bel⟩
      rw [HS.out]
      refine (own.down hs1).to rfl ?_
      rw [show k = 4 by omega]; rfl
/-- What bytes are opened to, as a string. -/
noncomputable def opened (bs : List Nat) : ByteArray := if Crc.ok32 bs = true then str (bs.take (bs.length - 4)) else str []
/-- What Open gives, told alike for both. -/
def Opens (w : World) (bs : List Nat) (e : Ending) (w' : World) : Prop :=
  ∃ A n c, e = .returned (.tuple #[.slice A n c, .bool (Crc.ok32 bs)]) ∧ Hid (∀ W, Below w'.heap.size w' W → convO A n c W = .ok (.string (opened bs)) W) ∧ Below w.heap.size w w'
/-- crc32.Open. -/
theorem openC (A : Option Addr) (n c : Nat) (bs : List Nat) (w : World) (hr : Rd w w.heap.size A n (U8 bs)) (hb : ∀ b ∈ bs, b < 256) (hnc : n ≤ c) (hn : n ≤ 65536) (hc : c ≤ 9223372036854775807) :
    Calls Tryd.prog 116 #[.slice A n c] w (Opens w bs) := by
  have hl := hr.len8
  cases hok : Crc.ok32 bs with
  | true =>
    refine (openYes A n c bs w hr hb hnc hn hc hok).mono ?_
    rintro e w' ⟨A', n', c', rfl, ow, be⟩
    refine ⟨A', n', c', by rw [hok], fun W hB => ?_, be⟩
    unfold opened
    rw [if_pos hok, ← hl]
    exact ow.convO W hB
  | false =>
    refine (openNo A n c bs w hr hb hnc hn hc hok).mono ?_
    rintro e w' ⟨rfl, m, rfl⟩
    refine ⟨none, 0, 0, by rw [hok], fun W hB => ?_, below_drawn m⟩
    unfold opened
    rw [if_neg (by rw [hok]; decide)]
    exact conv_none W
set_option maxHeartbeats 1000000 in
/-- The reference's Open. -/
theorem refOpenC (A : Option Addr) (n c : Nat) (bs : List Nat) (w : World) (hr : Rd w w.heap.size A n (U8 bs)) (hb : ∀ b ∈ bs, b < 256) (hnc : n ≤ c) (hn : n ≤ 1000) (hc : c ≤ 9223372036854775807)
    (hcv : Hid (∀ W, Below w.heap.size w W → convO A n c W = .ok (.string (str bs)) W)) :
    Calls Tryd.prog 57 #[.slice A n c] w (Opens w bs) := by
  have HN := Lib.hid hr.len8
  by_cases h2 : 4 ≤ n
  · obtain ⟨m, hm⟩ : ∃ m, m = n - 4 := ⟨_, rfl⟩
    have r1 := hr.cut8 m (by omega)
    obtain ⟨b, off, rfl, hlt, g1⟩ := hr.cell8 m (by omega)
    have C := Lib.hid (fun (W : World) (hB : Below w.heap.size w W) => refCloseC (some ⟨b, off, none⟩) m c (bs.take m) W ((r1.below hB).up hB.size) (take256 hb m) (by simp) (by omega))
    have HO : Hid (Crc.ok32 bs = ((str (Crc.close32 (bs.take m))).toList == (str bs).toList)) := by
      unfold Hid
      rw [ok32_close bs hb (by rw [← HN.out]; exact h2), ← HN.out, ← hm]
      by_cases he : Crc.close32 (bs.take m) = bs
      · rw [he]; simp
      · rw [str_ne (Crc.close32_lt _ (take256 hb m)) hb he]; simp [he]
    have HP : Hid (Crc.ok32 bs = true → opened bs = str (bs.take m)) := by
      intro h; unfold opened; rw [if_pos h, ← HN.out, ← hm]
    have HP2 : Hid (Crc.ok32 bs = false → opened bs = str []) := by
      intro h; unfold opened; rw [if_neg (by rw [h]; decide)]
    have CV : Hid (∀ W, Below w.heap.size w W → convO (some ⟨b, off, none⟩) m c W = .ok (.string (str (bs.take m))) W) := fun W hB => r1.convO (by simp) W hB
    generalize hs1 : str bs = s1 at *
    generalize hs2 : str (Crc.close32 (bs.take m)) = s2 at *
    have HS2 := Lib.hid hs2
    clear hs1 hs2
    cases hok : Crc.ok32 bs with
    | true =>
      have t3 : (s2.toList == s1.toList) = true := by rw [← HO.out]; exact hok
      have t4 : (s2.toList != s1.toList) = false := by rw [bne, t3]; rfl
      have HOK := Lib.hid hok
      clear hok
      have e0 : (n : Int) - 4 = (m : Int) := by omega
      have f0 : (0 : Int) ≤ (m : Int) := by omega
      have f8 : (m : Int) ≤ (c : Int) := by omega
      have f1 : IntKind.i64.wrap (m : Int) = (m : Int) := IntWalk.i64_in _ (by omega)
      have t0 : decide ((n : Int) < 4) = false := by simp; omega
      have t1 : decide (n < 4) = false := by simp; omega
      have HK : Hid (∀ W, Below w.heap.size w W → (Below w.heap.size w W ∧ convO (some ⟨b, off, none⟩) n c W = .ok (.string s1) W)) := fun W hB => ⟨hB, hcv.out W hB⟩
      have hany := convO_eq
      clear hm h2 g1
      go_enter Tryd.func57, Tryd.ntmps57
      go_wp2_with fail
      refine wp_region_noPanic ?_
      refine wp_region_held_drew (S := fun W => Below w.heap.size w W ∧ convO (some ⟨b, off, none⟩) n c W = .ok (.string s1) W) (by kernel_rfl) (HK.out _ (Below.refl _ _).drew) (fun hHeld => ?_)
      refine wpAnyH_take (i := 0) (oi := ⟨some 4, _, _, _, _, _⟩) (v := ?_) rfl (by kernel_rfl) (by kernel_rfl) (by kernel_rfl) (fun _ _ _ h => h) (Or.inl ⟨by rfl, ?_⟩) (by assumption) ?_
      rotate_left
      · intro W hSW; obtain ⟨hSW0, hSW1⟩ := hSW; go_simp; first | done | with_reducible rfl
      (try simp only [Act.put, List.setIfInBounds_toArray, List.set_cons_zero, List.set_cons_succ])
      refine wpAnyH_take (i := 1) (oi := ⟨some 5, _, _, _, _, _⟩) (v := ?_) rfl (by kernel_rfl) (by kernel_rfl) (by kernel_rfl) (fun _ _ _ h => h) (Or.inl ⟨by rfl, ?_⟩) (by assumption) ?_
      rotate_left
      · intro W hSW; obtain ⟨hSW0, hSW1⟩ := hSW; go_simp; first | done | with_reducible rfl
      (try simp only [Act.put, List.setIfInBounds_toArray, List.set_cons_zero, List.set_cons_succ])
      refine wpAnyH_take (i := 2) (oi := ⟨some 6, _, _, _, _, _⟩) (v := ?_) rfl (by kernel_rfl) (by kernel_rfl) (by kernel_rfl) (fun _ _ _ h => h) (Or.inl ⟨by rfl, ?_⟩) (by assumption) ?_
      rotate_left
      · intro W hSW; obtain ⟨hSW0, hSW1⟩ := hSW; go_simp; first | done | with_reducible rfl
      (try simp only [Act.put, List.setIfInBounds_toArray, List.set_cons_zero, List.set_cons_succ])
      refine wpAnyH_take (i := 3) (oi := ⟨some 7, _, _, _, _, _⟩) (v := ?_) rfl (by kernel_rfl) (by kernel_rfl) (by kernel_rfl) (fun _ _ _ h => h) (Or.inl ⟨by rfl, ?_⟩) (by assumption) ?_
      rotate_left
      · intro W hSW; obtain ⟨hSW0, hSW1⟩ := hSW; go_simp; first | done | with_reducible rfl
      (try simp only [Act.put, List.setIfInBounds_toArray, List.set_cons_zero, List.set_cons_succ])
      refine wpAnyH_take (i := 4) (oi := ⟨some 8, _, _, _, _, _⟩) (v := ?_) rfl (by kernel_rfl) (by kernel_rfl) (by kernel_rfl) (fun _ _ _ h => h) (Or.inl ⟨by rfl, ?_⟩) (by assumption) ?_
      rotate_left
      · intro W hSW; obtain ⟨hSW0, hSW1⟩ := hSW; go_simp; first | done | with_reducible rfl
      (try simp only [Act.put, List.setIfInBounds_toArray, List.set_cons_zero, List.set_cons_succ])
      refine wpAnyH_take (i := 5) (oi := ⟨some 9, _, _, _, _, _⟩) (v := ?_) rfl (by kernel_rfl) (by kernel_rfl) (by kernel_rfl) (fun _ _ _ h => h) (Or.inl ⟨by rfl, ?_⟩) (by assumption) ?_
      rotate_left
      · intro W hSW; obtain ⟨hSW0, hSW1⟩ := hSW; go_simp; first | done | with_reducible rfl
      (try simp only [Act.put, List.setIfInBounds_toArray, List.set_cons_zero, List.set_cons_succ])
      refine wpAnyH_take (i := 6) (oi := ⟨some 10, _, _, _, _, _⟩) (v := ?_) rfl (by kernel_rfl) (by kernel_rfl) (by kernel_rfl) (fun _ _ _ h => h) (Or.inl ⟨by rfl, ?_⟩) (by assumption) ?_
      rotate_left
      · intro W hSW; obtain ⟨hSW0, hSW1⟩ := hSW; go_simp; first | done | with_reducible rfl
      (try simp only [Act.put, List.setIfInBounds_toArray, List.set_cons_zero, List.set_cons_succ])
      refine wpAnyH_take (i := 7) (oi := ⟨some 11, _, _, _, _, _⟩) (v := ?_) rfl (by kernel_rfl) (by kernel_rfl) (by kernel_rfl) (fun _ _ _ h => h) (Or.inl ⟨by rfl, ?_⟩) (by assumption) ?_
      rotate_left
      · intro W hSW; obtain ⟨hSW0, hSW1⟩ := hSW; go_simp; first | done | with_reducible rfl
      (try simp only [Act.put, List.setIfInBounds_toArray, List.set_cons_zero, List.set_cons_succ])
      refine wpAnyH_take (i := 8) (oi := ⟨some 12, _, _, _, _, _⟩) (v := ?_) rfl (by kernel_rfl) (by kernel_rfl) (by kernel_rfl) (fun _ _ _ h => h) (Or.inl ⟨by rfl, ?_⟩) (by assumption) ?_
      rotate_left
      · intro W hSW; obtain ⟨hSW0, hSW1⟩ := hSW; go_simp; first | done | with_reducible rfl
      (try simp only [Act.put, List.setIfInBounds_toArray, List.set_cons_zero, List.set_cons_succ])
      refine wpAnyH_take (i := 11) (oi := ⟨some 15, _, _, _, _, _⟩) (v := ?_) rfl (by kernel_rfl) (by kernel_rfl) (by kernel_rfl) (fun _ _ _ h => h) (Or.inl ⟨by rfl, ?_⟩) (by assumption) ?_
      rotate_left
      · intro W hSW; obtain ⟨hSW0, hSW1⟩ := hSW; go_simp; first | done | with_reducible rfl
      (try simp only [Act.put, List.setIfInBounds_toArray, List.set_cons_zero, List.set_cons_succ])
      refine wpAnyH_take (i := 12) (oi := ⟨some 16, _, _, _, _, _⟩) (v := ?_) rfl (by kernel_rfl) (by kernel_rfl) (by kernel_rfl) (fun _ _ _ h => h) (Or.inl ⟨by rfl, ?_⟩) (by assumption) ?_
      rotate_left
      · intro W hSW; obtain ⟨hSW0, hSW1⟩ := hSW; go_simp; first | done | with_reducible rfl
      (try simp only [Act.put, List.setIfInBounds_toArray, List.set_cons_zero, List.set_cons_succ])
      refine wpAnyH_ready (rs := [9]) (by kernel_rfl) (by simp) ?_
      refine AllReadyH.cons (o := ⟨some 13, _, _, _, _, _⟩) rfl (fun K hK => ?_) AllReadyH.nil
      go_simp
      have b1 := hHeld.1
      refine (C.out _ b1).mono ?_
      rintro e wo ⟨Ao, no, co, rfl, owo, beo⟩
      have hq := owo.convO _ (Below.refl _ _)
      rw [HS2.out] at hq
      have bo := Below.then_ b1 beo
      clear hHeld
      refine hK.out _ _ ?_ (fun hHeld => ?_)
      · exact HK.out _ bo
      clear hK K
      (try simp only [Act.put, List.setIfInBounds_toArray, List.set_cons_zero, List.set_cons_succ])
      refine wpAnyH_ready (rs := [10]) (by kernel_rfl) (by simp) ?_
      refine AllReadyH.cons (o := ⟨some 14, _, _, _, _, _⟩) rfl (fun K hK => ?_) AllReadyH.nil
      go_simp
      refine hK.out _ _ ?_ (fun hHeld => ?_)
      · exact HK.out _ bo
      clear hK K
      (try simp only [Act.put, List.setIfInBounds_toArray, List.set_cons_zero, List.set_cons_succ])
      refine wpAnyH_take (i := 13) (oi := ⟨some 17, _, _, _, _, _⟩) (v := ?_) rfl (by kernel_rfl) (by kernel_rfl) (by kernel_rfl) (fun _ _ _ h => h) (Or.inl ⟨by rfl, ?_⟩) (by assumption) ?_
      rotate_left
      · intro W hSW; obtain ⟨hSW0, hSW1⟩ := hSW; go_simp; first | done | with_reducible rfl
      (try simp only [Act.put, List.setIfInBounds_toArray, List.set_cons_zero, List.set_cons_succ])
      refine wpAnyH_take (i := 14) (oi := ⟨some 18, _, _, _, _, _⟩) (v := ?_) rfl (by kernel_rfl) (by kernel_rfl) (by kernel_rfl) (fun _ _ _ h => h) (Or.inl ⟨by rfl, ?_⟩) (by assumption) ?_
      rotate_left
      · intro W hSW; obtain ⟨hSW0, hSW1⟩ := hSW; go_simp; first | done | with_reducible rfl
      (try simp only [Act.put, List.setIfInBounds_toArray, List.set_cons_zero, List.set_cons_succ])
      refine wpAnyH_done (by kernel_rfl) ?_ _
      refine NoPanic.normal ?_
      go_wp2
      go_ret2
      refine ⟨_, _, _, by rw [HOK.out]; rfl, fun W hB => ?_, bo⟩
      rw [HP.out HOK.out]
      exact CV.out W (Below.then_ bo hB)
    | false =>
      have t3 : (s2.toList == s1.toList) = false := by rw [← HO.out]; exact hok
      have t4 : (s2.toList != s1.toList) = true := by rw [bne, t3]; rfl
      have HOK := Lib.hid hok
      clear hok
      have e0 : (n : Int) - 4 = (m : Int) := by omega
      have f0 : (0 : Int) ≤ (m : Int) := by omega
      have f8 : (m : Int) ≤ (c : Int) := by omega
      have f1 : IntKind.i64.wrap (m : Int) = (m : Int) := IntWalk.i64_in _ (by omega)
      have t0 : decide ((n : Int) < 4) = false := by simp; omega
      have t1 : decide (n < 4) = false := by simp; omega
      have HK : Hid (∀ W, Below w.heap.size w W → (Below w.heap.size w W ∧ convO (some ⟨b, off, none⟩) n c W = .ok (.string s1) W)) := fun W hB => ⟨hB, hcv.out W hB⟩
      have hany := convO_eq
      clear hm h2 g1
      go_enter Tryd.func57, Tryd.ntmps57
      go_wp2_with fail
      refine wp_region_noPanic ?_
      refine wp_region_held_drew (S := fun W => Below w.heap.size w W ∧ convO (some ⟨b, off, none⟩) n c W = .ok (.string s1) W) (by kernel_rfl) (HK.out _ (Below.refl _ _).drew) (fun hHeld => ?_)
      refine wpAnyH_take (i := 0) (oi := ⟨some 4, _, _, _, _, _⟩) (v := ?_) rfl (by kernel_rfl) (by kernel_rfl) (by kernel_rfl) (fun _ _ _ h => h) (Or.inl ⟨by rfl, ?_⟩) (by assumption) ?_
      rotate_left
      · intro W hSW; obtain ⟨hSW0, hSW1⟩ := hSW; go_simp; first | done | with_reducible rfl
      (try simp only [Act.put, List.setIfInBounds_toArray, List.set_cons_zero, List.set_cons_succ])
      refine wpAnyH_take (i := 1) (oi := ⟨some 5, _, _, _, _, _⟩) (v := ?_) rfl (by kernel_rfl) (by kernel_rfl) (by kernel_rfl) (fun _ _ _ h => h) (Or.inl ⟨by rfl, ?_⟩) (by assumption) ?_
      rotate_left
      · intro W hSW; obtain ⟨hSW0, hSW1⟩ := hSW; go_simp; first | done | with_reducible rfl
      (try simp only [Act.put, List.setIfInBounds_toArray, List.set_cons_zero, List.set_cons_succ])
      refine wpAnyH_take (i := 2) (oi := ⟨some 6, _, _, _, _, _⟩) (v := ?_) rfl (by kernel_rfl) (by kernel_rfl) (by kernel_rfl) (fun _ _ _ h => h) (Or.inl ⟨by rfl, ?_⟩) (by assumption) ?_
      rotate_left
      · intro W hSW; obtain ⟨hSW0, hSW1⟩ := hSW; go_simp; first | done | with_reducible rfl
      (try simp only [Act.put, List.setIfInBounds_toArray, List.set_cons_zero, List.set_cons_succ])
      refine wpAnyH_take (i := 3) (oi := ⟨some 7, _, _, _, _, _⟩) (v := ?_) rfl (by kernel_rfl) (by kernel_rfl) (by kernel_rfl) (fun _ _ _ h => h) (Or.inl ⟨by rfl, ?_⟩) (by assumption) ?_
      rotate_left
      · intro W hSW; obtain ⟨hSW0, hSW1⟩ := hSW; go_simp; first | done | with_reducible rfl
      (try simp only [Act.put, List.setIfInBounds_toArray, List.set_cons_zero, List.set_cons_succ])
      refine wpAnyH_take (i := 4) (oi := ⟨some 8, _, _, _, _, _⟩) (v := ?_) rfl (by kernel_rfl) (by kernel_rfl) (by kernel_rfl) (fun _ _ _ h => h) (Or.inl ⟨by rfl, ?_⟩) (by assumption) ?_
      rotate_left
      · intro W hSW; obtain ⟨hSW0, hSW1⟩ := hSW; go_simp; first | done | with_reducible rfl
      (try simp only [Act.put, List.setIfInBounds_toArray, List.set_cons_zero, List.set_cons_succ])
      refine wpAnyH_take (i := 5) (oi := ⟨some 9, _, _, _, _, _⟩) (v := ?_) rfl (by kernel_rfl) (by kernel_rfl) (by kernel_rfl) (fun _ _ _ h => h) (Or.inl ⟨by rfl, ?_⟩) (by assumption) ?_
      rotate_left
      · intro W hSW; obtain ⟨hSW0, hSW1⟩ := hSW; go_simp; first | done | with_reducible rfl
      (try simp only [Act.put, List.setIfInBounds_toArray, List.set_cons_zero, List.set_cons_succ])
      refine wpAnyH_take (i := 6) (oi := ⟨some 10, _, _, _, _, _⟩) (v := ?_) rfl (by kernel_rfl) (by kernel_rfl) (by kernel_rfl) (fun _ _ _ h => h) (Or.inl ⟨by rfl, ?_⟩) (by assumption) ?_
      rotate_left
      · intro W hSW; obtain ⟨hSW0, hSW1⟩ := hSW; go_simp; first | done | with_reducible rfl
      (try simp only [Act.put, List.setIfInBounds_toArray, List.set_cons_zero, List.set_cons_succ])
      refine wpAnyH_take (i := 7) (oi := ⟨some 11, _, _, _, _, _⟩) (v := ?_) rfl (by kernel_rfl) (by kernel_rfl) (by kernel_rfl) (fun _ _ _ h => h) (Or.inl ⟨by rfl, ?_⟩) (by assumption) ?_
      rotate_left
      · intro W hSW; obtain ⟨hSW0, hSW1⟩ := hSW; go_simp; first | done | with_reducible rfl
      (try simp only [Act.put, List.setIfInBounds_toArray, List.set_cons_zero, List.set_cons_succ])
      refine wpAnyH_take (i := 8) (oi := ⟨some 12, _, _, _, _, _⟩) (v := ?_) rfl (by kernel_rfl) (by kernel_rfl) (by kernel_rfl) (fun _ _ _ h => h) (Or.inl ⟨by rfl, ?_⟩) (by assumption) ?_
      rotate_left
      · intro W hSW; obtain ⟨hSW0, hSW1⟩ := hSW; go_simp; first | done | with_reducible rfl
      (try simp only [Act.put, List.setIfInBounds_toArray, List.set_cons_zero, List.set_cons_succ])
      refine wpAnyH_take (i := 11) (oi := ⟨some 15, _, _, _, _, _⟩) (v := ?_) rfl (by kernel_rfl) (by kernel_rfl) (by kernel_rfl) (fun _ _ _ h => h) (Or.inl ⟨by rfl, ?_⟩) (by assumption) ?_
      rotate_left
      · intro W hSW; obtain ⟨hSW0, hSW1⟩ := hSW; go_simp; first | done | with_reducible rfl
      (try simp only [Act.put, List.setIfInBounds_toArray, List.set_cons_zero, List.set_cons_succ])
      refine wpAnyH_take (i := 12) (oi := ⟨some 16, _, _, _, _, _⟩) (v := ?_) rfl (by kernel_rfl) (by kernel_rfl) (by kernel_rfl) (fun _ _ _ h => h) (Or.inl ⟨by rfl, ?_⟩) (by assumption) ?_
      rotate_left
      · intro W hSW; obtain ⟨hSW0, hSW1⟩ := hSW; go_simp; first | done | with_reducible rfl
      (try simp only [Act.put, List.setIfInBounds_toArray, List.set_cons_zero, List.set_cons_succ])
      refine wpAnyH_ready (rs := [9]) (by kernel_rfl) (by simp) ?_
      refine AllReadyH.cons (o := ⟨some 13, _, _, _, _, _⟩) rfl (fun K hK => ?_) AllReadyH.nil
      go_simp
      have b1 := hHeld.1
      refine (C.out _ b1).mono ?_
      rintro e wo ⟨Ao, no, co, rfl, owo, beo⟩
      have hq := owo.convO _ (Below.refl _ _)
      rw [HS2.out] at hq
      have bo := Below.then_ b1 beo
      clear hHeld
      refine hK.out _ _ ?_ (fun hHeld => ?_)
      · exact HK.out _ bo
      clear hK K
      (try simp only [Act.put, List.setIfInBounds_toArray, List.set_cons_zero, List.set_cons_succ])
      refine wpAnyH_ready (rs := [10]) (by kernel_rfl) (by simp) ?_
      refine AllReadyH.cons (o := ⟨some 14, _, _, _, _, _⟩) rfl (fun K hK => ?_) AllReadyH.nil
      go_simp
      refine hK.out _ _ ?_ (fun hHeld => ?_)
      · exact HK.out _ bo
      clear hK K
      (try simp only [Act.put, List.setIfInBounds_toArray, List.set_cons_zero, List.set_cons_succ])
      refine wpAnyH_take (i := 13) (oi := ⟨some 17, _, _, _, _, _⟩) (v := ?_) rfl (by kernel_rfl) (by kernel_rfl) (by kernel_rfl) (fun _ _ _ h => h) (Or.inl ⟨by rfl, ?_⟩) (by assumption) ?_
      rotate_left
      · intro W hSW; obtain ⟨hSW0, hSW1⟩ := hSW; go_simp; first | done | with_reducible rfl
      (try simp only [Act.put, List.setIfInBounds_toArray, List.set_cons_zero, List.set_cons_succ])
      refine wpAnyH_take (i := 14) (oi := ⟨some 18, _, _, _, _, _⟩) (v := ?_) rfl (by kernel_rfl) (by kernel_rfl) (by kernel_rfl) (fun _ _ _ h => h) (Or.inl ⟨by rfl, ?_⟩) (by assumption) ?_
      rotate_left
      · intro W hSW; obtain ⟨hSW0, hSW1⟩ := hSW; go_simp; first | done | with_reducible rfl
      (try simp only [Act.put, List.setIfInBounds_toArray, List.set_cons_zero, List.set_cons_succ])
      refine wpAnyH_done (by kernel_rfl) ?_ _
      refine NoPanic.normal ?_
      go_wp2
      go_ret2
      refine ⟨_, _, _, by rw [HOK.out]; rfl, fun W hB => ?_, bo⟩
      rw [HP2.out HOK.out]
      exact conv_none W
  · have t0 : decide ((n : Int) < 4) = true := by simp; omega
    have t1 : decide (n < 4) = true := by simp; omega
    have HOK : Hid (Crc.ok32 bs = false) := by
      unfold Hid Crc.ok32
      rw [← HN.out]; simp; omega
    go_enter Tryd.func57, Tryd.ntmps57
    go_wp2_with fail
    go_quiet (fail)
    go_wp2
    go_ret2
    refine ⟨none, 0, 0, by rw [HOK.out]; rfl, fun W hB => ?_, below_drawn _⟩
    unfold opened
    rw [if_neg (by rw [HOK.out]; decide)]
    exact conv_none W
end Go.Proofs.YtcmoedhpedlalaaDoor
