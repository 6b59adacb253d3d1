/-
  The walk of ShuttleSums.
-/
import Derived.Test.YtmafkcjlehlebaaCx
import Derived.Test.YtmafkcjlehlebaaBc
import Derived.Test.YtmafkcjlehlebaaGfd
import Derived.Lib.Bytes
import Derived.Deep.RegionHeld3
namespace Go.Proofs.Ytmafkcjlehlebaa
open Go.RowKit
set_option linter.unusedVariables false
set_option linter.unusedSimpArgs false

theorem str_list (bs : List Nat) : (str bs).toList = bs.map UInt8.ofNat := by
  unfold str
  rw [Lib.strOfNums_toList]
  simp [Lib.bytesOf]
theorem str_inj {a b : List Nat} (ha : ∀ x ∈ a, x < 256) (hb : ∀ x ∈ b, x < 256) (h : (str a).toList = (str b).toList) : a = b := by
  rw [str_list, str_list] at h
  have key : ∀ (a b : List Nat), (∀ x ∈ a, x < 256) → (∀ x ∈ b, x < 256) → a.map UInt8.ofNat = b.map UInt8.ofNat → a = b := by
    intro a
    induction a with
    | nil => intro b _ _ h; cases b with
      | nil => rfl
      | cons y b => simp at h
    | cons x a ih => intro b h1 h2 h; cases b with
      | nil => simp at h
      | cons y b =>
        simp only [List.map_cons, List.cons.injEq] at h
        have e : x = y := by
          have := congrArg UInt8.toNat h.1
          have hx := h1 x List.mem_cons_self
          have hy := h2 y List.mem_cons_self
          simp at this; omega
        subst e
        rw [ih b (fun z hz => h1 z (List.mem_cons_of_mem _ hz)) (fun z hz => h2 z (List.mem_cons_of_mem _ hz)) h.2]
  exact key a b ha hb h
theorem str_ne {a b : List Nat} (ha : ∀ x ∈ a, x < 256) (hb : ∀ x ∈ b, x < 256) (h : a ≠ b) : ((str a).toList == (str b).toList) = false := by
  rw [Bool.eq_false_iff]
  intro hc
  exact h (str_inj ha hb (by simpa using hc))

theorem same3 (bs ps : List Nat) (hb : ∀ b ∈ bs, b < 256) (hl : ps.length ≤ 3) (hp : ∀ p ∈ ps, p < 8 * bs.length) (hn : bs.length ≤ 30) :
    ((Crc.c32 (Crc.fls bs ps) : Int) == (Crc.c32 bs : Int)) = ((str (Crc.fls bs ps)).toList == (str bs).toList) := by
  by_cases h : Crc.fls bs ps = bs
  · rw [h]; simp
  · rw [str_ne (Crc.fls_lt ps bs hb) hb h]
    rw [Bool.eq_false_iff]
    intro hc
    apply h
    refine Crc.c32_three bs ps hl hp hn ?_
    have := beq_iff_eq.1 hc
    omega

theorem append_lt {a b : List Nat} (ha : ∀ x ∈ a, x < 256) (hb : ∀ x ∈ b, x < 256) : ∀ x ∈ a ++ b, x < 256 := fun x hx => (List.mem_append.1 hx).elim (ha x) (hb x)
theorem zeros2 : ∀ x ∈ [0, 0], x < 256 := by decide

set_option maxHeartbeats 2000000 in
/-- ShuttleSums. -/
theorem walk9 (A : Option Addr) (n c : Nat) (xs : List Nat) (Az : Option Addr) (mz cz : Nat) (zs : List Int) (w : World) (h1 : Rd w w.heap.size A n (U8 xs)) (b1 : ∀ b ∈ xs, b < 256) (hnc : n ≤ c) (hc : c ≤ 9223372036854775807) (hnone : A = none → n = 0 ∧ c = 0)
    (h2 : Rd w w.heap.size Az mz (I64 zs)) (hmz : mz ≤ 9223372036854775807) :
    Calls Try.prog 9 #[.slice A n c, .slice Az mz cz] w fun e w' => e = .returned (.bool true) ∧ Below w.heap.size w w' := by
  obtain ⟨i0, hi0, hz0, hz1, hz2⟩ := info_parts info5
  have bk := take256 b1 30
  go_enter Try.func9, Try.ntmps9
  go_wp2_with fail
  refine (cutC A n c xs w h1 hnc hc hnone).mono ?_
  rintro e w1 ⟨A1, k, c1, rfl, ow1, be1⟩
  have lk : k ≤ 30 := by rw [ow1.rd.len8, List.length_take]; omega
  generalize xs.take 30 = ls at *
  have BK := Lib.hid bk
  have LK := Lib.hid ow1.rd.len8
  have hb1 := ow1.bounds
  have hc1 : c1 ≤ 9223372036854775807 := by have := hb1.2; unfold maxLen at this; omega
  have ht : ls.take 30 = ls := List.take_of_length_le (by rw [← LK.out]; exact lk)
  have C2 := Lib.hid (cutC A1 k c1 ls w1 (ow1.rdOf (Below.refl _ _)) hb1.1 hc1 ow1.none_)
  rw [ht] at C2
  clear ht h1 b1 hnone bk
  go_wp2_with fail
  refine C2.out.mono ?_
  rintro e w2 ⟨A2, k2, c2, rfl, ow2, be2⟩
  have hk2 : k2 = k := by rw [ow2.rd.len8, ← LK.out]
  subst hk2
  have hs2 := be2.size
  go_wp2_with (at_builtin; refine wpList_app _ rfl _ _ 22 rfl w1.heap.size 5 i0 _ 1 Try.underlying22 hi0 hz0 hz1 hz2 rfl A2 k2 c2 (U8 ls) rfl (ow2.below ((Below.refl _ _).alloc (Nat.le_refl _) _) (Nat.le_refl _)) _ _ 2 2 (U8 [0, 0]) rfl (rd_block w2 5 _ (0, 0) _ 2 rfl rfl) (by simp) (U8_one _) (by omega) (by unfold maxLen; omega) (by simp; exact Nat.le_trans hs2 (Nat.le_succ _)) ?_; intro A3 c3 w3 hown3 hgrow3)
  have be3 : Below w1.heap.size w1 w3 := (be2.alloc hs2 _).grown hgrow3 (by simp; exact Nat.le_trans hs2 (Nat.le_succ _)) (fun j hj => (ow2.block j hj).1)
  rw [← U8_append] at hown3
  have C4 := Lib.hid (bitsOf A3 (k2 + 2) c3 (ls ++ [0, 0]) w3 (hown3.rdOf (Below.refl _ _)) (append_lt BK.out zeros2) (by omega))
  clear hown3 hgrow3 ow2 hi0 hz0 hz1 hz2 be2 hs2 C2
  refine C4.out.mono ?_
  rintro e w4 ⟨A4, n4, c4, rfl, ow4, be4⟩
  have l4 : n4 ≤ 256 := by rw [ow4.rd.len8, Bm.ofBytes_length, List.length_append, ← LK.out]; simp; omega
  have be14 := Below.then_ be3 be4
  go_wp2_with fail
  clear C4 be3 be4
  go_loopw [6, 7] (fun l i wr => ∃ j : Nat, j ≤ 16 ∧ i = .int .i64 j ∧ ∃ A5 c5, l = .slice A5 j c5 ∧ Own wr w4.heap.size 3 A5 j c5 (I64 (Bm.allTo j)) ∧ Below w4.heap.size w4 wr) (fun _ i _ => 16 - (intOf i).toNat)
  case atStart => exact ⟨0, by omega, rfl, none, 0, rfl, Own.nil _ _ _, Below.refl _ _⟩
  case round =>
    obtain ⟨j, hj, rfl, A5, c5, rfl, ow5, be5⟩ := hrel
    have hs5 := be5.size
    by_cases hj16 : j < 16
    · have HT := Lib.hid (Bm.allTo_succ j)
      go_wp2_with (at_builtin; refine app64 _ rfl _ _ rfl w4.heap.size _ _ _ _ (j : Int) rfl ow5 rfl (by omega) hs5 ?_; intro A6 c6 w6 hown6 hgrow6)
      go_roundw
      case rel => exact ⟨j + 1, by omega, by go_num, A6, c6, rfl, by rw [HT.out]; exact hown6, be5.grown hgrow6 hs5 (fun i hi => (ow5.block i hi).1)⟩
      case measure => simp [intOf] <;> omega
    · obtain rfl : j = 16 := by omega
      have be15 := Below.then_ be14 be5
      have C6 := Lib.hid (turn A4 A5 n4 c4 16 c5 _ _ _ (ow4.rdOf be5) ow4.none_ (ow5.rdOf (Below.refl _ _)) (fun b h => by have := Bm.ofBytes_bit _ b h; omega) (by omega) (by omega))
      have HR := Lib.hid (Crc.rest16 ls BK.out)
      have HTB : Hid (∀ b ∈ Bm.trn (Bm.ofBytes (ls ++ [0, 0])) (Bm.allTo 16), b < 256) := Bm.trn_lt 8 (by omega) _ _ (fun b h => by have := Bm.ofBytes_bit _ b h; omega)
      have HTL : Hid ((Bm.trn (Bm.ofBytes (ls ++ [0, 0])) (Bm.allTo 16)).length = n4) := by unfold Hid; rw [Bm.trn_length]; exact ow4.rd.len8.symm
      generalize Bm.trn (Bm.ofBytes (ls ++ [0, 0])) (Bm.allTo 16) = ts at *
      go_wp2_with fail
      refine C6.out.mono ?_
      rintro e w6 ⟨A6, n6, c6, rfl, ow6, be6⟩
      have be16 := Below.then_ be15 be6
      have hn6 : n6 ≤ 256 := by rw [ow6.rd.len8, HTL.out]; exact l4
      have C7 : Hid (Calls Try.prog 26 #[.slice A6 n6 c6, .int .u64 69665] w6 fun e w' => e = .returned (.tuple #[.int .u64 (Crc.r16 ls : Nat), .bool true]) ∧ w6 = w') := by
        have := restC A6 n6 c6 ts 69665 w6 (ow6.rdOf (Below.refl _ _)) HTB.out (by omega) (by decide) (by rw [Crc.bl_p]; decide)
        rw [HR.out] at this
        exact this
      go_wp2_with fail
      refine C7.out.mono ?_
      rintro e w' ⟨rfl, rfl⟩
      have S1 := Lib.hid (fun (W : World) (hB : Below w6.heap.size w6 W) => sum16 A1 k2 c1 ls W (ow1.rdOf (Below.then_ be16 hB)) BK.out (by omega))
      have hr16 := Crc.r16_lt ls BK.out
      generalize Crc.r16 ls = r at *
      have e1 : IntKind.u16.wrap (r : Int) = (r : Int) := IntWalk.u16_in _ (by omega)
      have t1 : ((r : Int) != (r : Int)) = false := by simp
      clear C6 C7 HR HTB HTL ow4 ow5 ow6 be14 be15 be5
      go_wp2_with fail
      (with_reducible refine (stands _).mono ?_)
      rintro e w7 ⟨rfl, be7⟩
      go_wp2_with fail
      (with_reducible refine (S1.out _ be7).mono ?_)
      rintro e w' ⟨rfl, rfl⟩
      have be17 := Below.then_ be16 be7
      by_cases hk0 : k2 = 0
      · have t2 : ((k2 : Int) == 0) = true := by simp; omega
        clear hk0
        go_wp2_with fail
        (with_reducible refine (stands _).mono ?_)
        rintro e w8 ⟨rfl, be8⟩
        go_wp2_with fail
        (with_reducible refine (S1.out _ (Below.then_ be7 be8)).mono ?_)
        rintro e w' ⟨rfl, rfl⟩
        go_wp2_with fail
        go_ret
        exact ⟨rfl, Below.then_ be1 (Below.then_ be17 be8)⟩
      · have t2 : ((k2 : Int) == 0) = false := by simp; omega
        have h2' := (h2.below (be1.trans (be17.mono be1.size))).up (Nat.le_trans be1.size be17.size)
        go_wp2_with fail
        refine (bitsOf A1 k2 c1 ls w7 (ow1.rdOf be17) BK.out (by omega)).mono ?_
        rintro e w8 ⟨A8, n8, c8, rfl, ow8, be8⟩
        have hn8 : n8 ≤ 240 := by rw [ow8.rd.len8, Bm.ofBytes_length, ← LK.out]; omega
        have h2'' := (h2'.below be8).up be8.size
        obtain ⟨N, hN⟩ : ∃ N, N = 8 * k2 := ⟨_, rfl⟩
        have e3 : (8 : Int) * (k2 : Int) = (N : Int) := by omega
        have hN2 : N ≤ 240 := by omega
        have hN3 : 0 < N := by omega
        have HNK := Lib.hid hN
        clear hN
        go_wp2_with fail
        refine (placesC Az mz cz N zs w8 h2'' hmz hN3 (by omega)).mono ?_
        rintro e w9 ⟨A9, n9, c9, ps, rfl, ow9, HP, be9⟩
        have hn9 : n9 ≤ 3 := by rw [ow9.rd.len64, Crc.ints_length]; exact HP.out.1
        go_wp2_with fail
        refine (turn A8 A9 n8 c8 n9 c9 _ _ w9 (ow8.rdOf be9) ow8.none_ (ow9.rdOf (Below.refl _ _)) (fun b h => by have := Bm.ofBytes_bit _ b h; omega) (by omega) (by omega)).mono ?_
        rintro e w10 ⟨A10, n10, c10, rfl, ow10, be10⟩
        have hn10 : n10 ≤ 240 := by rw [ow10.rd.len8, Bm.trn_length, Bm.ofBytes_length, ← LK.out]; omega
        have HT1 : ∀ b ∈ Bm.trn (Bm.ofBytes ls) (Crc.ints ps), b ≤ 1 := fun b h => by
          have := Bm.trn_lt 1 (by omega) (Bm.ofBytes ls) (Crc.ints ps) (fun y hy => by have := Bm.ofBytes_bit ls y hy; omega) b h
          omega
        have C11 := Lib.hid (bytesYes A10 n10 c10 _ w10 (ow10.rdOf (Below.refl _ _)) HT1 (by omega))
        rw [Crc.turned_bytes ls ps BK.out (by rw [← LK.out, ← HNK.out]; exact HP.out.2)] at C11
        have HB3 := Lib.hid (Crc.fls_lt ps ls BK.out)
        have HL3 := Lib.hid (Crc.fls_length ps ls)
        have H3 := Lib.hid (same3 ls ps BK.out HP.out.1 (by rw [← LK.out, ← HNK.out]; exact HP.out.2) (by rw [← LK.out]; exact lk))
        generalize Crc.fls ls ps = ms at *
        go_wp2_with fail
        refine C11.out.mono ?_
        rintro e w11 ⟨A11, n11, c11, rfl, ow11, be11⟩
        have hn11 : n11 ≤ 30 := by rw [ow11.rd.len8, HL3.out, ← LK.out]; exact lk
        have be811 := Below.then_ (Below.then_ (Below.then_ be8 be9) be10) be11
        have be111 := Below.then_ be17 be811
        have D1 := Lib.hid (fun (W : World) (hB : Below w11.heap.size w11 W) => sum32 A11 n11 c11 ms W (ow11.rdOf hB) HB3.out (by omega))
        have D2 := Lib.hid (fun (W : World) (hB : Below w11.heap.size w11 W) => sum32 A1 k2 c1 ls W (ow1.rdOf (Below.then_ be111 hB)) BK.out (by omega))
        have CV1 := Lib.hid ow11.convO
        have CV2 := Lib.hid (fun (W : World) (hB : Below w11.heap.size w11 W) => ow1.convO W (Below.then_ be111 hB))
        generalize Crc.c32 ms = m1 at *
        generalize Crc.c32 ls = m2 at *
        generalize str ms = sm at *
        generalize str ls = sl at *
        have t5 : (((m1 : Int) == (m2 : Int)) == (sm.toList == sl.toList)) = true := by rw [H3.out]; simp
        have HK : Hid (∀ W, Below w11.heap.size w11 W → (Below w11.heap.size w11 W ∧ convO A11 n11 c11 W = .ok (.string sm) W ∧ convO A1 k2 c1 W = .ok (.string sl) W)) := fun W hB => ⟨hB, CV1.out W hB, CV2.out W hB⟩
        have bel11 := Below.then_ be1 be111
        have hany := convO_eq
        clear CV1 CV2 ow11 ow10 ow9 ow8 ow1 be8 be9 be10 be11 be811 be111 be17 be7 be16 be6 h2' h2'' C11 S1 HT1
        go_wp2_with fail
        refine wp_region_noPanic ?_
        refine wp_region_held_drew (S := fun W => Below w11.heap.size w11 W ∧ convO A11 n11 c11 W = .ok (.string sm) W ∧ convO A1 k2 c1 W = .ok (.string sl) W) (by kernel_rfl) (HK.out _ (Below.refl _ _).drew) (fun hHeld => ?_)
        refine wpAnyH_take (i := 0) (oi := ⟨some 77, _, _, _, _, _⟩) (v := ?_) rfl (by kernel_rfl) (by kernel_rfl) (by kernel_rfl) (fun _ _ _ h => h) (Or.inl ⟨by rfl, ?_⟩) (by assumption) ?_
        rotate_left
        · intro W hSW; obtain ⟨hSW0, hSW1, hSW2⟩ := hSW; go_simp; first | done | with_reducible rfl
        (try simp only [Act.put, List.setIfInBounds_toArray, List.set_cons_zero, List.set_cons_succ])
        refine wpAnyH_take (i := 1) (oi := ⟨some 78, _, _, _, _, _⟩) (v := ?_) rfl (by kernel_rfl) (by kernel_rfl) (by kernel_rfl) (fun _ _ _ h => h) (Or.inl ⟨by rfl, ?_⟩) (by assumption) ?_
        rotate_left
        · intro W hSW; obtain ⟨hSW0, hSW1, hSW2⟩ := hSW; go_simp; first | done | with_reducible rfl
        (try simp only [Act.put, List.setIfInBounds_toArray, List.set_cons_zero, List.set_cons_succ])
        refine wpAnyH_take (i := 2) (oi := ⟨some 79, _, _, _, _, _⟩) (v := ?_) rfl (by kernel_rfl) (by kernel_rfl) (by kernel_rfl) (fun _ _ _ h => h) (Or.inl ⟨by rfl, ?_⟩) (by assumption) ?_
        rotate_left
        · intro W hSW; obtain ⟨hSW0, hSW1, hSW2⟩ := hSW; go_simp; first | done | with_reducible rfl
        (try simp only [Act.put, List.setIfInBounds_toArray, List.set_cons_zero, List.set_cons_succ])
        refine wpAnyH_take (i := 3) (oi := ⟨some 80, _, _, _, _, _⟩) (v := ?_) rfl (by kernel_rfl) (by kernel_rfl) (by kernel_rfl) (fun _ _ _ h => h) (Or.inl ⟨by rfl, ?_⟩) (by assumption) ?_
        rotate_left
        · intro W hSW; obtain ⟨hSW0, hSW1, hSW2⟩ := hSW; go_simp; first | done | with_reducible rfl
        (try simp only [Act.put, List.setIfInBounds_toArray, List.set_cons_zero, List.set_cons_succ])
        refine wpAnyH_take (i := 5) (oi := ⟨some 82, _, _, _, _, _⟩) (v := ?_) rfl (by kernel_rfl) (by kernel_rfl) (by kernel_rfl) (fun _ _ _ h => h) (Or.inl ⟨by rfl, ?_⟩) (by assumption) ?_
        rotate_left
        · intro W hSW; obtain ⟨hSW0, hSW1, hSW2⟩ := hSW; go_simp; first | done | with_reducible rfl
        (try simp only [Act.put, List.setIfInBounds_toArray, List.set_cons_zero, List.set_cons_succ])
        refine wpAnyH_take (i := 8) (oi := ⟨some 85, _, _, _, _, _⟩) (v := ?_) rfl (by kernel_rfl) (by kernel_rfl) (by kernel_rfl) (fun _ _ _ h => h) (Or.inl ⟨by rfl, ?_⟩) (by assumption) ?_
        rotate_left
        · intro W hSW; obtain ⟨hSW0, hSW1, hSW2⟩ := hSW; go_simp; first | done | with_reducible rfl
        (try simp only [Act.put, List.setIfInBounds_toArray, List.set_cons_zero, List.set_cons_succ])
        refine wpAnyH_take (i := 9) (oi := ⟨some 86, _, _, _, _, _⟩) (v := ?_) rfl (by kernel_rfl) (by kernel_rfl) (by kernel_rfl) (fun _ _ _ h => h) (Or.inl ⟨by rfl, ?_⟩) (by assumption) ?_
        rotate_left
        · intro W hSW; obtain ⟨hSW0, hSW1, hSW2⟩ := hSW; go_simp; first | done | with_reducible rfl
        (try simp only [Act.put, List.setIfInBounds_toArray, List.set_cons_zero, List.set_cons_succ])
        refine wpAnyH_take (i := 10) (oi := ⟨some 87, _, _, _, _, _⟩) (v := ?_) rfl (by kernel_rfl) (by kernel_rfl) (by kernel_rfl) (fun _ _ _ h => h) (Or.inl ⟨by rfl, ?_⟩) (by assumption) ?_
        rotate_left
        · intro W hSW; obtain ⟨hSW0, hSW1, hSW2⟩ := hSW; go_simp; first | done | with_reducible rfl
        (try simp only [Act.put, List.setIfInBounds_toArray, List.set_cons_zero, List.set_cons_succ])
        refine wpAnyH_take (i := 11) (oi := ⟨some 88, _, _, _, _, _⟩) (v := ?_) rfl (by kernel_rfl) (by kernel_rfl) (by kernel_rfl) (fun _ _ _ h => h) (Or.inl ⟨by rfl, ?_⟩) (by assumption) ?_
        rotate_left
        · intro W hSW; obtain ⟨hSW0, hSW1, hSW2⟩ := hSW; go_simp; first | done | with_reducible rfl
        (try simp only [Act.put, List.setIfInBounds_toArray, List.set_cons_zero, List.set_cons_succ])
        refine wpAnyH_take (i := 12) (oi := ⟨some 89, _, _, _, _, _⟩) (v := ?_) rfl (by kernel_rfl) (by kernel_rfl) (by kernel_rfl) (fun _ _ _ h => h) (Or.inl ⟨by rfl, ?_⟩) (by assumption) ?_
        rotate_left
        · intro W hSW; obtain ⟨hSW0, hSW1, hSW2⟩ := hSW; go_simp; first | done | with_reducible rfl
        (try simp only [Act.put, List.setIfInBounds_toArray, List.set_cons_zero, List.set_cons_succ])
        refine wpAnyH_ready (rs := [4]) (by kernel_rfl) (by simp) ?_
        refine AllReadyH.cons (o := ⟨some 81, _, _, _, _, _⟩) rfl (fun K hK => ?_) AllReadyH.nil
        go_simp
        have ba := hHeld.1
        refine (D1.out _ ba).mono ?_
        rintro e wb ⟨rfl, rfl⟩
        clear hHeld
        refine hK.out _ _ ?_ (fun hHeld => ?_)
        · exact HK.out _ ba
        clear hK K
        (try simp only [Act.put, List.setIfInBounds_toArray, List.set_cons_zero, List.set_cons_succ])
        refine wpAnyH_ready (rs := [6]) (by kernel_rfl) (by simp) ?_
        refine AllReadyH.cons (o := ⟨some 83, _, _, _, _, _⟩) rfl (fun K hK => ?_) AllReadyH.nil
        go_simp
        refine (D2.out _ ba).mono ?_
        rintro e wb ⟨rfl, rfl⟩
        clear hHeld
        refine hK.out _ _ ?_ (fun hHeld => ?_)
        · exact HK.out _ ba
        clear hK K
        (try simp only [Act.put, List.setIfInBounds_toArray, List.set_cons_zero, List.set_cons_succ])
        refine wpAnyH_take (i := 7) (oi := ⟨some 84, _, _, _, _, _⟩) (v := ?_) rfl (by kernel_rfl) (by kernel_rfl) (by kernel_rfl) (fun _ _ _ h => h) (Or.inl ⟨by rfl, ?_⟩) (by assumption) ?_
        rotate_left
        · intro W hSW; obtain ⟨hSW0, hSW1, hSW2⟩ := hSW; go_simp; first | done | with_reducible rfl
        (try simp only [Act.put, List.setIfInBounds_toArray, List.set_cons_zero, List.set_cons_succ])
        refine wpAnyH_take (i := 13) (oi := ⟨some 90, _, _, _, _, _⟩) (v := ?_) rfl (by kernel_rfl) (by kernel_rfl) (by kernel_rfl) (fun _ _ _ h => h) (Or.inl ⟨by rfl, ?_⟩) (by assumption) ?_
        rotate_left
        · intro W hSW; obtain ⟨hSW0, hSW1, hSW2⟩ := hSW; go_simp; first | done | with_reducible rfl
        (try simp only [Act.put, List.setIfInBounds_toArray, List.set_cons_zero, List.set_cons_succ])
        refine wpAnyH_take (i := 14) (oi := ⟨some 91, _, _, _, _, _⟩) (v := ?_) rfl (by kernel_rfl) (by kernel_rfl) (by kernel_rfl) (fun _ _ _ h => h) (Or.inl ⟨by rfl, ?_⟩) (by assumption) ?_
        rotate_left
        · intro W hSW; obtain ⟨hSW0, hSW1, hSW2⟩ := hSW; go_simp; first | done | with_reducible rfl
        (try simp only [Act.put, List.setIfInBounds_toArray, List.set_cons_zero, List.set_cons_succ])
        refine wpAnyH_take (i := 15) (oi := ⟨some 4, _, _, _, _, _⟩) (v := ?_) rfl (by kernel_rfl) (by kernel_rfl) (by kernel_rfl) (fun _ _ _ h => h) (Or.inl ⟨by rfl, ?_⟩) (by assumption) ?_
        rotate_left
        · intro W hSW; obtain ⟨hSW0, hSW1, hSW2⟩ := hSW; go_simp; first | done | with_reducible rfl
        (try simp only [Act.put, List.setIfInBounds_toArray, List.set_cons_zero, List.set_cons_succ])
        refine wpAnyH_done (by kernel_rfl) ?_ _
        refine NoPanic.normal ?_
        go_wp2
        go_ret
        exact ⟨rfl, Below.then_ bel11 ba⟩
end Go.Proofs.Ytmafkcjlehlebaa
