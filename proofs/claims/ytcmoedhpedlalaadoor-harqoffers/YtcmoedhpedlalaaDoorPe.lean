/-
  Contract of layer 11's reference: Alone.
-/
import Derived.Test.YtcmoedhpedlalaaDoorPa
import Derived.Test.YtcmoedhpedlalaaDoorKz
import Derived.Test.YtcmoedhpedlalaaDoorMo
import Derived.Test.YtcmoedhpedlalaaDoorMz
namespace Go.Proofs.YtcmoedhpedlalaaDoor
open Go.RowKit
set_option maxRecDepth 100000
set_option linter.unusedVariables false
set_option linter.unusedSimpArgs false

/-- What Alone gives: the list's beginning, if what is behind it is noughts. -/
def AlR (w : World) (l : List Nat) (m : Nat) (e : Ending) (w' : World) : Prop := (((∀ j, m ≤ j → j < l.length → l.getD j 0 = 0) ∧ ∃ A c, e = .returned (.tuple #[.slice A m c, .bool true]) ∧ Rd w' w'.heap.size A m (U8 (l.take m)) ∧ (A = none → m = 0 ∧ c = 0)) ∨ ((∃ j, m ≤ j ∧ j < l.length ∧ l.getD j 0 ≠ 0) ∧ e = .returned (.tuple #[.slice none 0 0, .bool false]))) ∧ Below w.heap.size w w'
theorem Own.aptNew {w : World} {base : Nat} {e : TypeId} {A : Option Addr} {n c : Nat} {xs : List Value} (h : Own w base e A n c xs) : Apt A (some ⟨w.heap.size, 0, none⟩) := by
  unfold Apt
  cases hA : blk A with
  | none => exact .inl rfl
  | some k =>
    refine .inr fun hc => ?_
    have := (h.blkLt k hA).2
    simp [blk] at hc
    omega
/-- A new block of one byte. -/
theorem own_one (w : World) (v : Value) : Own (w.alloc (.cells #[v] 5)) w.heap.size 5 (some ⟨w.heap.size, 0, none⟩) 1 1 [v] :=
  ⟨⟨by simp, .inr ⟨w.heap.size, 1, #[v], rfl, Nat.le_refl _, heap_alloc_new w _, Nat.le_refl _, by unfold maxLen; omega, rfl, by simp⟩⟩⟩
set_option maxHeartbeats 1000000 in
set_option maxRecDepth 100000 in
/-- The reference's Alone. -/
theorem refAlone (A : Option Addr) (n c v : Nat) (p : List Nat) (w : World) (hr : Rd w w.heap.size A n (U8 p)) (hp : ∀ x ∈ p, x ≤ 1) (hn6 : 6 ≤ n) (hn : n ≤ 10000) (hv : v < 4) :
    Calls Tryd.prog 59 #[.slice A n c, .int .i64 (v : Int)] w (AlR w (Cv.al p v n) (n - 6)) := by
  obtain ⟨i0, hi0, hz0, hz1, hz2⟩ := info_parts info5
  obtain ⟨m, hm⟩ : ∃ m, n - 6 = m := ⟨_, rfl⟩
  rw [hm]
  have em : (n : Int) - 6 = (m : Int) := by omega
  have hmn : m ≤ n := by omega
  clear hm
  have HBI := Lib.hid (Cv.al_bit p hp v)
  have HALN := Lib.hid (Cv.al_next p hp v)
  have HLEN := Lib.hid (Cv.al_length p v)
  clear hp
  go_enter Tryd.func59, Tryd.ntmps59
  go_wp2
  go_loopw [6, 7] (fun s i wr => ∃ t : Nat, t ≤ n ∧ i = .int .i64 t ∧ ∃ A1 c1, s = .slice A1 t c1 ∧ Own wr w.heap.size 5 A1 t c1 (U8 (Cv.al p v t)) ∧ Below w.heap.size w wr) (fun _ i _ => n - (intOf i).toNat)
  case atStart => exact ⟨0, Nat.zero_le _, rfl, none, 0, rfl, Own.nil _ _ _, Below.refl _ _⟩
  case round =>
    obtain ⟨t, ht, rfl, A1, c1, rfl, hown, hbel⟩ := hrel
    have hsz := hbel.size
    by_cases hlt : t < n
    · obtain ⟨b, off, rfl, hlt2, hcell⟩ := (hr.below hbel).cell8 t hlt
      have HK : Hid (∀ W, Below wr.heap.size wr W → W.cell? ⟨b, off + t, none⟩ = some (.int .u8 ((p.getD t 0 : Nat) : Int))) := fun W hB => (hB.cell (p := ⟨b, off + t, none⟩) (by show b < wr.heap.size; omega)).trans hcell
      have hst := Cv.st_lt v t
      have CS := Lib.hid (fun W => refStream v t W hv (by omega))
      have hbits : ∀ x ∈ Cv.al p v t ++ [0], x ≤ 1 := fun x hx => by
        rcases List.mem_append.1 hx with h | h
        · exact HBI.out t x h
        · rw [List.mem_singleton.1 h]; omega
      have CB := Lib.hid (fun (W : World) (Ab : Option Addr) (cb : Nat) (hR : Rd W W.heap.size Ab (t + 1) (U8 (Cv.al p v t ++ [0]))) => bitC Ab (t + 1) cb t (Cv.st v t) (Cv.al p v t ++ [0]) W hR hbits (by omega) (by omega) hst)
      have HNX : Hid (Cv.al p v (t + 1) = Cv.al p v t ++ [if Cv.bitAt (Cv.al p v t ++ [0]) t (Cv.st v t) ≠ p.getD t 0 then 1 else 0]) := by
        unfold Hid
        rw [← HALN.out t]
        rfl
      have rl := hown.rd
      have hn1 := hown.none_
      clear hbits hcell
      generalize Cv.al p v t = la at *
      generalize Cv.bitAt (la ++ [0]) t (Cv.st v t) = y at *
      generalize p.getD t 0 = z at *
      generalize Cv.st v t = sv at *
      by_cases hyz : y = z
      · have tn : ((y : Int) != (z : Int)) = false := by simp [hyz]
        rw [if_neg (by omega)] at HNX
        clear hyz
        go_wp2_with fail
        have bel_0 : Below wr.heap.size wr wr.drew := (Below.refl _ _).drew
        obtain ⟨W0, hW0⟩ : ∃ W0, wr.drew = W0 := ⟨_, rfl⟩
        refine wp_region_noPanic ?_
        refine wp_region_held_drew (S := fun W => W.cell? ⟨b, off + t, none⟩ = some (.int .u8 (z : Int))) (by kernel_rfl) (HK.out _ bel_0) (fun hHeld => ?_)
        rw [hW0] at bel_0 hHeld ⊢
        clear hW0
        refine wpAnyH_take (i := 1) (oi := ⟨some 18, _, _, _, _, _⟩) (v := ?_) rfl (by kernel_rfl) (by kernel_rfl) (by kernel_rfl) (fun _ _ _ h => h) (Or.inl ⟨by rfl, ?_⟩) hHeld ?_
        rotate_left
        · intro W hSW; have hSW0 := hSW; go_simp; first | done | with_reducible rfl
        (try simp only [Act.put, List.setIfInBounds_toArray, List.set_cons_zero, List.set_cons_succ])
        refine wpAnyH_take (i := 5) (oi := ⟨some 22, _, _, _, _, _⟩) (v := ?_) rfl (by kernel_rfl) (by kernel_rfl) (by kernel_rfl) (fun _ _ _ h => h) (Or.inl ⟨by rfl, ?_⟩) hHeld ?_
        rotate_left
        · intro W hSW; have hSW0 := hSW; go_simp; first | done | with_reducible rfl
        (try simp only [Act.put, List.setIfInBounds_toArray, List.set_cons_zero, List.set_cons_succ])
        refine wpAnyH_take (i := 6) (oi := ⟨some 23, _, _, _, _, _⟩) (v := ?_) rfl (by kernel_rfl) (by kernel_rfl) (by kernel_rfl) (fun _ _ _ h => h) (Or.inl ⟨by rfl, ?_⟩) hHeld ?_
        rotate_left
        · intro W hSW; have hSW0 := hSW; go_simp; first | done | with_reducible rfl
        (try simp only [Act.put, List.setIfInBounds_toArray, List.set_cons_zero, List.set_cons_succ])
        refine wpAnyH_take (i := 7) (oi := ⟨some 24, _, _, _, _, _⟩) (v := ?_) rfl (by kernel_rfl) (by kernel_rfl) (by kernel_rfl) (fun _ _ _ h => h) (Or.inl ⟨by rfl, ?_⟩) hHeld ?_
        rotate_left
        · intro W hSW; have hSW0 := hSW; go_simp; first | done | with_reducible rfl
        (try simp only [Act.put, List.setIfInBounds_toArray, List.set_cons_zero, List.set_cons_succ])
        refine wpAnyH_take (i := 10) (oi := ⟨some 27, _, _, _, _, _⟩) (v := ?_) rfl (by kernel_rfl) (by kernel_rfl) (by kernel_rfl) (fun _ _ _ h => h) (Or.inl ⟨by rfl, ?_⟩) hHeld ?_
        rotate_left
        · intro W hSW; have hSW0 := hSW; go_simp; first | done | with_reducible rfl
        (try simp only [Act.put, List.setIfInBounds_toArray, List.set_cons_zero, List.set_cons_succ])
        refine wpAnyH_take (i := 11) (oi := ⟨some 28, _, _, _, _, _⟩) (v := ?_) rfl (by kernel_rfl) (by kernel_rfl) (by kernel_rfl) (fun _ _ _ h => h) (Or.inl ⟨by rfl, ?_⟩) hHeld ?_
        rotate_left
        · intro W hSW; have hSW0 := hSW; go_simp; first | done | with_reducible rfl
        (try simp only [Act.put, List.setIfInBounds_toArray, List.set_cons_zero, List.set_cons_succ])
        refine wpAnyH_take (i := 12) (oi := ⟨some 29, _, _, _, _, _⟩) (v := ?_) rfl (by kernel_rfl) (by kernel_rfl) (by kernel_rfl) (fun _ _ _ h => h) (Or.inl ⟨by rfl, ?_⟩) hHeld ?_
        rotate_left
        · intro W hSW; have hSW0 := hSW; go_simp; first | done | with_reducible rfl
        (try simp only [Act.put, List.setIfInBounds_toArray, List.set_cons_zero, List.set_cons_succ])
        refine wpAnyH_take (i := 13) (oi := ⟨some 30, _, _, _, _, _⟩) (v := ?_) rfl (by kernel_rfl) (by kernel_rfl) (by kernel_rfl) (fun _ _ _ h => h) (Or.inl ⟨by rfl, ?_⟩) hHeld ?_
        rotate_left
        · intro W hSW; have hSW0 := hSW; go_simp; first | done | with_reducible rfl
        (try simp only [Act.put, List.setIfInBounds_toArray, List.set_cons_zero, List.set_cons_succ])
        refine wpAnyH_ready (rs := [0, 3]) (by kernel_rfl) (by simp) ?_
        refine AllReadyH.cons (o := ⟨some 17, _, _, _, _, _⟩) rfl (fun K hK => ?_) (AllReadyH.cons (o := ⟨some 20, _, _, _, _, _⟩) rfl (fun K hK => ?_) (AllReadyH.nil))
        · refine step_none (by rfl) 22 5 (by rfl) i0 Tryd.underlying22 hi0 ?_
          intro W1 on hb sz
          have p_1 := on.down bel_0.size
          have bel_1 := Below.then_ bel_0 hb
          clear hHeld on hb sz
          refine hK.out _ _ ?_ (fun hHeld => ?_)
          · exact HK.out _ bel_1
          clear hK K
          (try simp only [Act.put, List.setIfInBounds_toArray, List.set_cons_zero, List.set_cons_succ])
          refine wpAnyH_ready (rs := [2, 3]) (by kernel_rfl) (by simp) ?_
          refine AllReadyH.cons (o := ⟨some 19, _, _, _, _, _⟩) rfl (fun K hK => ?_) (AllReadyH.cons (o := ⟨some 20, _, _, _, _, _⟩) rfl (fun K hK => ?_) (AllReadyH.nil))
          · refine step_app (by rfl) _ _ 22 (by rfl) wr.heap.size 5 i0 _ 1 Tryd.underlying22 hi0 hz0 hz1 hz2 rfl _ 0 0 [] (by rfl) p_1 wr.heap.size A1 t c1 (U8 la) (by rfl) (rl.below bel_1) hn1 (U8_one la) (by omega) (by unfold maxLen; omega) bel_1.size ?_
            intro A3 c3 W2 on gr at_
            have p_2 := on.to (Nat.zero_add t) (List.nil_append _)
            have bel_2 := bel_1.grown gr bel_1.size (fun j hj => (p_1.block j hj).1)
            clear hHeld on gr at_
            refine hK.out _ _ ?_ (fun hHeld => ?_)
            · exact HK.out _ bel_2
            clear hK K
            (try simp only [Act.put, List.setIfInBounds_toArray, List.set_cons_zero, List.set_cons_succ])
            rw [show 0 + t = t from Nat.zero_add t]
            refine wpAnyH_ready (rs := [3]) (by kernel_rfl) (by simp) ?_
            refine AllReadyH.cons (o := ⟨some 20, _, _, _, _, _⟩) rfl (fun K hK => ?_) (AllReadyH.nil)
            go_simp
            obtain ⟨W3, hW3⟩ : ∃ W, W = W2.alloc (.cells #[.int .u8 0] 5) := ⟨_, rfl⟩
            rw [← hW3]
            have hb : Below W2.heap.size W2 W3 := by rw [hW3]; exact (Below.refl _ _).alloc (Nat.le_refl _) _
            have q_3 : Own W3 wr.heap.size 5 (some ⟨W2.heap.size, 0, none⟩) 1 1 (U8 [0]) := by rw [hW3]; exact (own_one W2 _).down bel_2.size
            have bel_3 := Below.then_ bel_2 hb
            have p_3 := p_2.below hb (Nat.le_refl _)
            have ap_3 := p_2.aptNew
            obtain ⟨B, hB⟩ : ∃ B : Option Addr, B = some ⟨W2.heap.size, 0, none⟩ := ⟨_, rfl⟩
            rw [← hB] at q_3 ap_3
            rw [← hB]
            clear hHeld hb hW3 hB
            refine hK.out _ _ ?_ (fun hHeld => ?_)
            · exact HK.out _ bel_3
            clear hK K
            (try simp only [Act.put, List.setIfInBounds_toArray, List.set_cons_zero, List.set_cons_succ])
            refine wpAnyH_ready (rs := [4]) (by kernel_rfl) (by simp) ?_
            refine AllReadyH.cons (o := ⟨some 21, _, _, _, _, _⟩) rfl (fun K hK => ?_) (AllReadyH.nil)
            refine step_app (by rfl) _ _ 22 (by rfl) wr.heap.size 5 i0 _ 1 Tryd.underlying22 hi0 hz0 hz1 hz2 rfl _ t c3 (U8 la) (by rfl) p_3 W3.heap.size B 1 1 (U8 [0]) (by rfl) q_3.rd q_3.none_ (U8_one [0]) (by omega) (by unfold maxLen; omega) bel_3.size ?_
            intro A4 c4 W4 on gr at_
            rw [← U8_append] at on
            have bel_4 := bel_3.grown gr bel_3.size (fun j hj => (p_3.block j hj).1)
            have r_4 := on.rd
            clear hHeld on gr at_
            refine hK.out _ _ ?_ (fun hHeld => ?_)
            · exact HK.out _ bel_4
            clear hK K
            (try simp only [Act.put, List.setIfInBounds_toArray, List.set_cons_zero, List.set_cons_succ])
            refine wpAnyH_ready (rs := [8]) (by kernel_rfl) (by simp) ?_
            refine AllReadyH.cons (o := ⟨some 25, _, _, _, _, _⟩) rfl (fun K hK => ?_) (AllReadyH.nil)
            go_simp
            refine (CS.out _).mono ?_
            rintro e W ⟨rfl, rfl⟩
            clear hHeld
            refine hK.out _ _ ?_ (fun hHeld => ?_)
            · exact HK.out _ bel_4
            clear hK K
            (try simp only [Act.put, List.setIfInBounds_toArray, List.set_cons_zero, List.set_cons_succ])
            refine wpAnyH_ready (rs := [9]) (by kernel_rfl) (by simp) ?_
            refine AllReadyH.cons (o := ⟨some 26, _, _, _, _, _⟩) rfl (fun K hK => ?_) (AllReadyH.nil)
            go_simp
            refine (CB.out _ _ _ r_4).mono ?_
            rintro e WB ⟨rfl, hb⟩
            have belB := Below.then_ bel_4 hb
            clear hHeld hb
            refine hK.out _ _ ?_ (fun hHeld => ?_)
            · exact HK.out _ belB
            clear hK K
            (try simp only [Act.put, List.setIfInBounds_toArray, List.set_cons_zero, List.set_cons_succ])
            refine wpAnyH_take (i := 14) (oi := ⟨some 31, _, _, _, _, _⟩) (v := ?_) rfl (by kernel_rfl) (by kernel_rfl) (by kernel_rfl) (fun _ _ _ h => h) (Or.inl ⟨by rfl, ?_⟩) hHeld ?_
            rotate_left
            · intro W hSW; have hSW0 := hSW; go_simp; first | done | with_reducible rfl
            (try simp only [Act.put, List.setIfInBounds_toArray, List.set_cons_zero, List.set_cons_succ])
            refine wpAnyH_done (by kernel_rfl) ?_ _
            refine NoPanic.normal ?_
            clear hHeld
            have own7 := hown.below belB (Nat.le_refl _)
            have bw7 := hbel.trans (belB.mono hsz)
            go_wp2_with (at_builtin; refine app8 _ rfl _ _ rfl w.heap.size _ _ _ _ 0 _ rfl rfl own7 rfl (by omega) bw7.size ?_; intro A9 c9 w9 hown9 hgrow9)
            go_roundw
            case rel =>
              refine ⟨t + 1, by omega, by go_num, A9, c9, rfl, ?_, bw7.grown hgrow9 bw7.size (fun j hj => (own7.block j hj).1)⟩
              rw [HNX.out]
              exact hown9
            case measure => simp [intOf] <;> omega
          · go_simp
            obtain ⟨W2, hW2⟩ : ∃ W, W = W1.alloc (.cells #[.int .u8 0] 5) := ⟨_, rfl⟩
            rw [← hW2]
            have hb : Below W1.heap.size W1 W2 := by rw [hW2]; exact (Below.refl _ _).alloc (Nat.le_refl _) _
            have q_2 : Own W2 wr.heap.size 5 (some ⟨W1.heap.size, 0, none⟩) 1 1 (U8 [0]) := by rw [hW2]; exact (own_one W1 _).down bel_1.size
            have bel_2 := Below.then_ bel_1 hb
            have p_2 := p_1.below hb (Nat.le_refl _)
            have ap_2 := p_1.aptNew
            obtain ⟨B, hB⟩ : ∃ B : Option Addr, B = some ⟨W1.heap.size, 0, none⟩ := ⟨_, rfl⟩
            rw [← hB] at q_2 ap_2
            rw [← hB]
            clear hHeld hb hW2 hB
            refine hK.out _ _ ?_ (fun hHeld => ?_)
            · exact HK.out _ bel_2
            clear hK K
            (try simp only [Act.put, List.setIfInBounds_toArray, List.set_cons_zero, List.set_cons_succ])
            refine wpAnyH_ready (rs := [2]) (by kernel_rfl) (by simp) ?_
            refine AllReadyH.cons (o := ⟨some 19, _, _, _, _, _⟩) rfl (fun K hK => ?_) (AllReadyH.nil)
            refine step_app (by rfl) _ _ 22 (by rfl) wr.heap.size 5 i0 _ 1 Tryd.underlying22 hi0 hz0 hz1 hz2 rfl _ 0 0 [] (by rfl) p_2 wr.heap.size A1 t c1 (U8 la) (by rfl) (rl.below bel_2) hn1 (U8_one la) (by omega) (by unfold maxLen; omega) bel_2.size ?_
            intro A3 c3 W3 on gr at_
            have p_3 := on.to (Nat.zero_add t) (List.nil_append _)
            have bel_3 := bel_2.grown gr bel_2.size (fun j hj => (p_2.block j hj).1)
            have q_3 := q_2.grown gr ap_2.symm
            have ap_3 : Apt A3 B := ap_2.next (w := W2) (at_.imp id (fun h => ⟨_, h, Nat.le_refl _⟩)) (fun j hj => (q_2.blkLt j hj).2)
            clear hHeld on gr at_
            refine hK.out _ _ ?_ (fun hHeld => ?_)
            · exact HK.out _ bel_3
            clear hK K
            (try simp only [Act.put, List.setIfInBounds_toArray, List.set_cons_zero, List.set_cons_succ])
            rw [show 0 + t = t from Nat.zero_add t]
            refine wpAnyH_ready (rs := [4]) (by kernel_rfl) (by simp) ?_
            refine AllReadyH.cons (o := ⟨some 21, _, _, _, _, _⟩) rfl (fun K hK => ?_) (AllReadyH.nil)
            refine step_app (by rfl) _ _ 22 (by rfl) wr.heap.size 5 i0 _ 1 Tryd.underlying22 hi0 hz0 hz1 hz2 rfl _ t c3 (U8 la) (by rfl) p_3 W3.heap.size B 1 1 (U8 [0]) (by rfl) q_3.rd q_3.none_ (U8_one [0]) (by omega) (by unfold maxLen; omega) bel_3.size ?_
            intro A4 c4 W4 on gr at_
            rw [← U8_append] at on
            have bel_4 := bel_3.grown gr bel_3.size (fun j hj => (p_3.block j hj).1)
            have r_4 := on.rd
            clear hHeld on gr at_
            refine hK.out _ _ ?_ (fun hHeld => ?_)
            · exact HK.out _ bel_4
            clear hK K
            (try simp only [Act.put, List.setIfInBounds_toArray, List.set_cons_zero, List.set_cons_succ])
            refine wpAnyH_ready (rs := [8]) (by kernel_rfl) (by simp) ?_
            refine AllReadyH.cons (o := ⟨some 25, _, _, _, _, _⟩) rfl (fun K hK => ?_) (AllReadyH.nil)
            go_simp
            refine (CS.out _).mono ?_
            rintro e W ⟨rfl, rfl⟩
            clear hHeld
            refine hK.out _ _ ?_ (fun hHeld => ?_)
            · exact HK.out _ bel_4
            clear hK K
            (try simp only [Act.put, List.setIfInBounds_toArray, List.set_cons_zero, List.set_cons_succ])
            refine wpAnyH_ready (rs := [9]) (by kernel_rfl) (by simp) ?_
            refine AllReadyH.cons (o := ⟨some 26, _, _, _, _, _⟩) rfl (fun K hK => ?_) (AllReadyH.nil)
            go_simp
            refine (CB.out _ _ _ r_4).mono ?_
            rintro e WB ⟨rfl, hb⟩
            have belB := Below.then_ bel_4 hb
            clear hHeld hb
            refine hK.out _ _ ?_ (fun hHeld => ?_)
            · exact HK.out _ belB
            clear hK K
            (try simp only [Act.put, List.setIfInBounds_toArray, List.set_cons_zero, List.set_cons_succ])
            refine wpAnyH_take (i := 14) (oi := ⟨some 31, _, _, _, _, _⟩) (v := ?_) rfl (by kernel_rfl) (by kernel_rfl) (by kernel_rfl) (fun _ _ _ h => h) (Or.inl ⟨by rfl, ?_⟩) hHeld ?_
            rotate_left
            · intro W hSW; have hSW0 := hSW; go_simp; first | done | with_reducible rfl
            (try simp only [Act.put, List.setIfInBounds_toArray, List.set_cons_zero, List.set_cons_succ])
            refine wpAnyH_done (by kernel_rfl) ?_ _
            refine NoPanic.normal ?_
            clear hHeld
            have own7 := hown.below belB (Nat.le_refl _)
            have bw7 := hbel.trans (belB.mono hsz)
            go_wp2_with (at_builtin; refine app8 _ rfl _ _ rfl w.heap.size _ _ _ _ 0 _ rfl rfl own7 rfl (by omega) bw7.size ?_; intro A9 c9 w9 hown9 hgrow9)
            go_roundw
            case rel =>
              refine ⟨t + 1, by omega, by go_num, A9, c9, rfl, ?_, bw7.grown hgrow9 bw7.size (fun j hj => (own7.block j hj).1)⟩
              rw [HNX.out]
              exact hown9
            case measure => simp [intOf] <;> omega
        · go_simp
          obtain ⟨W1, hW1⟩ : ∃ W, W = W0.alloc (.cells #[.int .u8 0] 5) := ⟨_, rfl⟩
          rw [← hW1]
          have hb : Below W0.heap.size W0 W1 := by rw [hW1]; exact (Below.refl _ _).alloc (Nat.le_refl _) _
          have q_1 : Own W1 wr.heap.size 5 (some ⟨W0.heap.size, 0, none⟩) 1 1 (U8 [0]) := by rw [hW1]; exact (own_one W0 _).down bel_0.size
          have bel_1 := Below.then_ bel_0 hb
          obtain ⟨B, hB⟩ : ∃ B : Option Addr, B = some ⟨W0.heap.size, 0, none⟩ := ⟨_, rfl⟩
          rw [← hB] at q_1
          rw [← hB]
          clear hHeld hb hW1 hB
          refine hK.out _ _ ?_ (fun hHeld => ?_)
          · exact HK.out _ bel_1
          clear hK K
          (try simp only [Act.put, List.setIfInBounds_toArray, List.set_cons_zero, List.set_cons_succ])
          refine wpAnyH_ready (rs := [0]) (by kernel_rfl) (by simp) ?_
          refine AllReadyH.cons (o := ⟨some 17, _, _, _, _, _⟩) rfl (fun K hK => ?_) (AllReadyH.nil)
          refine step_none (by rfl) 22 5 (by rfl) i0 Tryd.underlying22 hi0 ?_
          intro W2 on hb sz
          have p_2 := on.down bel_1.size
          have bel_2 := Below.then_ bel_1 hb
          have q_2 := q_1.below hb (Nat.le_refl _)
          have ap_2 : Apt (some ⟨W1.heap.size, 0, none⟩) B := q_1.aptNew.symm
          clear hHeld on hb sz
          refine hK.out _ _ ?_ (fun hHeld => ?_)
          · exact HK.out _ bel_2
          clear hK K
          (try simp only [Act.put, List.setIfInBounds_toArray, List.set_cons_zero, List.set_cons_succ])
          refine wpAnyH_ready (rs := [2]) (by kernel_rfl) (by simp) ?_
          refine AllReadyH.cons (o := ⟨some 19, _, _, _, _, _⟩) rfl (fun K hK => ?_) (AllReadyH.nil)
          refine step_app (by rfl) _ _ 22 (by rfl) wr.heap.size 5 i0 _ 1 Tryd.underlying22 hi0 hz0 hz1 hz2 rfl _ 0 0 [] (by rfl) p_2 wr.heap.size A1 t c1 (U8 la) (by rfl) (rl.below bel_2) hn1 (U8_one la) (by omega) (by unfold maxLen; omega) bel_2.size ?_
          intro A3 c3 W3 on gr at_
          have p_3 := on.to (Nat.zero_add t) (List.nil_append _)
          have bel_3 := bel_2.grown gr bel_2.size (fun j hj => (p_2.block j hj).1)
          have q_3 := q_2.grown gr ap_2.symm
          have ap_3 : Apt A3 B := ap_2.next (w := W2) (at_.imp id (fun h => ⟨_, h, Nat.le_refl _⟩)) (fun j hj => (q_2.blkLt j hj).2)
          clear hHeld on gr at_
          refine hK.out _ _ ?_ (fun hHeld => ?_)
          · exact HK.out _ bel_3
          clear hK K
          (try simp only [Act.put, List.setIfInBounds_toArray, List.set_cons_zero, List.set_cons_succ])
          rw [show 0 + t = t from Nat.zero_add t]
          refine wpAnyH_ready (rs := [4]) (by kernel_rfl) (by simp) ?_
          refine AllReadyH.cons (o := ⟨some 21, _, _, _, _, _⟩) rfl (fun K hK => ?_) (AllReadyH.nil)
          refine step_app (by rfl) _ _ 22 (by rfl) wr.heap.size 5 i0 _ 1 Tryd.underlying22 hi0 hz0 hz1 hz2 rfl _ t c3 (U8 la) (by rfl) p_3 W3.heap.size B 1 1 (U8 [0]) (by rfl) q_3.rd q_3.none_ (U8_one [0]) (by omega) (by unfold maxLen; omega) bel_3.size ?_
          intro A4 c4 W4 on gr at_
          rw [← U8_append] at on
          have bel_4 := bel_3.grown gr bel_3.size (fun j hj => (p_3.block j hj).1)
          have r_4 := on.rd
          clear hHeld on gr at_
          refine hK.out _ _ ?_ (fun hHeld => ?_)
          · exact HK.out _ bel_4
          clear hK K
          (try simp only [Act.put, List.setIfInBounds_toArray, List.set_cons_zero, List.set_cons_succ])
          refine wpAnyH_ready (rs := [8]) (by kernel_rfl) (by simp) ?_
          refine AllReadyH.cons (o := ⟨some 25, _, _, _, _, _⟩) rfl (fun K hK => ?_) (AllReadyH.nil)
          go_simp
          refine (CS.out _).mono ?_
          rintro e W ⟨rfl, rfl⟩
          clear hHeld
          refine hK.out _ _ ?_ (fun hHeld => ?_)
          · exact HK.out _ bel_4
          clear hK K
          (try simp only [Act.put, List.setIfInBounds_toArray, List.set_cons_zero, List.set_cons_succ])
          refine wpAnyH_ready (rs := [9]) (by kernel_rfl) (by simp) ?_
          refine AllReadyH.cons (o := ⟨some 26, _, _, _, _, _⟩) rfl (fun K hK => ?_) (AllReadyH.nil)
          go_simp
          refine (CB.out _ _ _ r_4).mono ?_
          rintro e WB ⟨rfl, hb⟩
          have belB := Below.then_ bel_4 hb
          clear hHeld hb
          refine hK.out _ _ ?_ (fun hHeld => ?_)
          · exact HK.out _ belB
          clear hK K
          (try simp only [Act.put, List.setIfInBounds_toArray, List.set_cons_zero, List.set_cons_succ])
          refine wpAnyH_take (i := 14) (oi := ⟨some 31, _, _, _, _, _⟩) (v := ?_) rfl (by kernel_rfl) (by kernel_rfl) (by kernel_rfl) (fun _ _ _ h => h) (Or.inl ⟨by rfl, ?_⟩) hHeld ?_
          rotate_left
          · intro W hSW; have hSW0 := hSW; go_simp; first | done | with_reducible rfl
          (try simp only [Act.put, List.setIfInBounds_toArray, List.set_cons_zero, List.set_cons_succ])
          refine wpAnyH_done (by kernel_rfl) ?_ _
          refine NoPanic.normal ?_
          clear hHeld
          have own7 := hown.below belB (Nat.le_refl _)
          have bw7 := hbel.trans (belB.mono hsz)
          go_wp2_with (at_builtin; refine app8 _ rfl _ _ rfl w.heap.size _ _ _ _ 0 _ rfl rfl own7 rfl (by omega) bw7.size ?_; intro A9 c9 w9 hown9 hgrow9)
          go_roundw
          case rel =>
            refine ⟨t + 1, by omega, by go_num, A9, c9, rfl, ?_, bw7.grown hgrow9 bw7.size (fun j hj => (own7.block j hj).1)⟩
            rw [HNX.out]
            exact hown9
          case measure => simp [intOf] <;> omega
      · have tn : ((y : Int) != (z : Int)) = true := by simp; omega
        rw [if_pos hyz] at HNX
        clear hyz
        go_wp2_with fail
        have bel_0 : Below wr.heap.size wr wr.drew := (Below.refl _ _).drew
        obtain ⟨W0, hW0⟩ : ∃ W0, wr.drew = W0 := ⟨_, rfl⟩
        refine wp_region_noPanic ?_
        refine wp_region_held_drew (S := fun W => W.cell? ⟨b, off + t, none⟩ = some (.int .u8 (z : Int))) (by kernel_rfl) (HK.out _ bel_0) (fun hHeld => ?_)
        rw [hW0] at bel_0 hHeld ⊢
        clear hW0
        refine wpAnyH_take (i := 1) (oi := ⟨some 18, _, _, _, _, _⟩) (v := ?_) rfl (by kernel_rfl) (by kernel_rfl) (by kernel_rfl) (fun _ _ _ h => h) (Or.inl ⟨by rfl, ?_⟩) hHeld ?_
        rotate_left
        · intro W hSW; have hSW0 := hSW; go_simp; first | done | with_reducible rfl
        (try simp only [Act.put, List.setIfInBounds_toArray, List.set_cons_zero, List.set_cons_succ])
        refine wpAnyH_take (i := 5) (oi := ⟨some 22, _, _, _, _, _⟩) (v := ?_) rfl (by kernel_rfl) (by kernel_rfl) (by kernel_rfl) (fun _ _ _ h => h) (Or.inl ⟨by rfl, ?_⟩) hHeld ?_
        rotate_left
        · intro W hSW; have hSW0 := hSW; go_simp; first | done | with_reducible rfl
        (try simp only [Act.put, List.setIfInBounds_toArray, List.set_cons_zero, List.set_cons_succ])
        refine wpAnyH_take (i := 6) (oi := ⟨some 23, _, _, _, _, _⟩) (v := ?_) rfl (by kernel_rfl) (by kernel_rfl) (by kernel_rfl) (fun _ _ _ h => h) (Or.inl ⟨by rfl, ?_⟩) hHeld ?_
        rotate_left
        · intro W hSW; have hSW0 := hSW; go_simp; first | done | with_reducible rfl
        (try simp only [Act.put, List.setIfInBounds_toArray, List.set_cons_zero, List.set_cons_succ])
        refine wpAnyH_take (i := 7) (oi := ⟨some 24, _, _, _, _, _⟩) (v := ?_) rfl (by kernel_rfl) (by kernel_rfl) (by kernel_rfl) (fun _ _ _ h => h) (Or.inl ⟨by rfl, ?_⟩) hHeld ?_
        rotate_left
        · intro W hSW; have hSW0 := hSW; go_simp; first | done | with_reducible rfl
        (try simp only [Act.put, List.setIfInBounds_toArray, List.set_cons_zero, List.set_cons_succ])
        refine wpAnyH_take (i := 10) (oi := ⟨some 27, _, _, _, _, _⟩) (v := ?_) rfl (by kernel_rfl) (by kernel_rfl) (by kernel_rfl) (fun _ _ _ h => h) (Or.inl ⟨by rfl, ?_⟩) hHeld ?_
        rotate_left
        · intro W hSW; have hSW0 := hSW; go_simp; first | done | with_reducible rfl
        (try simp only [Act.put, List.setIfInBounds_toArray, List.set_cons_zero, List.set_cons_succ])
        refine wpAnyH_take (i := 11) (oi := ⟨some 28, _, _, _, _, _⟩) (v := ?_) rfl (by kernel_rfl) (by kernel_rfl) (by kernel_rfl) (fun _ _ _ h => h) (Or.inl ⟨by rfl, ?_⟩) hHeld ?_
        rotate_left
        · intro W hSW; have hSW0 := hSW; go_simp; first | done | with_reducible rfl
        (try simp only [Act.put, List.setIfInBounds_toArray, List.set_cons_zero, List.set_cons_succ])
        refine wpAnyH_take (i := 12) (oi := ⟨some 29, _, _, _, _, _⟩) (v := ?_) rfl (by kernel_rfl) (by kernel_rfl) (by kernel_rfl) (fun _ _ _ h => h) (Or.inl ⟨by rfl, ?_⟩) hHeld ?_
        rotate_left
        · intro W hSW; have hSW0 := hSW; go_simp; first | done | with_reducible rfl
        (try simp only [Act.put, List.setIfInBounds_toArray, List.set_cons_zero, List.set_cons_succ])
        refine wpAnyH_take (i := 13) (oi := ⟨some 30, _, _, _, _, _⟩) (v := ?_) rfl (by kernel_rfl) (by kernel_rfl) (by kernel_rfl) (fun _ _ _ h => h) (Or.inl ⟨by rfl, ?_⟩) hHeld ?_
        rotate_left
        · intro W hSW; have hSW0 := hSW; go_simp; first | done | with_reducible rfl
        (try simp only [Act.put, List.setIfInBounds_toArray, List.set_cons_zero, List.set_cons_succ])
        refine wpAnyH_ready (rs := [0, 3]) (by kernel_rfl) (by simp) ?_
        refine AllReadyH.cons (o := ⟨some 17, _, _, _, _, _⟩) rfl (fun K hK => ?_) (AllReadyH.cons (o := ⟨some 20, _, _, _, _, _⟩) rfl (fun K hK => ?_) (AllReadyH.nil))
        · refine step_none (by rfl) 22 5 (by rfl) i0 Tryd.underlying22 hi0 ?_
          intro W1 on hb sz
          have p_1 := on.down bel_0.size
          have bel_1 := Below.then_ bel_0 hb
          clear hHeld on hb sz
          refine hK.out _ _ ?_ (fun hHeld => ?_)
          · exact HK.out _ bel_1
          clear hK K
          (try simp only [Act.put, List.setIfInBounds_toArray, List.set_cons_zero, List.set_cons_succ])
          refine wpAnyH_ready (rs := [2, 3]) (by kernel_rfl) (by simp) ?_
          refine AllReadyH.cons (o := ⟨some 19, _, _, _, _, _⟩) rfl (fun K hK => ?_) (AllReadyH.cons (o := ⟨some 20, _, _, _, _, _⟩) rfl (fun K hK => ?_) (AllReadyH.nil))
          · refine step_app (by rfl) _ _ 22 (by rfl) wr.heap.size 5 i0 _ 1 Tryd.underlying22 hi0 hz0 hz1 hz2 rfl _ 0 0 [] (by rfl) p_1 wr.heap.size A1 t c1 (U8 la) (by rfl) (rl.below bel_1) hn1 (U8_one la) (by omega) (by unfold maxLen; omega) bel_1.size ?_
            intro A3 c3 W2 on gr at_
            have p_2 := on.to (Nat.zero_add t) (List.nil_append _)
            have bel_2 := bel_1.grown gr bel_1.size (fun j hj => (p_1.block j hj).1)
            clear hHeld on gr at_
            refine hK.out _ _ ?_ (fun hHeld => ?_)
            · exact HK.out _ bel_2
            clear hK K
            (try simp only [Act.put, List.setIfInBounds_toArray, List.set_cons_zero, List.set_cons_succ])
            rw [show 0 + t = t from Nat.zero_add t]
            refine wpAnyH_ready (rs := [3]) (by kernel_rfl) (by simp) ?_
            refine AllReadyH.cons (o := ⟨some 20, _, _, _, _, _⟩) rfl (fun K hK => ?_) (AllReadyH.nil)
            go_simp
            obtain ⟨W3, hW3⟩ : ∃ W, W = W2.alloc (.cells #[.int .u8 0] 5) := ⟨_, rfl⟩
            rw [← hW3]
            have hb : Below W2.heap.size W2 W3 := by rw [hW3]; exact (Below.refl _ _).alloc (Nat.le_refl _) _
            have q_3 : Own W3 wr.heap.size 5 (some ⟨W2.heap.size, 0, none⟩) 1 1 (U8 [0]) := by rw [hW3]; exact (own_one W2 _).down bel_2.size
            have bel_3 := Below.then_ bel_2 hb
            have p_3 := p_2.below hb (Nat.le_refl _)
            have ap_3 := p_2.aptNew
            obtain ⟨B, hB⟩ : ∃ B : Option Addr, B = some ⟨W2.heap.size, 0, none⟩ := ⟨_, rfl⟩
            rw [← hB] at q_3 ap_3
            rw [← hB]
            clear hHeld hb hW3 hB
            refine hK.out _ _ ?_ (fun hHeld => ?_)
            · exact HK.out _ bel_3
            clear hK K
            (try simp only [Act.put, List.setIfInBounds_toArray, List.set_cons_zero, List.set_cons_succ])
            refine wpAnyH_ready (rs := [4]) (by kernel_rfl) (by simp) ?_
            refine AllReadyH.cons (o := ⟨some 21, _, _, _, _, _⟩) rfl (fun K hK => ?_) (AllReadyH.nil)
            refine step_app (by rfl) _ _ 22 (by rfl) wr.heap.size 5 i0 _ 1 Tryd.underlying22 hi0 hz0 hz1 hz2 rfl _ t c3 (U8 la) (by rfl) p_3 W3.heap.size B 1 1 (U8 [0]) (by rfl) q_3.rd q_3.none_ (U8_one [0]) (by omega) (by unfold maxLen; omega) bel_3.size ?_
            intro A4 c4 W4 on gr at_
            rw [← U8_append] at on
            have bel_4 := bel_3.grown gr bel_3.size (fun j hj => (p_3.block j hj).1)
            have r_4 := on.rd
            clear hHeld on gr at_
            refine hK.out _ _ ?_ (fun hHeld => ?_)
            · exact HK.out _ bel_4
            clear hK K
            (try simp only [Act.put, List.setIfInBounds_toArray, List.set_cons_zero, List.set_cons_succ])
            refine wpAnyH_ready (rs := [8]) (by kernel_rfl) (by simp) ?_
            refine AllReadyH.cons (o := ⟨some 25, _, _, _, _, _⟩) rfl (fun K hK => ?_) (AllReadyH.nil)
            go_simp
            refine (CS.out _).mono ?_
            rintro e W ⟨rfl, rfl⟩
            clear hHeld
            refine hK.out _ _ ?_ (fun hHeld => ?_)
            · exact HK.out _ bel_4
            clear hK K
            (try simp only [Act.put, List.setIfInBounds_toArray, List.set_cons_zero, List.set_cons_succ])
            refine wpAnyH_ready (rs := [9]) (by kernel_rfl) (by simp) ?_
            refine AllReadyH.cons (o := ⟨some 26, _, _, _, _, _⟩) rfl (fun K hK => ?_) (AllReadyH.nil)
            go_simp
            refine (CB.out _ _ _ r_4).mono ?_
            rintro e WB ⟨rfl, hb⟩
            have belB := Below.then_ bel_4 hb
            clear hHeld hb
            refine hK.out _ _ ?_ (fun hHeld => ?_)
            · exact HK.out _ belB
            clear hK K
            (try simp only [Act.put, List.setIfInBounds_toArray, List.set_cons_zero, List.set_cons_succ])
            refine wpAnyH_take (i := 14) (oi := ⟨some 31, _, _, _, _, _⟩) (v := ?_) rfl (by kernel_rfl) (by kernel_rfl) (by kernel_rfl) (fun _ _ _ h => h) (Or.inl ⟨by rfl, ?_⟩) hHeld ?_
            rotate_left
            · intro W hSW; have hSW0 := hSW; go_simp; first | done | with_reducible rfl
            (try simp only [Act.put, List.setIfInBounds_toArray, List.set_cons_zero, List.set_cons_succ])
            refine wpAnyH_done (by kernel_rfl) ?_ _
            refine NoPanic.normal ?_
            clear hHeld
            have own7 := hown.below belB (Nat.le_refl _)
            have bw7 := hbel.trans (belB.mono hsz)
            go_wp2_with (at_builtin; refine app8 _ rfl _ _ rfl w.heap.size _ _ _ _ 1 _ rfl rfl own7 rfl (by omega) bw7.size ?_; intro A9 c9 w9 hown9 hgrow9)
            go_roundw
            case rel =>
              refine ⟨t + 1, by omega, by go_num, A9, c9, rfl, ?_, bw7.grown hgrow9 bw7.size (fun j hj => (own7.block j hj).1)⟩
              rw [HNX.out]
              exact hown9
            case measure => simp [intOf] <;> omega
          · go_simp
            obtain ⟨W2, hW2⟩ : ∃ W, W = W1.alloc (.cells #[.int .u8 0] 5) := ⟨_, rfl⟩
            rw [← hW2]
            have hb : Below W1.heap.size W1 W2 := by rw [hW2]; exact (Below.refl _ _).alloc (Nat.le_refl _) _
            have q_2 : Own W2 wr.heap.size 5 (some ⟨W1.heap.size, 0, none⟩) 1 1 (U8 [0]) := by rw [hW2]; exact (own_one W1 _).down bel_1.size
            have bel_2 := Below.then_ bel_1 hb
            have p_2 := p_1.below hb (Nat.le_refl _)
            have ap_2 := p_1.aptNew
            obtain ⟨B, hB⟩ : ∃ B : Option Addr, B = some ⟨W1.heap.size, 0, none⟩ := ⟨_, rfl⟩
            rw [← hB] at q_2 ap_2
            rw [← hB]
            clear hHeld hb hW2 hB
            refine hK.out _ _ ?_ (fun hHeld => ?_)
            · exact HK.out _ bel_2
            clear hK K
            (try simp only [Act.put, List.setIfInBounds_toArray, List.set_cons_zero, List.set_cons_succ])
            refine wpAnyH_ready (rs := [2]) (by kernel_rfl) (by simp) ?_
            refine AllReadyH.cons (o := ⟨some 19, _, _, _, _, _⟩) rfl (fun K hK => ?_) (AllReadyH.nil)
            refine step_app (by rfl) _ _ 22 (by rfl) wr.heap.size 5 i0 _ 1 Tryd.underlying22 hi0 hz0 hz1 hz2 rfl _ 0 0 [] (by rfl) p_2 wr.heap.size A1 t c1 (U8 la) (by rfl) (rl.below bel_2) hn1 (U8_one la) (by omega) (by unfold maxLen; omega) bel_2.size ?_
            intro A3 c3 W3 on gr at_
            have p_3 := on.to (Nat.zero_add t) (List.nil_append _)
            have bel_3 := bel_2.grown gr bel_2.size (fun j hj => (p_2.block j hj).1)
            have q_3 := q_2.grown gr ap_2.symm
            have ap_3 : Apt A3 B := ap_2.next (w := W2) (at_.imp id (fun h => ⟨_, h, Nat.le_refl _⟩)) (fun j hj => (q_2.blkLt j hj).2)
            clear hHeld on gr at_
            refine hK.out _ _ ?_ (fun hHeld => ?_)
            · exact HK.out _ bel_3
            clear hK K
            (try simp only [Act.put, List.setIfInBounds_toArray, List.set_cons_zero, List.set_cons_succ])
            rw [show 0 + t = t from Nat.zero_add t]
            refine wpAnyH_ready (rs := [4]) (by kernel_rfl) (by simp) ?_
            refine AllReadyH.cons (o := ⟨some 21, _, _, _, _, _⟩) rfl (fun K hK => ?_) (AllReadyH.nil)
            refine step_app (by rfl) _ _ 22 (by rfl) wr.heap.size 5 i0 _ 1 Tryd.underlying22 hi0 hz0 hz1 hz2 rfl _ t c3 (U8 la) (by rfl) p_3 W3.heap.size B 1 1 (U8 [0]) (by rfl) q_3.rd q_3.none_ (U8_one [0]) (by omega) (by unfold maxLen; omega) bel_3.size ?_
            intro A4 c4 W4 on gr at_
            rw [← U8_append] at on
            have bel_4 := bel_3.grown gr bel_3.size (fun j hj => (p_3.block j hj).1)
            have r_4 := on.rd
            clear hHeld on gr at_
            refine hK.out _ _ ?_ (fun hHeld => ?_)
            · exact HK.out _ bel_4
            clear hK K
            (try simp only [Act.put, List.setIfInBounds_toArray, List.set_cons_zero, List.set_cons_succ])
            refine wpAnyH_ready (rs := [8]) (by kernel_rfl) (by simp) ?_
            refine AllReadyH.cons (o := ⟨some 25, _, _, _, _, _⟩) rfl (fun K hK => ?_) (AllReadyH.nil)
            go_simp
            refine (CS.out _).mono ?_
            rintro e W ⟨rfl, rfl⟩
            clear hHeld
            refine hK.out _ _ ?_ (fun hHeld => ?_)
            · exact HK.out _ bel_4
            clear hK K
            (try simp only [Act.put, List.setIfInBounds_toArray, List.set_cons_zero, List.set_cons_succ])
            refine wpAnyH_ready (rs := [9]) (by kernel_rfl) (by simp) ?_
            refine AllReadyH.cons (o := ⟨some 26, _, _, _, _, _⟩) rfl (fun K hK => ?_) (AllReadyH.nil)
            go_simp
            refine (CB.out _ _ _ r_4).mono ?_
            rintro e WB ⟨rfl, hb⟩
            have belB := Below.then_ bel_4 hb
            clear hHeld hb
            refine hK.out _ _ ?_ (fun hHeld => ?_)
            · exact HK.out _ belB
            clear hK K
            (try simp only [Act.put, List.setIfInBounds_toArray, List.set_cons_zero, List.set_cons_succ])
            refine wpAnyH_take (i := 14) (oi := ⟨some 31, _, _, _, _, _⟩) (v := ?_) rfl (by kernel_rfl) (by kernel_rfl) (by kernel_rfl) (fun _ _ _ h => h) (Or.inl ⟨by rfl, ?_⟩) hHeld ?_
            rotate_left
            · intro W hSW; have hSW0 := hSW; go_simp; first | done | with_reducible rfl
            (try simp only [Act.put, List.setIfInBounds_toArray, List.set_cons_zero, List.set_cons_succ])
            refine wpAnyH_done (by kernel_rfl) ?_ _
            refine NoPanic.normal ?_
            clear hHeld
            have own7 := hown.below belB (Nat.le_refl _)
            have bw7 := hbel.trans (belB.mono hsz)
            go_wp2_with (at_builtin; refine app8 _ rfl _ _ rfl w.heap.size _ _ _ _ 1 _ rfl rfl own7 rfl (by omega) bw7.size ?_; intro A9 c9 w9 hown9 hgrow9)
            go_roundw
            case rel =>
              refine ⟨t + 1, by omega, by go_num, A9, c9, rfl, ?_, bw7.grown hgrow9 bw7.size (fun j hj => (own7.block j hj).1)⟩
              rw [HNX.out]
              exact hown9
            case measure => simp [intOf] <;> omega
        · go_simp
          obtain ⟨W1, hW1⟩ : ∃ W, W = W0.alloc (.cells #[.int .u8 0] 5) := ⟨_, rfl⟩
          rw [← hW1]
          have hb : Below W0.heap.size W0 W1 := by rw [hW1]; exact (Below.refl _ _).alloc (Nat.le_refl _) _
          have q_1 : Own W1 wr.heap.size 5 (some ⟨W0.heap.size, 0, none⟩) 1 1 (U8 [0]) := by rw [hW1]; exact (own_one W0 _).down bel_0.size
          have bel_1 := Below.then_ bel_0 hb
          obtain ⟨B, hB⟩ : ∃ B : Option Addr, B = some ⟨W0.heap.size, 0, none⟩ := ⟨_, rfl⟩
          rw [← hB] at q_1
          rw [← hB]
          clear hHeld hb hW1 hB
          refine hK.out _ _ ?_ (fun hHeld => ?_)
          · exact HK.out _ bel_1
          clear hK K
          (try simp only [Act.put, List.setIfInBounds_toArray, List.set_cons_zero, List.set_cons_succ])
          refine wpAnyH_ready (rs := [0]) (by kernel_rfl) (by simp) ?_
          refine AllReadyH.cons (o := ⟨some 17, _, _, _, _, _⟩) rfl (fun K hK => ?_) (AllReadyH.nil)
          refine step_none (by rfl) 22 5 (by rfl) i0 Tryd.underlying22 hi0 ?_
          intro W2 on hb sz
          have p_2 := on.down bel_1.size
          have bel_2 := Below.then_ bel_1 hb
          have q_2 := q_1.below hb (Nat.le_refl _)
          have ap_2 : Apt (some ⟨W1.heap.size, 0, none⟩) B := q_1.aptNew.symm
          clear hHeld on hb sz
          refine hK.out _ _ ?_ (fun hHeld => ?_)
          · exact HK.out _ bel_2
          clear hK K
          (try simp only [Act.put, List.setIfInBounds_toArray, List.set_cons_zero, List.set_cons_succ])
          refine wpAnyH_ready (rs := [2]) (by kernel_rfl) (by simp) ?_
          refine AllReadyH.cons (o := ⟨some 19, _, _, _, _, _⟩) rfl (fun K hK => ?_) (AllReadyH.nil)
          refine step_app (by rfl) _ _ 22 (by rfl) wr.heap.size 5 i0 _ 1 Tryd.underlying22 hi0 hz0 hz1 hz2 rfl _ 0 0 [] (by rfl) p_2 wr.heap.size A1 t c1 (U8 la) (by rfl) (rl.below bel_2) hn1 (U8_one la) (by omega) (by unfold maxLen; omega) bel_2.size ?_
          intro A3 c3 W3 on gr at_
          have p_3 := on.to (Nat.zero_add t) (List.nil_append _)
          have bel_3 := bel_2.grown gr bel_2.size (fun j hj => (p_2.block j hj).1)
          have q_3 := q_2.grown gr ap_2.symm
          have ap_3 : Apt A3 B := ap_2.next (w := W2) (at_.imp id (fun h => ⟨_, h, Nat.le_refl _⟩)) (fun j hj => (q_2.blkLt j hj).2)
          clear hHeld on gr at_
          refine hK.out _ _ ?_ (fun hHeld => ?_)
          · exact HK.out _ bel_3
          clear hK K
          (try simp only [Act.put, List.setIfInBounds_toArray, List.set_cons_zero, List.set_cons_succ])
          rw [show 0 + t = t from Nat.zero_add t]
          refine wpAnyH_ready (rs := [4]) (by kernel_rfl) (by simp) ?_
          refine AllReadyH.cons (o := ⟨some 21, _, _, _, _, _⟩) rfl (fun K hK => ?_) (AllReadyH.nil)
          refine step_app (by rfl) _ _ 22 (by rfl) wr.heap.size 5 i0 _ 1 Tryd.underlying22 hi0 hz0 hz1 hz2 rfl _ t c3 (U8 la) (by rfl) p_3 W3.heap.size B 1 1 (U8 [0]) (by rfl) q_3.rd q_3.none_ (U8_one [0]) (by omega) (by unfold maxLen; omega) bel_3.size ?_
          intro A4 c4 W4 on gr at_
          rw [← U8_append] at on
          have bel_4 := bel_3.grown gr bel_3.size (fun j hj => (p_3.block j hj).1)
          have r_4 := on.rd
          clear hHeld on gr at_
          refine hK.out _ _ ?_ (fun hHeld => ?_)
          · exact HK.out _ bel_4
          clear hK K
          (try simp only [Act.put, List.setIfInBounds_toArray, List.set_cons_zero, List.set_cons_succ])
          refine wpAnyH_ready (rs := [8]) (by kernel_rfl) (by simp) ?_
          refine AllReadyH.cons (o := ⟨some 25, _, _, _, _, _⟩) rfl (fun K hK => ?_) (AllReadyH.nil)
          go_simp
          refine (CS.out _).mono ?_
          rintro e W ⟨rfl, rfl⟩
          clear hHeld
          refine hK.out _ _ ?_ (fun hHeld => ?_)
          · exact HK.out _ bel_4
          clear hK K
          (try simp only [Act.put, List.setIfInBounds_toArray, List.set_cons_zero, List.set_cons_succ])
          refine wpAnyH_ready (rs := [9]) (by kernel_rfl) (by simp) ?_
          refine AllReadyH.cons (o := ⟨some 26, _, _, _, _, _⟩) rfl (fun K hK => ?_) (AllReadyH.nil)
          go_simp
          refine (CB.out _ _ _ r_4).mono ?_
          rintro e WB ⟨rfl, hb⟩
          have belB := Below.then_ bel_4 hb
          clear hHeld hb
          refine hK.out _ _ ?_ (fun hHeld => ?_)
          · exact HK.out _ belB
          clear hK K
          (try simp only [Act.put, List.setIfInBounds_toArray, List.set_cons_zero, List.set_cons_succ])
          refine wpAnyH_take (i := 14) (oi := ⟨some 31, _, _, _, _, _⟩) (v := ?_) rfl (by kernel_rfl) (by kernel_rfl) (by kernel_rfl) (fun _ _ _ h => h) (Or.inl ⟨by rfl, ?_⟩) hHeld ?_
          rotate_left
          · intro W hSW; have hSW0 := hSW; go_simp; first | done | with_reducible rfl
          (try simp only [Act.put, List.setIfInBounds_toArray, List.set_cons_zero, List.set_cons_succ])
          refine wpAnyH_done (by kernel_rfl) ?_ _
          refine NoPanic.normal ?_
          clear hHeld
          have own7 := hown.below belB (Nat.le_refl _)
          have bw7 := hbel.trans (belB.mono hsz)
          go_wp2_with (at_builtin; refine app8 _ rfl _ _ rfl w.heap.size _ _ _ _ 1 _ rfl rfl own7 rfl (by omega) bw7.size ?_; intro A9 c9 w9 hown9 hgrow9)
          go_roundw
          case rel =>
            refine ⟨t + 1, by omega, by go_num, A9, c9, rfl, ?_, bw7.grown hgrow9 bw7.size (fun j hj => (own7.block j hj).1)⟩
            rw [HNX.out]
            exact hown9
          case measure => simp [intOf] <;> omega
    · obtain rfl : n = t := by omega
      have hl := HLEN.out n
      have rl := hown.rd
      have hbd := hown.bounds
      unfold maxLen at hbd
      have hn1 := hown.none_
      have HL := Lib.hid hl
      have hne : ∃ g o, A1 = some ⟨g, o, none⟩ := by
        obtain ⟨g, o, h, _⟩ := rl.at_ (by omega)
        exact ⟨g, o, h⟩
      obtain ⟨g, o, rfl⟩ := hne
      generalize Cv.al p v n = l at *
      clear HBI HALN HLEN hl
      go_wp2
      go_loop [10] (fun i => ∃ j : Nat, m ≤ j ∧ j ≤ n ∧ i = .int .i64 j ∧ Hid (∀ q, m ≤ q → q < j → l.getD q 0 = 0)) (fun i => n - (intOf i).toNat)
      case atStart => exact ⟨m, Nat.le_refl _, hmn, rfl, fun q h1 h2 => by omega⟩
      case round =>
        obtain ⟨j, hj1, hj2, rfl, HZ⟩ := hrel
        by_cases hlt2 : j < n
        · obtain ⟨g', o', e, _, hcj⟩ := rl.cell8 j hlt2
          injection e with e
          injection e with e1 e2
          subst e1 e2
          obtain ⟨x, hx⟩ : ∃ x, l.getD j 0 = x := ⟨_, rfl⟩
          rw [hx] at hcj
          have HX := Lib.hid hx
          clear hx
          by_cases h0 : x = 0
          · have t0 : ((x : Int) != 0) = false := by simp; omega
            have H0 := Lib.hid h0
            clear h0
            go_wp2
            go_round
            case rel =>
              refine ⟨j + 1, by omega, by omega, by go_num, fun q h1 h2 => ?_⟩
              by_cases hq : q = j
              · rw [hq, HX.out, H0.out]
              · exact HZ.out q h1 (by omega)
            case measure => simp [intOf] <;> omega
          · have t0 : ((x : Int) != 0) = true := by simp; omega
            go_wp2
            go_ret2
            exact ⟨.inr ⟨⟨j, hj1, by rw [HL.out]; exact hlt2, by rw [HX.out]; exact h0⟩, rfl⟩, hbel⟩
        · go_wp2
          go_ret2
          exact ⟨.inl ⟨fun q h1 h2 => HZ.out q h1 (by rw [HL.out] at h2; omega), _, _, rfl, rl.cut8 m hmn, (fun h => by cases h)⟩, hbel⟩
end Go.Proofs.YtcmoedhpedlalaaDoor
