/-
  The walk of AckmapGrows.
-/
import Derived.Test.YtboloaglakehkaaZe
import Derived.Test.YtboloaglakehkaaMg
import Derived.Test.YtboloaglakehkaaArg
namespace Go.Proofs.Ytboloaglakehkaa
open Go.RowKit
set_option linter.unusedVariables false
set_option linter.unusedSimpArgs false

theorem Below.rangeB {w w' : World} {g : Nat} {t : TypeId} {cs : Array Value} (h : Blk w g t cs) (hb : Below w.heap.size w w') : w'.rangeAt g 0 cs.toList :=
  (h.after hb).range 0 _ (fun i u hu => by rw [Nat.zero_add]; rw [Array.getElem?_toList] at hu; exact hu)
/-- So many on, from 1 to 32. -/
def dd (z : Int) : Nat := 1 + ((z % 18446744073709551616) % 32).toNat
theorem dd_in (z : Int) : 1 ≤ dd z ∧ dd z ≤ 32 := by unfold dd; omega
def nx16 (base : Int) (d : Nat) : Nat := ((base + (d : Int)) % 65536).toNat
theorem nx16_eq (base : Int) (d : Nat) : ((nx16 base d : Nat) : Int) = (base + (d : Int)) % 65536 := by unfold nx16; omega
def cl (base : Int) (zs : List Int) : List Nat := zs.map fun z => nx16 base (dd z)
/-- Numbers that a map tells of. -/
structure InR (base : Int) (a : Nat) : Prop where
  lt : a < 65536
  bf : bf a base = false
  lo : 1 ≤ dsn base a
  hi : dsn base a ≤ 32
theorem dsn_nx (base : Int) (d : Nat) (hd : d < 65536) : dsn base (nx16 base d) = d := by
  unfold dsn
  rw [nx16_eq]
  omega
theorem inR_nx (base : Int) (d : Nat) (h : 1 ≤ d ∧ d ≤ 32) : InR base (nx16 base d) := by
  have e := nx16_eq base d
  refine ⟨by unfold nx16; omega, bf_false (.inr (by omega)), ?_, ?_⟩
  · rw [dsn_nx base d (by omega)]; omega
  · rw [dsn_nx base d (by omega)]; omega
theorem cl_in (base : Int) (zs : List Int) : ∀ a ∈ cl base zs, InR base a := by
  intro a ha
  obtain ⟨z, _, rfl⟩ := List.mem_map.1 ha
  exact inR_nx base (dd z) (dd_in z)
theorem far_in {base : Int} {l : List Nat} (h : ∀ a ∈ l, InR base a) : farA base l = false := by
  unfold farA
  rw [List.any_eq_false]
  intro a ha
  have := (h a ha).hi
  simp; omega
theorem own_in {base : Int} {l : List Nat} (h : ∀ a ∈ l, InR base a) : ownA base l = false := by
  unfold ownA
  rw [List.any_eq_false]
  intro a ha
  have := (h a ha).lo
  simp; omega
theorem of_in {base : Int} {l : List Nat} (h : ∀ a ∈ l, InR base a) : ofV base l = mv base (orl base l) ∧ ofE base l = 0 := by
  unfold ofV ofE
  rw [far_in h, own_in h]
  exact ⟨rfl, rfl⟩
theorem orl_snoc (base : Int) (l : List Nat) (a : Nat) : orl base (l ++ [a]) = orS base (orl base l) a := by unfold orl; rw [List.foldl_append]; rfl
theorem orS_in {base : Int} {a : Nat} (h : InR base a) (m : Nat) : orS base m a = m ||| 2 ^ (dsn base a - 1) := by
  unfold orS
  have := h.lo
  rw [if_neg (by rw [h.bf]; simp; omega)]
theorem orl_lt {base : Int} {l : List Nat} (h : ∀ a ∈ l, dsn base a ≤ 32) : orl base l < 4294967296 := by
  have key : ∀ (l : List Nat) (m : Nat), (∀ a ∈ l, dsn base a ≤ 32) → m < 4294967296 → l.foldl (orS base) m < 4294967296 := by
    intro l
    induction l with
    | nil => intro m _ hm; exact hm
    | cons a l ih => intro m h hm; exact ih _ (fun b hb => h b (List.mem_cons_of_mem _ hb)) (orS_lt hm (h a List.mem_cons_self))
  exact key l 0 h (by omega)
/-- With one more that has come. -/
theorem hm_or {base : Int} {x : Nat} (hx : InR base x) (m a : Nat) (ha : a < 65536) (hb : 0 ≤ base ∧ base < 65536) : hm base (m ||| 2 ^ (dsn base x - 1)) a = (hm base m a || decide (a = x)) := by
  cases hc : bf a base with
  | true => rw [hm_bf hc, hm_bf hc]; rfl
  | false =>
    have e := dsn_eq base a
    have ex := dsn_eq base x
    have h1 := hx.lo
    have h2 := hx.hi
    have h3 := hx.lt
    by_cases hr : 1 ≤ dsn base a ∧ dsn base a ≤ 32
    · rw [hm_in hc e hr.1 hr.2, hm_in hc e hr.1 hr.2, Nat.testBit_or, Nat.testBit_two_pow]
      congr 1
      rw [decide_eq_decide]
      omega
    · rw [hm_out hc e (by omega), hm_out hc e (by omega), decide_eq_false (by intro h; subst h; omega)]
      rfl
theorem take_cl (base : Int) (zs : List Int) (k : Nat) (h : k < zs.length) : cl base (zs.take (k + 1)) = cl base (zs.take k) ++ [nx16 base (dd (zs.getD k 0))] := by
  unfold cl
  rw [List.take_succ_eq_append_getElem h, List.map_append]
  simp [List.getD, h]
set_option maxHeartbeats 2000000 in
set_option maxRecDepth 100000 in
theorem ackmapGrows (base : Int) (A : Option Addr) (n c : Nat) (zs : List Int) (one : Int) (w : World) (hb : 0 ≤ base ∧ base < 65536) (hr : Rd w w.heap.size A n (I64 zs)) (hn : n ≤ 9223372036854775807) :
    Calls Try.prog 8 #[.int .u16 base, .slice A n c, .int .i64 one] w fun e w' => e = .returned (.bool true) ∧ Below w.heap.size w w' := by
  have CM := Lib.hid mapsC
  have HN := Lib.hid hr.len64
  go_enter Try.func8, Try.ntmps8
  go_upto_region 3 with fail
  go_loopw [7, 8] (fun v i wr => ∃ (k : Nat) (A1 : Option Addr) (c1 : Nat), k ≤ n ∧ k ≤ 20 ∧ i = .int .i64 (k : Int) ∧ v = .slice A1 k c1 ∧ Own wr w.heap.size 23 A1 k c1 (N16 (cl base (zs.take k))) ∧ Below w.heap.size w wr) (fun _ i _ => 20 - (intOf i).toNat)
  case atStart => exact ⟨0, none, 0, Nat.zero_le _, by omega, rfl, rfl, Own.nil _ _ _, Below.refl _ _⟩
  case round =>
    obtain ⟨k, A1, c1, hk, hk20, rfl, rfl, own, bel⟩ := hrel
    by_cases hlt : k < n ∧ k < 20
    · obtain ⟨hl1, hl2⟩ := hlt
      obtain ⟨b, off, rfl, hlt2, hcell⟩ := (hr.below bel).cell64 k hl1
      have HT := Lib.hid (take_cl base zs k (by rw [← HN.out]; exact hl1))
      obtain ⟨z, hz⟩ : ∃ z, z = zs.getD k 0 := ⟨_, rfl⟩
      rw [← hz] at HT hcell
      clear hz
      obtain ⟨u, hu, hu2⟩ : ∃ u : Nat, u < 18446744073709551616 ∧ IntKind.u64.wrap z = (u : Int) ∧ dd z = 1 + u % 32 := by
        refine ⟨(z % 18446744073709551616).toNat, by omega, ?_, ?_⟩
        · rw [IntKind.wrap_u64]; omega
        · unfold dd; omega
      obtain ⟨hu2, hu3⟩ := hu2
      obtain ⟨r, hr2⟩ : ∃ r : Nat, r = u % 32 := ⟨_, rfl⟩
      have hr32 : r < 32 := by omega
      have e1 : (u : Int) % 32 = (r : Int) := by omega
      rw [← hr2] at hu3
      have HD := Lib.hid hu3
      have C1 := Lib.hid (plusC base (1 + (r : Int)))
      have e2 : (base + (1 + (r : Int))) % 65536 = ((nx16 base (dd z) : Nat) : Int) := by rw [nx16_eq, hu3]; omega
      rw [e2] at C1
      clear e2 hr2 hu3
      generalize nx16 base (dd z) = a at *
      have hsz := bel.size
      go_wp2_with (first | (go_at_call 9; refine (C1.out _).mono ?_; rintro e w' ⟨rfl, rfl⟩) | (at_builtin; refine app16 _ rfl _ _ rfl w.heap.size _ _ _ _ a _ rfl rfl own rfl (by omega) hsz ?_; intro A6 c6 w6 own6 hgr6))
      go_roundw
      case rel =>
        refine ⟨k + 1, A6, c6, by omega, by omega, by go_num, rfl, (by rw [HT.out]; exact own6), bel.trans ⟨hgr6.os, hgr6.tape, hgr6.output, Nat.le_trans hsz hgr6.size |> fun _ => hgr6.size, fun j hj => hgr6.block j (by omega) (fun e => ?_)⟩⟩
        have := (own.block j e.symm).1
        omega
      case measure => simp [intOf] <;> omega
    · have HIN := Lib.hid (cl_in base (zs.take k))
      generalize cl base (zs.take k) = l at *
      have rd := own.rd
      have HL := Lib.hid rd.len16
      have hd := dd_in one
      obtain ⟨u, hu, hu2, hu3⟩ : ∃ u : Nat, u < 18446744073709551616 ∧ IntKind.u64.wrap one = (u : Int) ∧ dd one = 1 + u % 32 := by
        refine ⟨(one % 18446744073709551616).toNat, by omega, ?_, ?_⟩
        · rw [IntKind.wrap_u64]; omega
        · unfold dd; omega
      obtain ⟨r, hr2⟩ : ∃ r : Nat, r = u % 32 := ⟨_, rfl⟩
      have hr32 : r < 32 := by omega
      have e1 : (u : Int) % 32 = (r : Int) := by omega
      rw [← hr2] at hu3
      have C1 := Lib.hid (plusC base (1 + (r : Int)))
      have e2 : (base + (1 + (r : Int))) % 65536 = ((nx16 base (dd one) : Nat) : Int) := by rw [nx16_eq, hu3]; omega
      rw [e2] at C1
      have HX := Lib.hid (inR_nx base (dd one) hd)
      clear e2 hr2 hu3 hd
      generalize nx16 base (dd one) = x at *
      have hx16 : x < 65536 := HX.out.lt
      obtain ⟨m1, hm1⟩ : ∃ m, m = orl base l := ⟨_, rfl⟩
      obtain ⟨m2, hm2⟩ : ∃ m, m = orl base (l ++ [x]) := ⟨_, rfl⟩
      have HIN2 : Hid (∀ a ∈ l ++ [x], InR base a) := fun a ha => (List.mem_append.1 ha).elim (HIN.out a) (fun h => by rw [List.mem_singleton.1 h]; exact HX.out)
      have HO : Hid (∀ a : Nat, a < 65536 → hm base m2 a = (hm base m1 a || decide (a = x))) := fun a ha => by
        rw [hm2, orl_snoc, orS_in HX.out, ← hm1]
        exact hm_or HX.out m1 a ha hb
      have h41 : m1 < 4294967296 := by rw [hm1]; exact orl_lt fun a ha => (HIN.out a ha).hi
      have h42 : m2 < 4294967296 := by rw [hm2]; exact orl_lt fun a ha => (HIN2.out a ha).hi
      have CF1 := Lib.hid (ofC A1 k c1 l base wr rd (fun a ha => (HIN.out a ha).lt) (by omega) hb)
      rw [(of_in HIN.out).1, (of_in HIN.out).2, ← hm1] at CF1
      have CF2 := Lib.hid (fun (A2 : Option Addr) (n2 c2 : Nat) (W : World) (h : Rd W W.heap.size A2 n2 (N16 (l ++ [x]))) => ofC A2 n2 c2 (l ++ [x]) base W h (fun a ha => (HIN2.out a ha).lt) (by rw [h.len16, List.length_append, ← HL.out]; simp; omega) hb)
      rw [(of_in HIN2.out).1, (of_in HIN2.out).2, ← hm2] at CF2
      have CX := Lib.hid (fun W => hasC base x m2 W h42)
      rw [HO.out x hx16, decide_eq_true (show x = x from rfl), Bool.or_true] at CX
      clear hm1 hm2
      have hnlt : ¬ (k < n ∧ k < 20) := hlt
      by_cases hkn : k < n
      · have h20 : ¬ k < 20 := fun h => hlt ⟨hkn, h⟩
        clear hlt hnlt
        have hkk : k ≤ 20 := hk20
        obtain ⟨i0, hi0, hz0, hz1, hz2⟩ := info_parts infoNum
        have hnone := own.none_
        go_upto_region 8 with (first | (go_at_call 9; refine (C1.out _).mono ?_; rintro e w' ⟨rfl, rfl⟩) | (go_at_call 16; refine CF1.out.mono ?_; rintro e w2 ⟨rfl, be2⟩) | (refine at_alloc rfl 39 rfl (mv 0 0) zeroMap ?_; intro w3 L3) | (refine at_store rfl 39 _ _ rfl w2.heap.size (mv base m1) rfl rfl 39 _ L3.row (infoMap _ _) rfl (mv_all _ _) ?_; intro w4 L4))
        have q10 : Blk w4 w2.heap.size 39 (mv base m1) := L4.row
        have be4 : Below wr.heap.size wr w4 := (Below.then_ be2 L3.bel).trans (L4.below be2.size)
        have own4 := own.below be4 (Nat.le_refl _)
        have bel4 := bel.trans (be4.mono bel.size)
        obtain ⟨g10, hg10⟩ : ∃ g, g = w2.heap.size := ⟨_, rfl⟩
        rw [← hg10] at q10 ⊢
        clear L3 L4 hg10 CF1 C1
        have rd4 := own4.rd
        have o5 : Own (w4.alloc (.cells #[] 23)) w4.heap.size 23 (some ⟨w4.heap.size, 0, none⟩) 0 0 [] := ⟨World.ownsRow_made w4 #[] 0 (Nat.le_refl _) (by unfold maxLen; omega) (by simp)⟩
        have be5 : Below w4.heap.size w4 (w4.alloc (.cells #[] 23)) := (Below.refl _ _).alloc (Nat.le_refl _) _
        have rd5 := rd4.below be5
        have hs5 := be5.size
        go_upto_region 9 with (first | (at_builtin; refine app16 _ rfl _ _ rfl w4.heap.size _ _ _ _ x _ rfl rfl own6 rfl (by omega) hs6 ?_; intro A7 c7 w7 own7 hgr7; have rd7 := own7.rd) | (at_builtin; refine wpList_app _ rfl _ _ 35 rfl w4.heap.size 23 i0 _ 2 Try.underlying35 hi0 hz0 hz1 hz2 rfl _ 0 0 [] rfl o5 w4.heap.size A1 k c1 (N16 l) rfl rd5 hnone (N16_one l) (by omega) (by unfold maxLen; omega) hs5 ?_; intro A6 c6 w6 own6' hgr6; have own6 := own6'.to (Nat.zero_add k) (List.nil_append (N16 l)); have hs6 := Nat.le_trans hs5 hgr6.size; rw [Nat.zero_add]) | (go_at_call 16; refine (CF2.out _ _ _ _ rd7).mono ?_; rintro e w8 ⟨rfl, be8⟩) | (refine at_alloc rfl 39 rfl (mv 0 0) zeroMap ?_; intro w9 L9) | (refine at_store rfl 39 _ _ rfl w8.heap.size (mv base m2) rfl rfl 39 _ L9.row (infoMap _ _) rfl (mv_all _ _) ?_; intro w10 L10))
        have be6 : Below w4.heap.size w4 w6 := be5.grown hgr6 hs5 (fun j hj => by simp [Value.ownBlock] at hj; omega)
        have be7 : Below w4.heap.size w4 w7 := be6.grown hgr7 be6.size (fun j hj => (own6.block j hj).1)
        have be10 : Below w4.heap.size w4 w10 := (Below.then_ (Below.then_ be7 be8) L9.bel).trans (L10.below (Nat.le_trans be7.size be8.size))
        have q12 : Blk w10 w8.heap.size 39 (mv base m2) := L10.row
        have q10a := q10.after be10
        have bel10 := bel4.trans (be10.mono bel4.size)
        obtain ⟨g12, hg12⟩ : ∃ g, g = w8.heap.size := ⟨_, rfl⟩
        rw [← hg12] at q12 ⊢
        clear L9 L10 hg12 CF2 be10 be7 be6 hgr6 hgr7 own6 own6' own7 rd7 be8 q10 rd5 rd4 o5 be5 hs5 hs6 hi0 hz0 hz1 hz2 bel4
        go_upto_region 12 with (first | (go_at_call 17; refine (CM.out _).mono ?_; rintro e w11 ⟨rfl, be11⟩; have q12m := q12.after be11) | (refine at_load_g rfl 39 _ rfl g12 rfl 39 (mv base m2) _ q12m Try.underlying39 rfl (infoMap _ _) ?_) | (go_at_call 18; refine (CX.out _).mono ?_; rintro e w12 ⟨rfl, be12⟩))
        have be13 := Below.then_ be11 be12
        have q12b := q12.after be13
        have q10b := q10a.after be13
        have bel13 := Below.then_ bel10 be13
        clear q12m be11 be12 be13 q12 q10a bel10 CM CX
        obtain ⟨wo, rfl⟩ : ∃ wo : World, wo = wr := ⟨_, rfl⟩
        go_loopw [14] (fun i wr => ∃ k : Nat, k ≤ 34 ∧ i = .int .i64 (k : Int) ∧ Blk wr g10 39 (mv base m1) ∧ Blk wr g12 39 (mv base m2) ∧ Below w.heap.size w wr) (fun i _ => 34 - (intOf i).toNat)
        case atStart => exact ⟨0, by omega, rfl, q10b, q12b, bel13⟩
        case round =>
          clear q10b q12b bel13
          obtain ⟨j, hj, rfl, q10r, q12r, belr⟩ := hrel
          by_cases hlt : j < 34
          · obtain ⟨a, ha⟩ : ∃ a : Nat, (a : Int) = (base + (j : Int)) % 65536 := ⟨((base + (j : Int)) % 65536).toNat, by omega⟩
            have ha16 : a < 65536 := by omega
            have C1 := Lib.hid (plusC base j)
            rw [← ha] at C1
            have CN := Lib.hid (fun W => hasC base a m2 W h42)
            have CO := Lib.hid (fun W => hasC base a m1 W h41)
            rw [HO.out a ha16] at CN
            clear ha
            generalize hm base m1 a = β at CN CO
            have e3 : ((a : Int) == (x : Int)) = decide (a = x) := by
              by_cases h : a = x
              · rw [decide_eq_true h, h]; simp
              · rw [decide_eq_false h]; simp; omega
            generalize decide (a = x) = γ at CN e3
            have hKeep : ∀ W, Below wr.heap.size wr W → W.rangeAt g10 0 (mv base m1).toList ∧ W.rangeAt g12 0 (mv base m2).toList := fun W hW => ⟨Below.rangeB q10r hW, Below.rangeB q12r hW⟩
            cases β with
            | true =>
              rw [Bool.true_or] at CN
              go_upto_region 15 with (go_at_call 9; refine (C1.out _).mono ?_; rintro e w' ⟨rfl, rfl⟩)
              refine wp_region_noPanic ?_
              refine wp_region_held_drew (S := fun W => W.rangeAt g10 0 (mv base m1).toList ∧ W.rangeAt g12 0 (mv base m2).toList) (by kernel_rfl) (hKeep _ ((Below.refl _ _).drew)) (fun hHeld => ?_)
              refine wpAnyH_take (i := 0) (oi := ⟨some 86, _, _, _, _, _⟩) (v := _) rfl (by kernel_rfl) (by kernel_rfl) (by kernel_rfl) (fun _ _ _ h => h) (yields_mid (by rfl) 39 _ (by rfl) g12 0 (by rfl) (mv base m2) _ (fun W h => h.2) Try.underlying39 rfl (infoMap _ _)) hHeld ?_
              (try simp only [Act.put, List.setIfInBounds_toArray, List.set_cons_zero, List.set_cons_succ])
              refine wpAnyH_take (i := 1) (oi := ⟨some 87, _, _, _, _, _⟩) (v := ?_) rfl (by kernel_rfl) (by kernel_rfl) (by kernel_rfl) (fun _ _ _ h => h) (Or.inl ⟨by rfl, ?_⟩) hHeld ?_
              rotate_left
              · intro W hSW; obtain ⟨hSW0, hSW1⟩ := hSW; go_simp; first | done | with_reducible rfl
              (try simp only [Act.put, List.setIfInBounds_toArray, List.set_cons_zero, List.set_cons_succ])
              refine wpAnyH_take (i := 3) (oi := ⟨some 89, _, _, _, _, _⟩) (v := _) rfl (by kernel_rfl) (by kernel_rfl) (by kernel_rfl) (fun _ _ _ h => h) (yields_mid (by rfl) 39 _ (by rfl) g10 0 (by rfl) (mv base m1) _ (fun W h => h.1) Try.underlying39 rfl (infoMap _ _)) hHeld ?_
              (try simp only [Act.put, List.setIfInBounds_toArray, List.set_cons_zero, List.set_cons_succ])
              refine wpAnyH_take (i := 4) (oi := ⟨some 90, _, _, _, _, _⟩) (v := ?_) rfl (by kernel_rfl) (by kernel_rfl) (by kernel_rfl) (fun _ _ _ h => h) (Or.inl ⟨by rfl, ?_⟩) hHeld ?_
              rotate_left
              · intro W hSW; obtain ⟨hSW0, hSW1⟩ := hSW; go_simp; first | done | with_reducible rfl
              (try simp only [Act.put, List.setIfInBounds_toArray, List.set_cons_zero, List.set_cons_succ])
              refine wpAnyH_ready (rs := [2]) (by kernel_rfl) (by simp) ?_
              refine AllReadyH.cons (o := ⟨some 88, _, _, _, _, _⟩) rfl (fun K hK => ?_) (AllReadyH.nil)
              go_simp
              refine (CN.out _).mono ?_
              rintro e W1 ⟨rfl, be1⟩
              clear hHeld
              have SR1 := hKeep W1 ((Below.refl _ _).drew.trans be1)
              refine hK.out _ _ ?_ (fun hHeld => ?_)
              · exact SR1
              clear hK K
              (try simp only [Act.put, List.setIfInBounds_toArray, List.set_cons_zero, List.set_cons_succ])
              refine wpAnyH_ready (rs := [5]) (by kernel_rfl) (by simp) ?_
              refine AllReadyH.cons (o := ⟨some 91, _, _, _, _, _⟩) rfl (fun K hK => ?_) (AllReadyH.nil)
              go_simp
              refine (CO.out _).mono ?_
              rintro e W2 ⟨rfl, be2⟩
              clear hHeld
              have SR2 := hKeep W2 (Below.then_ ((Below.refl _ _).drew.trans be1) be2)
              refine hK.out _ _ ?_ (fun hHeld => ?_)
              · exact SR2
              clear hK K
              (try simp only [Act.put, List.setIfInBounds_toArray, List.set_cons_zero, List.set_cons_succ])
              refine wpAnyH_take (i := 6) (oi := ⟨some 92, _, _, _, _, _⟩) (v := ?_) rfl (by kernel_rfl) (by kernel_rfl) (by kernel_rfl) (fun _ _ _ h => h) (Or.inl ⟨by rfl, ?_⟩) hHeld ?_
              rotate_left
              · intro W hSW; obtain ⟨hSW0, hSW1⟩ := hSW; go_simp; first | done | with_reducible rfl
              (try simp only [Act.put, List.setIfInBounds_toArray, List.set_cons_zero, List.set_cons_succ])
              refine wpAnyH_take (i := 7) (oi := ⟨some 93, _, _, _, _, _⟩) (v := undef) rfl (by kernel_rfl) (by kernel_rfl) (by kernel_rfl) (fun _ _ _ h => h) (Or.inr ⟨by rfl, rfl⟩) hHeld ?_
              (try simp only [Act.put, List.setIfInBounds_toArray, List.set_cons_zero, List.set_cons_succ])
              refine wpAnyH_take (i := 8) (oi := ⟨some 94, _, _, _, _, _⟩) (v := undef) rfl (by kernel_rfl) (by kernel_rfl) (by kernel_rfl) (fun _ _ _ h => h) (Or.inr ⟨by rfl, rfl⟩) hHeld ?_
              (try simp only [Act.put, List.setIfInBounds_toArray, List.set_cons_zero, List.set_cons_succ])
              refine wpAnyH_take (i := 9) (oi := ⟨some 95, _, _, _, _, _⟩) (v := undef) rfl (by kernel_rfl) (by kernel_rfl) (by kernel_rfl) (fun _ _ _ h => h) (Or.inr ⟨by rfl, rfl⟩) hHeld ?_
              (try simp only [Act.put, List.setIfInBounds_toArray, List.set_cons_zero, List.set_cons_succ])
              refine wpAnyH_take (i := 10) (oi := ⟨some 96, _, _, _, _, _⟩) (v := ?_) rfl (by kernel_rfl) (by kernel_rfl) (by kernel_rfl) (fun _ _ _ h => h) (Or.inl ⟨by rfl, ?_⟩) hHeld ?_
              rotate_left
              · intro W hSW; obtain ⟨hSW0, hSW1⟩ := hSW; go_simp; first | done | with_reducible rfl
              (try simp only [Act.put, List.setIfInBounds_toArray, List.set_cons_zero, List.set_cons_succ])
              refine wpAnyH_take (i := 11) (oi := ⟨some 97, _, _, _, _, _⟩) (v := ?_) rfl (by kernel_rfl) (by kernel_rfl) (by kernel_rfl) (fun _ _ _ h => h) (Or.inl ⟨by rfl, ?_⟩) hHeld ?_
              rotate_left
              · intro W hSW; obtain ⟨hSW0, hSW1⟩ := hSW; go_simp; first | done | with_reducible rfl
              (try simp only [Act.put, List.setIfInBounds_toArray, List.set_cons_zero, List.set_cons_succ])
              refine wpAnyH_done (by kernel_rfl) ?_ _
              refine NoPanic.normal ?_
              clear hHeld
              have bel6 : Below wr.heap.size wr W2 := Below.then_ ((Below.refl _ _).drew.trans be1) be2
              have q10n := q10r.after bel6
              have q12n := q12r.after bel6
              have beln := Below.then_ belr bel6
              clear hKeep SR1 SR2 be1 be2 q10r q12r
              go_wp2
              go_roundw
              case rel => exact ⟨j + 1, by omega, by go_num, q10n, q12n, beln⟩
              case measure => simp [intOf] <;> omega
            | false =>
              rw [Bool.false_or] at CN
              have e4 : (γ != γ) = false := by cases γ <;> rfl
              go_upto_region 15 with (go_at_call 9; refine (C1.out _).mono ?_; rintro e w' ⟨rfl, rfl⟩)
              refine wp_region_noPanic ?_
              refine wp_region_held_drew (S := fun W => W.rangeAt g10 0 (mv base m1).toList ∧ W.rangeAt g12 0 (mv base m2).toList) (by kernel_rfl) (hKeep _ ((Below.refl _ _).drew)) (fun hHeld => ?_)
              refine wpAnyH_take (i := 0) (oi := ⟨some 86, _, _, _, _, _⟩) (v := _) rfl (by kernel_rfl) (by kernel_rfl) (by kernel_rfl) (fun _ _ _ h => h) (yields_mid (by rfl) 39 _ (by rfl) g12 0 (by rfl) (mv base m2) _ (fun W h => h.2) Try.underlying39 rfl (infoMap _ _)) hHeld ?_
              (try simp only [Act.put, List.setIfInBounds_toArray, List.set_cons_zero, List.set_cons_succ])
              refine wpAnyH_take (i := 1) (oi := ⟨some 87, _, _, _, _, _⟩) (v := ?_) rfl (by kernel_rfl) (by kernel_rfl) (by kernel_rfl) (fun _ _ _ h => h) (Or.inl ⟨by rfl, ?_⟩) hHeld ?_
              rotate_left
              · intro W hSW; obtain ⟨hSW0, hSW1⟩ := hSW; go_simp; first | done | with_reducible rfl
              (try simp only [Act.put, List.setIfInBounds_toArray, List.set_cons_zero, List.set_cons_succ])
              refine wpAnyH_take (i := 3) (oi := ⟨some 89, _, _, _, _, _⟩) (v := _) rfl (by kernel_rfl) (by kernel_rfl) (by kernel_rfl) (fun _ _ _ h => h) (yields_mid (by rfl) 39 _ (by rfl) g10 0 (by rfl) (mv base m1) _ (fun W h => h.1) Try.underlying39 rfl (infoMap _ _)) hHeld ?_
              (try simp only [Act.put, List.setIfInBounds_toArray, List.set_cons_zero, List.set_cons_succ])
              refine wpAnyH_take (i := 4) (oi := ⟨some 90, _, _, _, _, _⟩) (v := ?_) rfl (by kernel_rfl) (by kernel_rfl) (by kernel_rfl) (fun _ _ _ h => h) (Or.inl ⟨by rfl, ?_⟩) hHeld ?_
              rotate_left
              · intro W hSW; obtain ⟨hSW0, hSW1⟩ := hSW; go_simp; first | done | with_reducible rfl
              (try simp only [Act.put, List.setIfInBounds_toArray, List.set_cons_zero, List.set_cons_succ])
              refine wpAnyH_ready (rs := [2]) (by kernel_rfl) (by simp) ?_
              refine AllReadyH.cons (o := ⟨some 88, _, _, _, _, _⟩) rfl (fun K hK => ?_) (AllReadyH.nil)
              go_simp
              refine (CN.out _).mono ?_
              rintro e W1 ⟨rfl, be1⟩
              clear hHeld
              have SR1 := hKeep W1 ((Below.refl _ _).drew.trans be1)
              refine hK.out _ _ ?_ (fun hHeld => ?_)
              · exact SR1
              clear hK K
              (try simp only [Act.put, List.setIfInBounds_toArray, List.set_cons_zero, List.set_cons_succ])
              refine wpAnyH_ready (rs := [5]) (by kernel_rfl) (by simp) ?_
              refine AllReadyH.cons (o := ⟨some 91, _, _, _, _, _⟩) rfl (fun K hK => ?_) (AllReadyH.nil)
              go_simp
              refine (CO.out _).mono ?_
              rintro e W2 ⟨rfl, be2⟩
              clear hHeld
              have SR2 := hKeep W2 (Below.then_ ((Below.refl _ _).drew.trans be1) be2)
              refine hK.out _ _ ?_ (fun hHeld => ?_)
              · exact SR2
              clear hK K
              (try simp only [Act.put, List.setIfInBounds_toArray, List.set_cons_zero, List.set_cons_succ])
              refine wpAnyH_take (i := 6) (oi := ⟨some 92, _, _, _, _, _⟩) (v := ?_) rfl (by kernel_rfl) (by kernel_rfl) (by kernel_rfl) (fun _ _ _ h => h) (Or.inl ⟨by rfl, ?_⟩) hHeld ?_
              rotate_left
              · intro W hSW; obtain ⟨hSW0, hSW1⟩ := hSW; go_simp; first | done | with_reducible rfl
              (try simp only [Act.put, List.setIfInBounds_toArray, List.set_cons_zero, List.set_cons_succ])
              refine wpAnyH_take (i := 7) (oi := ⟨some 93, _, _, _, _, _⟩) (v := ?_) rfl (by kernel_rfl) (by kernel_rfl) (by kernel_rfl) (fun _ _ _ h => h) (Or.inl ⟨by rfl, ?_⟩) hHeld ?_
              rotate_left
              · intro W hSW; obtain ⟨hSW0, hSW1⟩ := hSW; go_simp; first | done | with_reducible rfl
              (try simp only [Act.put, List.setIfInBounds_toArray, List.set_cons_zero, List.set_cons_succ])
              refine wpAnyH_take (i := 8) (oi := ⟨some 94, _, _, _, _, _⟩) (v := ?_) rfl (by kernel_rfl) (by kernel_rfl) (by kernel_rfl) (fun _ _ _ h => h) (Or.inl ⟨by rfl, ?_⟩) hHeld ?_
              rotate_left
              · intro W hSW; obtain ⟨hSW0, hSW1⟩ := hSW; go_simp; first | done | with_reducible rfl
              (try simp only [Act.put, List.setIfInBounds_toArray, List.set_cons_zero, List.set_cons_succ])
              refine wpAnyH_take (i := 9) (oi := ⟨some 95, _, _, _, _, _⟩) (v := ?_) rfl (by kernel_rfl) (by kernel_rfl) (by kernel_rfl) (fun _ _ _ h => h) (Or.inl ⟨by rfl, ?_⟩) hHeld ?_
              rotate_left
              · intro W hSW; obtain ⟨hSW0, hSW1⟩ := hSW; go_simp; first | done | with_reducible rfl
              (try simp only [Act.put, List.setIfInBounds_toArray, List.set_cons_zero, List.set_cons_succ])
              refine wpAnyH_take (i := 10) (oi := ⟨some 96, _, _, _, _, _⟩) (v := ?_) rfl (by kernel_rfl) (by kernel_rfl) (by kernel_rfl) (fun _ _ _ h => h) (Or.inl ⟨by rfl, ?_⟩) hHeld ?_
              rotate_left
              · intro W hSW; obtain ⟨hSW0, hSW1⟩ := hSW; go_simp; first | done | with_reducible rfl
              (try simp only [Act.put, List.setIfInBounds_toArray, List.set_cons_zero, List.set_cons_succ])
              refine wpAnyH_take (i := 11) (oi := ⟨some 97, _, _, _, _, _⟩) (v := ?_) rfl (by kernel_rfl) (by kernel_rfl) (by kernel_rfl) (fun _ _ _ h => h) (Or.inl ⟨by rfl, ?_⟩) hHeld ?_
              rotate_left
              · intro W hSW; obtain ⟨hSW0, hSW1⟩ := hSW; go_simp; first | done | with_reducible rfl
              (try simp only [Act.put, List.setIfInBounds_toArray, List.set_cons_zero, List.set_cons_succ])
              refine wpAnyH_done (by kernel_rfl) ?_ _
              refine NoPanic.normal ?_
              clear hHeld
              have bel6 : Below wr.heap.size wr W2 := Below.then_ ((Below.refl _ _).drew.trans be1) be2
              have q10n := q10r.after bel6
              have q12n := q12r.after bel6
              have beln := Below.then_ belr bel6
              clear hKeep SR1 SR2 be1 be2 q10r q12r
              go_wp2
              go_roundw
              case rel => exact ⟨j + 1, by omega, by go_num, q10n, q12n, beln⟩
              case measure => simp [intOf] <;> omega
          · go_wp2
            go_ret
            exact ⟨rfl, belr⟩
      · have h20f : True := trivial
        clear hlt hnlt
        have hkk : k ≤ 20 := hk20
        obtain ⟨i0, hi0, hz0, hz1, hz2⟩ := info_parts infoNum
        have hnone := own.none_
        go_upto_region 8 with (first | (go_at_call 9; refine (C1.out _).mono ?_; rintro e w' ⟨rfl, rfl⟩) | (go_at_call 16; refine CF1.out.mono ?_; rintro e w2 ⟨rfl, be2⟩) | (refine at_alloc rfl 39 rfl (mv 0 0) zeroMap ?_; intro w3 L3) | (refine at_store rfl 39 _ _ rfl w2.heap.size (mv base m1) rfl rfl 39 _ L3.row (infoMap _ _) rfl (mv_all _ _) ?_; intro w4 L4))
        have q10 : Blk w4 w2.heap.size 39 (mv base m1) := L4.row
        have be4 : Below wr.heap.size wr w4 := (Below.then_ be2 L3.bel).trans (L4.below be2.size)
        have own4 := own.below be4 (Nat.le_refl _)
        have bel4 := bel.trans (be4.mono bel.size)
        obtain ⟨g10, hg10⟩ : ∃ g, g = w2.heap.size := ⟨_, rfl⟩
        rw [← hg10] at q10 ⊢
        clear L3 L4 hg10 CF1 C1
        have rd4 := own4.rd
        have o5 : Own (w4.alloc (.cells #[] 23)) w4.heap.size 23 (some ⟨w4.heap.size, 0, none⟩) 0 0 [] := ⟨World.ownsRow_made w4 #[] 0 (Nat.le_refl _) (by unfold maxLen; omega) (by simp)⟩
        have be5 : Below w4.heap.size w4 (w4.alloc (.cells #[] 23)) := (Below.refl _ _).alloc (Nat.le_refl _) _
        have rd5 := rd4.below be5
        have hs5 := be5.size
        go_upto_region 9 with (first | (at_builtin; refine app16 _ rfl _ _ rfl w4.heap.size _ _ _ _ x _ rfl rfl own6 rfl (by omega) hs6 ?_; intro A7 c7 w7 own7 hgr7; have rd7 := own7.rd) | (at_builtin; refine wpList_app _ rfl _ _ 35 rfl w4.heap.size 23 i0 _ 2 Try.underlying35 hi0 hz0 hz1 hz2 rfl _ 0 0 [] rfl o5 w4.heap.size A1 k c1 (N16 l) rfl rd5 hnone (N16_one l) (by omega) (by unfold maxLen; omega) hs5 ?_; intro A6 c6 w6 own6' hgr6; have own6 := own6'.to (Nat.zero_add k) (List.nil_append (N16 l)); have hs6 := Nat.le_trans hs5 hgr6.size; rw [Nat.zero_add]) | (go_at_call 16; refine (CF2.out _ _ _ _ rd7).mono ?_; rintro e w8 ⟨rfl, be8⟩) | (refine at_alloc rfl 39 rfl (mv 0 0) zeroMap ?_; intro w9 L9) | (refine at_store rfl 39 _ _ rfl w8.heap.size (mv base m2) rfl rfl 39 _ L9.row (infoMap _ _) rfl (mv_all _ _) ?_; intro w10 L10))
        have be6 : Below w4.heap.size w4 w6 := be5.grown hgr6 hs5 (fun j hj => by simp [Value.ownBlock] at hj; omega)
        have be7 : Below w4.heap.size w4 w7 := be6.grown hgr7 be6.size (fun j hj => (own6.block j hj).1)
        have be10 : Below w4.heap.size w4 w10 := (Below.then_ (Below.then_ be7 be8) L9.bel).trans (L10.below (Nat.le_trans be7.size be8.size))
        have q12 : Blk w10 w8.heap.size 39 (mv base m2) := L10.row
        have q10a := q10.after be10
        have bel10 := bel4.trans (be10.mono bel4.size)
        obtain ⟨g12, hg12⟩ : ∃ g, g = w8.heap.size := ⟨_, rfl⟩
        rw [← hg12] at q12 ⊢
        clear L9 L10 hg12 CF2 be10 be7 be6 hgr6 hgr7 own6 own6' own7 rd7 be8 q10 rd5 rd4 o5 be5 hs5 hs6 hi0 hz0 hz1 hz2 bel4
        go_upto_region 12 with (first | (go_at_call 17; refine (CM.out _).mono ?_; rintro e w11 ⟨rfl, be11⟩; have q12m := q12.after be11) | (refine at_load_g rfl 39 _ rfl g12 rfl 39 (mv base m2) _ q12m Try.underlying39 rfl (infoMap _ _) ?_) | (go_at_call 18; refine (CX.out _).mono ?_; rintro e w12 ⟨rfl, be12⟩))
        have be13 := Below.then_ be11 be12
        have q12b := q12.after be13
        have q10b := q10a.after be13
        have bel13 := Below.then_ bel10 be13
        clear q12m be11 be12 be13 q12 q10a bel10 CM CX
        obtain ⟨wo, rfl⟩ : ∃ wo : World, wo = wr := ⟨_, rfl⟩
        go_loopw [14] (fun i wr => ∃ k : Nat, k ≤ 34 ∧ i = .int .i64 (k : Int) ∧ Blk wr g10 39 (mv base m1) ∧ Blk wr g12 39 (mv base m2) ∧ Below w.heap.size w wr) (fun i _ => 34 - (intOf i).toNat)
        case atStart => exact ⟨0, by omega, rfl, q10b, q12b, bel13⟩
        case round =>
          clear q10b q12b bel13
          obtain ⟨j, hj, rfl, q10r, q12r, belr⟩ := hrel
          by_cases hlt : j < 34
          · obtain ⟨a, ha⟩ : ∃ a : Nat, (a : Int) = (base + (j : Int)) % 65536 := ⟨((base + (j : Int)) % 65536).toNat, by omega⟩
            have ha16 : a < 65536 := by omega
            have C1 := Lib.hid (plusC base j)
            rw [← ha] at C1
            have CN := Lib.hid (fun W => hasC base a m2 W h42)
            have CO := Lib.hid (fun W => hasC base a m1 W h41)
            rw [HO.out a ha16] at CN
            clear ha
            generalize hm base m1 a = β at CN CO
            have e3 : ((a : Int) == (x : Int)) = decide (a = x) := by
              by_cases h : a = x
              · rw [decide_eq_true h, h]; simp
              · rw [decide_eq_false h]; simp; omega
            generalize decide (a = x) = γ at CN e3
            have hKeep : ∀ W, Below wr.heap.size wr W → W.rangeAt g10 0 (mv base m1).toList ∧ W.rangeAt g12 0 (mv base m2).toList := fun W hW => ⟨Below.rangeB q10r hW, Below.rangeB q12r hW⟩
            cases β with
            | true =>
              rw [Bool.true_or] at CN
              go_upto_region 15 with (go_at_call 9; refine (C1.out _).mono ?_; rintro e w' ⟨rfl, rfl⟩)
              refine wp_region_noPanic ?_
              refine wp_region_held_drew (S := fun W => W.rangeAt g10 0 (mv base m1).toList ∧ W.rangeAt g12 0 (mv base m2).toList) (by kernel_rfl) (hKeep _ ((Below.refl _ _).drew)) (fun hHeld => ?_)
              refine wpAnyH_take (i := 0) (oi := ⟨some 86, _, _, _, _, _⟩) (v := _) rfl (by kernel_rfl) (by kernel_rfl) (by kernel_rfl) (fun _ _ _ h => h) (yields_mid (by rfl) 39 _ (by rfl) g12 0 (by rfl) (mv base m2) _ (fun W h => h.2) Try.underlying39 rfl (infoMap _ _)) hHeld ?_
              (try simp only [Act.put, List.setIfInBounds_toArray, List.set_cons_zero, List.set_cons_succ])
              refine wpAnyH_take (i := 1) (oi := ⟨some 87, _, _, _, _, _⟩) (v := ?_) rfl (by kernel_rfl) (by kernel_rfl) (by kernel_rfl) (fun _ _ _ h => h) (Or.inl ⟨by rfl, ?_⟩) hHeld ?_
              rotate_left
              · intro W hSW; obtain ⟨hSW0, hSW1⟩ := hSW; go_simp; first | done | with_reducible rfl
              (try simp only [Act.put, List.setIfInBounds_toArray, List.set_cons_zero, List.set_cons_succ])
              refine wpAnyH_take (i := 3) (oi := ⟨some 89, _, _, _, _, _⟩) (v := _) rfl (by kernel_rfl) (by kernel_rfl) (by kernel_rfl) (fun _ _ _ h => h) (yields_mid (by rfl) 39 _ (by rfl) g10 0 (by rfl) (mv base m1) _ (fun W h => h.1) Try.underlying39 rfl (infoMap _ _)) hHeld ?_
              (try simp only [Act.put, List.setIfInBounds_toArray, List.set_cons_zero, List.set_cons_succ])
              refine wpAnyH_take (i := 4) (oi := ⟨some 90, _, _, _, _, _⟩) (v := ?_) rfl (by kernel_rfl) (by kernel_rfl) (by kernel_rfl) (fun _ _ _ h => h) (Or.inl ⟨by rfl, ?_⟩) hHeld ?_
              rotate_left
              · intro W hSW; obtain ⟨hSW0, hSW1⟩ := hSW; go_simp; first | done | with_reducible rfl
              (try simp only [Act.put, List.setIfInBounds_toArray, List.set_cons_zero, List.set_cons_succ])
              refine wpAnyH_ready (rs := [2]) (by kernel_rfl) (by simp) ?_
              refine AllReadyH.cons (o := ⟨some 88, _, _, _, _, _⟩) rfl (fun K hK => ?_) (AllReadyH.nil)
              go_simp
              refine (CN.out _).mono ?_
              rintro e W1 ⟨rfl, be1⟩
              clear hHeld
              have SR1 := hKeep W1 ((Below.refl _ _).drew.trans be1)
              refine hK.out _ _ ?_ (fun hHeld => ?_)
              · exact SR1
              clear hK K
              (try simp only [Act.put, List.setIfInBounds_toArray, List.set_cons_zero, List.set_cons_succ])
              refine wpAnyH_ready (rs := [5]) (by kernel_rfl) (by simp) ?_
              refine AllReadyH.cons (o := ⟨some 91, _, _, _, _, _⟩) rfl (fun K hK => ?_) (AllReadyH.nil)
              go_simp
              refine (CO.out _).mono ?_
              rintro e W2 ⟨rfl, be2⟩
              clear hHeld
              have SR2 := hKeep W2 (Below.then_ ((Below.refl _ _).drew.trans be1) be2)
              refine hK.out _ _ ?_ (fun hHeld => ?_)
              · exact SR2
              clear hK K
              (try simp only [Act.put, List.setIfInBounds_toArray, List.set_cons_zero, List.set_cons_succ])
              refine wpAnyH_take (i := 6) (oi := ⟨some 92, _, _, _, _, _⟩) (v := ?_) rfl (by kernel_rfl) (by kernel_rfl) (by kernel_rfl) (fun _ _ _ h => h) (Or.inl ⟨by rfl, ?_⟩) hHeld ?_
              rotate_left
              · intro W hSW; obtain ⟨hSW0, hSW1⟩ := hSW; go_simp; first | done | with_reducible rfl
              (try simp only [Act.put, List.setIfInBounds_toArray, List.set_cons_zero, List.set_cons_succ])
              refine wpAnyH_take (i := 7) (oi := ⟨some 93, _, _, _, _, _⟩) (v := undef) rfl (by kernel_rfl) (by kernel_rfl) (by kernel_rfl) (fun _ _ _ h => h) (Or.inr ⟨by rfl, rfl⟩) hHeld ?_
              (try simp only [Act.put, List.setIfInBounds_toArray, List.set_cons_zero, List.set_cons_succ])
              refine wpAnyH_take (i := 8) (oi := ⟨some 94, _, _, _, _, _⟩) (v := undef) rfl (by kernel_rfl) (by kernel_rfl) (by kernel_rfl) (fun _ _ _ h => h) (Or.inr ⟨by rfl, rfl⟩) hHeld ?_
              (try simp only [Act.put, List.setIfInBounds_toArray, List.set_cons_zero, List.set_cons_succ])
              refine wpAnyH_take (i := 9) (oi := ⟨some 95, _, _, _, _, _⟩) (v := undef) rfl (by kernel_rfl) (by kernel_rfl) (by kernel_rfl) (fun _ _ _ h => h) (Or.inr ⟨by rfl, rfl⟩) hHeld ?_
              (try simp only [Act.put, List.setIfInBounds_toArray, List.set_cons_zero, List.set_cons_succ])
              refine wpAnyH_take (i := 10) (oi := ⟨some 96, _, _, _, _, _⟩) (v := ?_) rfl (by kernel_rfl) (by kernel_rfl) (by kernel_rfl) (fun _ _ _ h => h) (Or.inl ⟨by rfl, ?_⟩) hHeld ?_
              rotate_left
              · intro W hSW; obtain ⟨hSW0, hSW1⟩ := hSW; go_simp; first | done | with_reducible rfl
              (try simp only [Act.put, List.setIfInBounds_toArray, List.set_cons_zero, List.set_cons_succ])
              refine wpAnyH_take (i := 11) (oi := ⟨some 97, _, _, _, _, _⟩) (v := ?_) rfl (by kernel_rfl) (by kernel_rfl) (by kernel_rfl) (fun _ _ _ h => h) (Or.inl ⟨by rfl, ?_⟩) hHeld ?_
              rotate_left
              · intro W hSW; obtain ⟨hSW0, hSW1⟩ := hSW; go_simp; first | done | with_reducible rfl
              (try simp only [Act.put, List.setIfInBounds_toArray, List.set_cons_zero, List.set_cons_succ])
              refine wpAnyH_done (by kernel_rfl) ?_ _
              refine NoPanic.normal ?_
              clear hHeld
              have bel6 : Below wr.heap.size wr W2 := Below.then_ ((Below.refl _ _).drew.trans be1) be2
              have q10n := q10r.after bel6
              have q12n := q12r.after bel6
              have beln := Below.then_ belr bel6
              clear hKeep SR1 SR2 be1 be2 q10r q12r
              go_wp2
              go_roundw
              case rel => exact ⟨j + 1, by omega, by go_num, q10n, q12n, beln⟩
              case measure => simp [intOf] <;> omega
            | false =>
              rw [Bool.false_or] at CN
              have e4 : (γ != γ) = false := by cases γ <;> rfl
              go_upto_region 15 with (go_at_call 9; refine (C1.out _).mono ?_; rintro e w' ⟨rfl, rfl⟩)
              refine wp_region_noPanic ?_
              refine wp_region_held_drew (S := fun W => W.rangeAt g10 0 (mv base m1).toList ∧ W.rangeAt g12 0 (mv base m2).toList) (by kernel_rfl) (hKeep _ ((Below.refl _ _).drew)) (fun hHeld => ?_)
              refine wpAnyH_take (i := 0) (oi := ⟨some 86, _, _, _, _, _⟩) (v := _) rfl (by kernel_rfl) (by kernel_rfl) (by kernel_rfl) (fun _ _ _ h => h) (yields_mid (by rfl) 39 _ (by rfl) g12 0 (by rfl) (mv base m2) _ (fun W h => h.2) Try.underlying39 rfl (infoMap _ _)) hHeld ?_
              (try simp only [Act.put, List.setIfInBounds_toArray, List.set_cons_zero, List.set_cons_succ])
              refine wpAnyH_take (i := 1) (oi := ⟨some 87, _, _, _, _, _⟩) (v := ?_) rfl (by kernel_rfl) (by kernel_rfl) (by kernel_rfl) (fun _ _ _ h => h) (Or.inl ⟨by rfl, ?_⟩) hHeld ?_
              rotate_left
              · intro W hSW; obtain ⟨hSW0, hSW1⟩ := hSW; go_simp; first | done | with_reducible rfl
              (try simp only [Act.put, List.setIfInBounds_toArray, List.set_cons_zero, List.set_cons_succ])
              refine wpAnyH_take (i := 3) (oi := ⟨some 89, _, _, _, _, _⟩) (v := _) rfl (by kernel_rfl) (by kernel_rfl) (by kernel_rfl) (fun _ _ _ h => h) (yields_mid (by rfl) 39 _ (by rfl) g10 0 (by rfl) (mv base m1) _ (fun W h => h.1) Try.underlying39 rfl (infoMap _ _)) hHeld ?_
              (try simp only [Act.put, List.setIfInBounds_toArray, List.set_cons_zero, List.set_cons_succ])
              refine wpAnyH_take (i := 4) (oi := ⟨some 90, _, _, _, _, _⟩) (v := ?_) rfl (by kernel_rfl) (by kernel_rfl) (by kernel_rfl) (fun _ _ _ h => h) (Or.inl ⟨by rfl, ?_⟩) hHeld ?_
              rotate_left
              · intro W hSW; obtain ⟨hSW0, hSW1⟩ := hSW; go_simp; first | done | with_reducible rfl
              (try simp only [Act.put, List.setIfInBounds_toArray, List.set_cons_zero, List.set_cons_succ])
              refine wpAnyH_ready (rs := [2]) (by kernel_rfl) (by simp) ?_
              refine AllReadyH.cons (o := ⟨some 88, _, _, _, _, _⟩) rfl (fun K hK => ?_) (AllReadyH.nil)
              go_simp
              refine (CN.out _).mono ?_
              rintro e W1 ⟨rfl, be1⟩
              clear hHeld
              have SR1 := hKeep W1 ((Below.refl _ _).drew.trans be1)
              refine hK.out _ _ ?_ (fun hHeld => ?_)
              · exact SR1
              clear hK K
              (try simp only [Act.put, List.setIfInBounds_toArray, List.set_cons_zero, List.set_cons_succ])
              refine wpAnyH_ready (rs := [5]) (by kernel_rfl) (by simp) ?_
              refine AllReadyH.cons (o := ⟨some 91, _, _, _, _, _⟩) rfl (fun K hK => ?_) (AllReadyH.nil)
              go_simp
              refine (CO.out _).mono ?_
              rintro e W2 ⟨rfl, be2⟩
              clear hHeld
              have SR2 := hKeep W2 (Below.then_ ((Below.refl _ _).drew.trans be1) be2)
              refine hK.out _ _ ?_ (fun hHeld => ?_)
              · exact SR2
              clear hK K
              (try simp only [Act.put, List.setIfInBounds_toArray, List.set_cons_zero, List.set_cons_succ])
              refine wpAnyH_take (i := 6) (oi := ⟨some 92, _, _, _, _, _⟩) (v := ?_) rfl (by kernel_rfl) (by kernel_rfl) (by kernel_rfl) (fun _ _ _ h => h) (Or.inl ⟨by rfl, ?_⟩) hHeld ?_
              rotate_left
              · intro W hSW; obtain ⟨hSW0, hSW1⟩ := hSW; go_simp; first | done | with_reducible rfl
              (try simp only [Act.put, List.setIfInBounds_toArray, List.set_cons_zero, List.set_cons_succ])
              refine wpAnyH_take (i := 7) (oi := ⟨some 93, _, _, _, _, _⟩) (v := ?_) rfl (by kernel_rfl) (by kernel_rfl) (by kernel_rfl) (fun _ _ _ h => h) (Or.inl ⟨by rfl, ?_⟩) hHeld ?_
              rotate_left
              · intro W hSW; obtain ⟨hSW0, hSW1⟩ := hSW; go_simp; first | done | with_reducible rfl
              (try simp only [Act.put, List.setIfInBounds_toArray, List.set_cons_zero, List.set_cons_succ])
              refine wpAnyH_take (i := 8) (oi := ⟨some 94, _, _, _, _, _⟩) (v := ?_) rfl (by kernel_rfl) (by kernel_rfl) (by kernel_rfl) (fun _ _ _ h => h) (Or.inl ⟨by rfl, ?_⟩) hHeld ?_
              rotate_left
              · intro W hSW; obtain ⟨hSW0, hSW1⟩ := hSW; go_simp; first | done | with_reducible rfl
              (try simp only [Act.put, List.setIfInBounds_toArray, List.set_cons_zero, List.set_cons_succ])
              refine wpAnyH_take (i := 9) (oi := ⟨some 95, _, _, _, _, _⟩) (v := ?_) rfl (by kernel_rfl) (by kernel_rfl) (by kernel_rfl) (fun _ _ _ h => h) (Or.inl ⟨by rfl, ?_⟩) hHeld ?_
              rotate_left
              · intro W hSW; obtain ⟨hSW0, hSW1⟩ := hSW; go_simp; first | done | with_reducible rfl
              (try simp only [Act.put, List.setIfInBounds_toArray, List.set_cons_zero, List.set_cons_succ])
              refine wpAnyH_take (i := 10) (oi := ⟨some 96, _, _, _, _, _⟩) (v := ?_) rfl (by kernel_rfl) (by kernel_rfl) (by kernel_rfl) (fun _ _ _ h => h) (Or.inl ⟨by rfl, ?_⟩) hHeld ?_
              rotate_left
              · intro W hSW; obtain ⟨hSW0, hSW1⟩ := hSW; go_simp; first | done | with_reducible rfl
              (try simp only [Act.put, List.setIfInBounds_toArray, List.set_cons_zero, List.set_cons_succ])
              refine wpAnyH_take (i := 11) (oi := ⟨some 97, _, _, _, _, _⟩) (v := ?_) rfl (by kernel_rfl) (by kernel_rfl) (by kernel_rfl) (fun _ _ _ h => h) (Or.inl ⟨by rfl, ?_⟩) hHeld ?_
              rotate_left
              · intro W hSW; obtain ⟨hSW0, hSW1⟩ := hSW; go_simp; first | done | with_reducible rfl
              (try simp only [Act.put, List.setIfInBounds_toArray, List.set_cons_zero, List.set_cons_succ])
              refine wpAnyH_done (by kernel_rfl) ?_ _
              refine NoPanic.normal ?_
              clear hHeld
              have bel6 : Below wr.heap.size wr W2 := Below.then_ ((Below.refl _ _).drew.trans be1) be2
              have q10n := q10r.after bel6
              have q12n := q12r.after bel6
              have beln := Below.then_ belr bel6
              clear hKeep SR1 SR2 be1 be2 q10r q12r
              go_wp2
              go_roundw
              case rel => exact ⟨j + 1, by omega, by go_num, q10n, q12n, beln⟩
              case measure => simp [intOf] <;> omega
          · go_wp2
            go_ret
            exact ⟨rfl, belr⟩
end Go.Proofs.Ytboloaglakehkaa
