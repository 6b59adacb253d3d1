/-
  The walk of layer 2's statement BitioSame.
-/
import Derived.Test.YtcddbcknjcedfaaWb
namespace Go.Proofs.Ytcddbcknjcedfaa
open Go.RowKit
set_option linter.unusedVariables false
set_option linter.unusedSimpArgs false

theorem wpAnyH_to {P : Program} {ops : Array Oper} {Q : Exit → Act → World → Prop} {md : Region.Mode} {S S' : World → Prop} (h : ∀ W, S' W → S W) :
    ∀ (fuel : Nat) (listed : Array Bool) (a : Act) (w : World), wpAnyH P md ops Q S' fuel listed a w → wpAnyH P md ops Q S fuel listed a w
  | 0, _, _, _, hh => hh
  | fuel + 1, _, _, _, hh => ⟨hh.1, fun i hi => wpOp_mono (fun a' w' h' => ⟨h _ h'.1, wpAnyH_to h fuel _ a' w' h'.2⟩) (hh.2 i hi)⟩

theorem pre_getD (n width i : Nat) : ∀ j, i < j → (pre n width j).getD i 0 = n / 2 ^ (width - 1 - i) % 2
  | 0, h => by omega
  | j + 1, h => by
    rw [pre]
    by_cases hi : i < j
    · rw [Bm.getD_left _ _ _ _ (by rw [pre_length]; exact hi), pre_getD n width i j hi]
    · have e : i = j := by omega
      subst e
      rw [Bm.getD_right _ _ _ _ (by rw [pre_length]; omega), pre_length]
      simp

theorem mod_bit (N s k : Nat) (h : s < k) : N % 2 ^ k / 2 ^ s % 2 = N / 2 ^ s % 2 := by
  have h1 := Nat.testBit_mod_two_pow N k s
  rw [Nat.testBit_eq_decide_div_mod_eq, Nat.testBit_eq_decide_div_mod_eq] at h1
  simp only [h, decide_true, Bool.true_and, decide_eq_decide] at h1
  omega

/-- A number's bits are its halves'. -/
theorem pre_split (N h l : Nat) (hl : 0 < l) : pre N (h + l) (h + l) = pre (N / 2 ^ l) h h ++ pre (N % 2 ^ l) l l := by
  apply Bm.ext_getD
  · simp [pre_length]
  · intro i hi
    rw [pre_length] at hi
    rw [pre_getD N (h + l) i _ hi]
    by_cases hih : i < h
    · rw [Bm.getD_left _ _ _ _ (by rw [pre_length]; exact hih), pre_getD _ _ _ _ hih, Nat.div_div_eq_div_mul, ← Nat.pow_add, show l + (h - 1 - i) = h + l - 1 - i by omega]
    · rw [Bm.getD_right _ _ _ _ (by rw [pre_length]; omega), pre_length, pre_getD _ _ _ _ (by omega), mod_bit _ _ _ (by omega), show l - 1 - (i - h) = h + l - 1 - i by omega]

theorem Wr.below {w w' : World} {base g : Nat} {A : Option Addr} {n c : Nat} {bs : List Nat} (h : Wr w base g A n c bs) (hb : Below w.heap.size w w') : Wr w' base g A n c bs :=
  ⟨h.box.keep (hb.block _ h.box.lt), h.own.below hb (Nat.le_refl _)⟩

/-- A Writer that another one's Put leaves alone. -/
theorem Wr.apart {w w' : World} {base g g2 : Nat} {A A2 : Option Addr} {n c n2 c2 : Nat} {bs bs2 : List Nat} (h : Wr w base g A n c bs) (h2 : Wr w base g2 A2 n2 c2 bs2) (hf : Fr w w' g2 (Value.slice A2 n2 c2).ownBlock) (hg : g ≠ g2)
    (hrow : ∀ k, (Value.slice A n c).ownBlock = some k → (Value.slice A2 n2 c2).ownBlock ≠ some k) : Wr w' base g A n c bs := by
  refine ⟨h.box.keep (hf.block g h.box.lt hg (Ne.symm (h2.own.ne_box h.box (by decide)))), h.own.keep fun k hk => ?_⟩
  have hne := h.own.ne_box h2.box (by decide)
  exact hf.block k (h.own.block k hk).2 (by rintro rfl; exact hne hk) (Ne.symm (hrow k hk))

set_option maxHeartbeats 2000000 in
/-- BitioSame. -/
theorem walk9 (a0 a1 a2 : Int) (w : World) : Calls Try.prog 9 #[.int .i64 a0, .int .i64 a1, .int .i64 a2] w fun e w' => e = .returned (.bool true) ∧ Below w.heap.size w w' := by
  obtain ⟨x1, hx1, ex1⟩ : ∃ x : Nat, x < 18446744073709551616 ∧ IntKind.u64.wrap a1 = (x : Int) := ⟨(IntKind.u64.wrap a1).toNat, by rw [wrapU]; omega, by rw [wrapU]; omega⟩
  obtain ⟨x2, hx2, ex2⟩ : ∃ x : Nat, x < 18446744073709551616 ∧ IntKind.u64.wrap a2 = (x : Int) := ⟨(IntKind.u64.wrap a2).toNat, by rw [wrapU]; omega, by rw [wrapU]; omega⟩
  obtain ⟨x0, hx0, ex0⟩ : ∃ x : Nat, x < 18446744073709551616 ∧ IntKind.u64.wrap a0 = (x : Int) := ⟨(IntKind.u64.wrap a0).toNat, by rw [wrapU]; omega, by rw [wrapU]; omega⟩
  obtain ⟨h0, hh0, eh0⟩ : ∃ h0 : Nat, h0 < 16 ∧ (x1 : Int) % 16 = (h0 : Int) := ⟨x1 % 16, by omega, by omega⟩
  obtain ⟨l0, hl0, el0⟩ : ∃ l0 : Nat, l0 < 16 ∧ (x2 : Int) % 16 = (l0 : Int) := ⟨x2 % 16, by omega, by omega⟩
  obtain ⟨hh, hhe⟩ : ∃ hh : Nat, hh = 1 + h0 := ⟨_, rfl⟩
  obtain ⟨ll, hle⟩ : ∃ ll : Nat, ll = 1 + l0 := ⟨_, rfl⟩
  obtain ⟨wd, hwd⟩ : ∃ wd : Nat, wd = hh + ll := ⟨_, rfl⟩
  have e1 : (1 : Int) + (h0 : Int) = (hh : Int) := by omega
  have e2 : (1 : Int) + (l0 : Int) = (ll : Int) := by omega
  have e3 : (hh : Int) + (ll : Int) = (wd : Int) := by omega
  have b1 : 1 ≤ hh := by omega
  have b2 : hh ≤ 16 := by omega
  have b3 : 1 ≤ ll := by omega
  have b4 : ll ≤ 16 := by omega
  have b5 : wd ≤ 32 := by omega
  have b6 : 2 ≤ wd := by omega
  obtain ⟨P, hP⟩ : ∃ P : Nat, P = 2 ^ wd := ⟨_, rfl⟩
  obtain ⟨L, hL⟩ : ∃ L : Nat, L = 2 ^ ll := ⟨_, rfl⟩
  have eP : (2 : Int) ^ wd = (P : Int) := by rw [hP]; simp
  have eL : (2 : Int) ^ ll = (L : Int) := by rw [hL]; simp
  have hp1 : 0 < P := by rw [hP]; exact Nat.two_pow_pos _
  have hp2 : P ≤ 4294967296 := by rw [hP]; exact Nat.pow_le_pow_right (n := 2) (j := 32) (by decide) b5
  have hl1 : 0 < L := by rw [hL]; exact Nat.two_pow_pos _
  have hl2 : L ≤ 65536 := by rw [hL]; exact Nat.pow_le_pow_right (n := 2) (j := 16) (by decide) b4
  obtain ⟨N, hN⟩ : ∃ N : Nat, N = x0 % P := ⟨_, rfl⟩
  have eN : (x0 : Int) % (P : Int) = (N : Int) := by rw [hN]; simp
  have hN1 : N < P := by rw [hN]; exact Nat.mod_lt _ hp1
  obtain ⟨Qn, hQ⟩ : ∃ Qn : Nat, Qn = N / L := ⟨_, rfl⟩
  obtain ⟨R, hR⟩ : ∃ R : Nat, R = N % L := ⟨_, rfl⟩
  have eQ : (N : Int) / (L : Int) = (Qn : Int) := by rw [hQ]; simp
  have eR : (N : Int) % (L : Int) = (R : Int) := by rw [hR]; simp
  have f1 : N < 2 ^ wd := by rw [← hP]; exact hN1
  have f2 : Qn < 2 ^ hh := by
    rw [hQ]
    apply Nat.div_lt_of_lt_mul
    rw [hL, ← Nat.pow_add, Nat.add_comm, ← hwd]; exact f1
  have f3 : R < 2 ^ ll := by rw [hR, ← hL]; exact Nat.mod_lt _ hl1
  have HPRE : Hid (pre N wd wd = pre Qn hh hh ++ pre R ll ll) := by
    unfold Hid
    rw [hQ, hR, hL, hwd]; exact pre_split N hh ll b3
  have hQb : Qn ≤ 4294967296 := by rw [hQ]; exact Nat.le_trans (Nat.div_le_self _ _) (by omega)
  have hRb : R ≤ 65536 := by rw [hR]; exact Nat.le_trans (Nat.le_of_lt (Nat.mod_lt _ hl1)) hl2
  have F1 := Lib.hid f1
  have F2 := Lib.hid f2
  have F3 := Lib.hid f3
  have HWD := Lib.hid hwd
  clear hhe hle hwd hP hL hN hQ hR f1 f2 f3
  have wa0 : Wr ((w.alloc (.cells #[.slice none 0 0] 44)).alloc (.cells #[.slice none 0 0] 44)) w.heap.size w.heap.size none 0 0 [] := (newWr w _).below ((Below.refl _ _).alloc (Nat.le_refl _) _)
  have wb0 : Wr ((w.alloc (.cells #[.slice none 0 0] 44)).alloc (.cells #[.slice none 0 0] 44)) w.heap.size (w.heap.size + 1) none 0 0 [] := by
    have := newWr (w.alloc (.cells #[.slice none 0 0] 44)) w.heap.size
    rw [show (w.alloc (.cells #[.slice none 0 0] 44)).heap.size = w.heap.size + 1 by simp] at this
    exact this
  have be0 : Below w.heap.size w ((w.alloc (.cells #[.slice none 0 0] 44)).alloc (.cells #[.slice none 0 0] 44)) := ((Below.refl _ _).alloc (Nat.le_refl _) _).alloc (by simp) _
  have PA := Lib.hid (putOk w.heap.size w.heap.size none 0 0 [] N wd _ wa0 be0.size (by omega) b5 F1.out (by omega))
  have WA0 := Lib.hid wa0
  have WB0 := Lib.hid wb0
  have BE0 := Lib.hid be0
  clear wa0 wb0 be0
  go_enter Try.func9, Try.ntmps9
  go_wp2_with fail
  refine PA.out.mono ?_
  rintro e w1 ⟨rfl, A1, n1, c1, wa1, hn1, fr1, hr1⟩
  rw [Nat.zero_add] at hn1
  obtain rfl := hn1
  have wb1 : Wr w1 w.heap.size (w.heap.size + 1) none 0 0 [] := WB0.out.apart WA0.out fr1 (by omega) (fun k h => by cases h)
  have be1 : Below w.heap.size w w1 := BE0.out.trans (fr1.below (Nat.le_refl _) (fun k h => by cases h) BE0.out.size)
  clear fr1 hr1
  have PB := Lib.hid (putOk w.heap.size (w.heap.size + 1) none 0 0 [] Qn hh w1 wb1 be1.size b1 (by omega) F2.out (by omega))
  go_wp2_with fail
  refine PB.out.mono ?_
  rintro e w2 ⟨rfl, A2, n2, c2, wb2, hn2, fr2, hr2⟩
  rw [Nat.zero_add] at hn2
  obtain rfl := hn2
  have wa2 : Wr w2 w.heap.size w.heap.size A1 n1 c1 ([] ++ pre N n1 n1) := wa1.apart wb1 fr2 (by omega) (fun k _ h => by cases h)
  have be2 : Below w.heap.size w w2 := be1.trans (fr2.below (by omega) (fun k h => by cases h) be1.size)
  have hdis : ∀ k, (Value.slice A1 n1 c1).ownBlock = some k → (Value.slice A2 n2 c2).ownBlock ≠ some k := by
    intro k hk h
    have := (wa1.own.block k hk).2
    rcases hr2 with e | ⟨j, e, hj⟩
    · rw [e] at h; cases h
    · rw [e] at h; injection h with h; omega
  have PC := Lib.hid (putOk w.heap.size (w.heap.size + 1) A2 n2 c2 _ R ll w2 wb2 be2.size b3 (by omega) F3.out (by omega))
  clear fr2 hr2 wb1 wa1
  go_wp2_with fail
  refine PC.out.mono ?_
  rintro e w3 ⟨rfl, A3, n3, c3, wb3, hn3, fr3, hr3⟩
  have wa3 : Wr w3 w.heap.size w.heap.size A1 n1 c1 ([] ++ pre N n1 n1) := wa2.apart wb2 fr3 (by omega) hdis
  have be3 : Below w.heap.size w w3 := be2.trans (fr3.below (by omega) (fun k h => (wb2.own.block k h).1) be2.size)
  have hn4 : n3 = n1 := by have := HWD.out; omega
  subst hn4
  rw [List.nil_append] at wa3 wb3
  rw [← HPRE.out] at wb3
  have hbit := pre_bit N n3 n3
  generalize hlb : pre N n3 n3 = lb at *
  have CA := Lib.hid (fun (W : World) (hB : Below w3.heap.size w3 W) => wbytes w.heap.size w.heap.size A1 n3 c1 lb W (wa3.below hB) hbit (by omega))
  have CB := Lib.hid (fun (W : World) (hB : Below w3.heap.size w3 W) => wbytes w.heap.size (w.heap.size + 1) A3 n3 c3 lb W (wb3.below hB) hbit (by omega))
  have LA := Lib.hid (fun (W : World) (hB : Below w3.heap.size w3 W) => wlen w.heap.size w.heap.size A1 n3 c1 lb W (wa3.below hB))
  have LB := Lib.hid (fun (W : World) (hB : Below w3.heap.size w3 W) => wlen w.heap.size (w.heap.size + 1) A3 n3 c3 lb W (wb3.below hB))
  have hany := convO_eq
  clear hlb hn3 fr3 hr3 wa2 wb2 be1 be2 hdis hbit wa3 wb3 PA PB PC WA0 WB0 BE0 HPRE F1 F2 F3
  go_wp2_with fail
  refine wp_region_noPanic ?_
  refine wp_region_held_drew (S := fun W => Below w3.heap.size w3 W ∧ True) (by kernel_rfl) ⟨(Below.refl _ _).drew, trivial⟩ (fun hHeld => ?_)
  refine wpAnyH_ready (rs := [0]) (by kernel_rfl) (by simp) ?_
  refine AllReadyH.cons (o := ⟨some 54, _, _, _, _, _⟩) rfl (fun K hK => ?_) AllReadyH.nil
  go_simp
  refine (puts _).mono ?_
  rintro e wt ⟨rfl, bet⟩
  have bt := Below.then_ hHeld.1 bet
  clear hHeld
  refine hK.out _ _ ?_ (fun hHeld => ?_)
  · exact ⟨bt, trivial⟩
  clear hK K
  (try simp only [Act.put, List.setIfInBounds_toArray, List.set_cons_zero, List.set_cons_succ])
  refine wpAnyH_take (i := 1) (oi := ⟨some 55, _, _, _, _, _⟩) (v := ?_) rfl (by kernel_rfl) (by kernel_rfl) (by kernel_rfl) (fun _ _ _ h => h) (Or.inl ⟨by rfl, ?_⟩) (by assumption) ?_
  rotate_left
  · intro W hSW; obtain ⟨hSW0, hSW1⟩ := hSW; go_simp; first | done | with_reducible rfl
  (try simp only [Act.put, List.setIfInBounds_toArray, List.set_cons_zero, List.set_cons_succ])
  refine wpAnyH_take (i := 2) (oi := ⟨some 56, _, _, _, _, _⟩) (v := ?_) rfl (by kernel_rfl) (by kernel_rfl) (by kernel_rfl) (fun _ _ _ h => h) (Or.inl ⟨by rfl, ?_⟩) (by assumption) ?_
  rotate_left
  · intro W hSW; obtain ⟨hSW0, hSW1⟩ := hSW; go_simp; first | done | with_reducible rfl
  (try simp only [Act.put, List.setIfInBounds_toArray, List.set_cons_zero, List.set_cons_succ])
  refine wpAnyH_take (i := 3) (oi := ⟨some 57, _, _, _, _, _⟩) (v := ?_) rfl (by kernel_rfl) (by kernel_rfl) (by kernel_rfl) (fun _ _ _ h => h) (Or.inl ⟨by rfl, ?_⟩) (by assumption) ?_
  rotate_left
  · intro W hSW; obtain ⟨hSW0, hSW1⟩ := hSW; go_simp; first | done | with_reducible rfl
  (try simp only [Act.put, List.setIfInBounds_toArray, List.set_cons_zero, List.set_cons_succ])
  refine wpAnyH_take (i := 4) (oi := ⟨some 58, _, _, _, _, _⟩) (v := ?_) rfl (by kernel_rfl) (by kernel_rfl) (by kernel_rfl) (fun _ _ _ h => h) (Or.inl ⟨by rfl, ?_⟩) (by assumption) ?_
  rotate_left
  · intro W hSW; obtain ⟨hSW0, hSW1⟩ := hSW; go_simp; first | done | with_reducible rfl
  (try simp only [Act.put, List.setIfInBounds_toArray, List.set_cons_zero, List.set_cons_succ])
  refine wpAnyH_take (i := 5) (oi := ⟨some 59, _, _, _, _, _⟩) (v := ?_) rfl (by kernel_rfl) (by kernel_rfl) (by kernel_rfl) (fun _ _ _ h => h) (Or.inl ⟨by rfl, ?_⟩) (by assumption) ?_
  rotate_left
  · intro W hSW; obtain ⟨hSW0, hSW1⟩ := hSW; go_simp; first | done | with_reducible rfl
  (try simp only [Act.put, List.setIfInBounds_toArray, List.set_cons_zero, List.set_cons_succ])
  refine wpAnyH_take (i := 6) (oi := ⟨some 60, _, _, _, _, _⟩) (v := ?_) rfl (by kernel_rfl) (by kernel_rfl) (by kernel_rfl) (fun _ _ _ h => h) (Or.inl ⟨by rfl, ?_⟩) (by assumption) ?_
  rotate_left
  · intro W hSW; obtain ⟨hSW0, hSW1⟩ := hSW; go_simp; first | done | with_reducible rfl
  (try simp only [Act.put, List.setIfInBounds_toArray, List.set_cons_zero, List.set_cons_succ])
  refine wpAnyH_take (i := 7) (oi := ⟨some 61, _, _, _, _, _⟩) (v := ?_) rfl (by kernel_rfl) (by kernel_rfl) (by kernel_rfl) (fun _ _ _ h => h) (Or.inl ⟨by rfl, ?_⟩) (by assumption) ?_
  rotate_left
  · intro W hSW; obtain ⟨hSW0, hSW1⟩ := hSW; go_simp; first | done | with_reducible rfl
  (try simp only [Act.put, List.setIfInBounds_toArray, List.set_cons_zero, List.set_cons_succ])
  refine wpAnyH_take (i := 8) (oi := ⟨some 62, _, _, _, _, _⟩) (v := ?_) rfl (by kernel_rfl) (by kernel_rfl) (by kernel_rfl) (fun _ _ _ h => h) (Or.inl ⟨by rfl, ?_⟩) (by assumption) ?_
  rotate_left
  · intro W hSW; obtain ⟨hSW0, hSW1⟩ := hSW; go_simp; first | done | with_reducible rfl
  (try simp only [Act.put, List.setIfInBounds_toArray, List.set_cons_zero, List.set_cons_succ])
  refine wpAnyH_take (i := 9) (oi := ⟨some 63, _, _, _, _, _⟩) (v := ?_) rfl (by kernel_rfl) (by kernel_rfl) (by kernel_rfl) (fun _ _ _ h => h) (Or.inl ⟨by rfl, ?_⟩) (by assumption) ?_
  rotate_left
  · intro W hSW; obtain ⟨hSW0, hSW1⟩ := hSW; go_simp; first | done | with_reducible rfl
  (try simp only [Act.put, List.setIfInBounds_toArray, List.set_cons_zero, List.set_cons_succ])
  refine wpAnyH_take (i := 10) (oi := ⟨some 64, _, _, _, _, _⟩) (v := ?_) rfl (by kernel_rfl) (by kernel_rfl) (by kernel_rfl) (fun _ _ _ h => h) (Or.inl ⟨by rfl, ?_⟩) (by assumption) ?_
  rotate_left
  · intro W hSW; obtain ⟨hSW0, hSW1⟩ := hSW; go_simp; first | done | with_reducible rfl
  (try simp only [Act.put, List.setIfInBounds_toArray, List.set_cons_zero, List.set_cons_succ])
  refine wpAnyH_take (i := 11) (oi := ⟨some 65, _, _, _, _, _⟩) (v := ?_) rfl (by kernel_rfl) (by kernel_rfl) (by kernel_rfl) (fun _ _ _ h => h) (Or.inl ⟨by rfl, ?_⟩) (by assumption) ?_
  rotate_left
  · intro W hSW; obtain ⟨hSW0, hSW1⟩ := hSW; go_simp; first | done | with_reducible rfl
  (try simp only [Act.put, List.setIfInBounds_toArray, List.set_cons_zero, List.set_cons_succ])
  refine wpAnyH_take (i := 12) (oi := ⟨some 66, _, _, _, _, _⟩) (v := ?_) rfl (by kernel_rfl) (by kernel_rfl) (by kernel_rfl) (fun _ _ _ h => h) (Or.inl ⟨by rfl, ?_⟩) (by assumption) ?_
  rotate_left
  · intro W hSW; obtain ⟨hSW0, hSW1⟩ := hSW; go_simp; first | done | with_reducible rfl
  (try simp only [Act.put, List.setIfInBounds_toArray, List.set_cons_zero, List.set_cons_succ])
  refine wpAnyH_take (i := 13) (oi := ⟨some 67, _, _, _, _, _⟩) (v := ?_) rfl (by kernel_rfl) (by kernel_rfl) (by kernel_rfl) (fun _ _ _ h => h) (Or.inl ⟨by rfl, ?_⟩) (by assumption) ?_
  rotate_left
  · intro W hSW; obtain ⟨hSW0, hSW1⟩ := hSW; go_simp; first | done | with_reducible rfl
  (try simp only [Act.put, List.setIfInBounds_toArray, List.set_cons_zero, List.set_cons_succ])
  refine wpAnyH_take (i := 14) (oi := ⟨some 68, _, _, _, _, _⟩) (v := ?_) rfl (by kernel_rfl) (by kernel_rfl) (by kernel_rfl) (fun _ _ _ h => h) (Or.inl ⟨by rfl, ?_⟩) (by assumption) ?_
  rotate_left
  · intro W hSW; obtain ⟨hSW0, hSW1⟩ := hSW; go_simp; first | done | with_reducible rfl
  (try simp only [Act.put, List.setIfInBounds_toArray, List.set_cons_zero, List.set_cons_succ])
  refine wpAnyH_take (i := 17) (oi := ⟨some 71, _, _, _, _, _⟩) (v := ?_) rfl (by kernel_rfl) (by kernel_rfl) (by kernel_rfl) (fun _ _ _ h => h) (Or.inl ⟨by rfl, ?_⟩) (by assumption) ?_
  rotate_left
  · intro W hSW; obtain ⟨hSW0, hSW1⟩ := hSW; go_simp; first | done | with_reducible rfl
  (try simp only [Act.put, List.setIfInBounds_toArray, List.set_cons_zero, List.set_cons_succ])
  refine wpAnyH_ready (rs := [15]) (by kernel_rfl) (by simp) ?_
  refine AllReadyH.cons (o := ⟨some 69, _, _, _, _, _⟩) rfl (fun K hK => ?_) AllReadyH.nil
  go_simp
  refine (CA.out _ hHeld.1).mono ?_
  rintro e w5 ⟨A5, n5, c5, rfl, ow5, be5⟩
  have hB5 := Below.then_ hHeld.1 be5
  clear hHeld
  refine hK.out _ _ ?_ (fun hHeld => ?_)
  · exact ⟨hB5, trivial⟩
  clear hK K
  (try simp only [Act.put, List.setIfInBounds_toArray, List.set_cons_zero, List.set_cons_succ])
  have HC5 := Lib.hid ow5.convO
  generalize hs5 : str (Bm.toBytes lb) = s5 at *
  refine wpAnyH_to (S' := fun W => Below w5.heap.size w5 W ∧ convO A5 n5 c5 W = .ok (.string s5) W) (fun W hW => ⟨Below.then_ hB5 hW.1, trivial⟩) _ _ _ _ ?_
  have hHeld5 : Below w5.heap.size w5 w5 ∧ convO A5 n5 c5 w5 = .ok (.string s5) w5 := ⟨Below.refl _ _, HC5.out _ (Below.refl _ _)⟩
  clear hHeld
  refine wpAnyH_take (i := 16) (oi := ⟨some 70, _, _, _, _, _⟩) (v := ?_) rfl (by kernel_rfl) (by kernel_rfl) (by kernel_rfl) (fun _ _ _ h => h) (Or.inl ⟨by rfl, ?_⟩) (by assumption) ?_
  rotate_left
  · intro W hSW; obtain ⟨hSW0, hSW1⟩ := hSW; go_simp; first | done | with_reducible rfl
  (try simp only [Act.put, List.setIfInBounds_toArray, List.set_cons_zero, List.set_cons_succ])
  refine wpAnyH_ready (rs := [18]) (by kernel_rfl) (by simp) ?_
  refine AllReadyH.cons (o := ⟨some 72, _, _, _, _, _⟩) rfl (fun K hK => ?_) AllReadyH.nil
  go_simp
  refine (CB.out _ hB5).mono ?_
  rintro e w6 ⟨A6, n6, c6, rfl, ow6, be6⟩
  have hcv6 := ow6.convO w6 (Below.refl _ _)
  rw [hs5] at hcv6
  have hB6 := Below.then_ hB5 be6
  have hS6 : Below w5.heap.size w5 w6 ∧ convO A5 n5 c5 w6 = .ok (.string s5) w6 := ⟨be6, HC5.out _ be6⟩
  clear hHeld5
  refine hK.out _ _ ?_ (fun hHeld => ?_)
  · exact hS6
  clear hK K
  (try simp only [Act.put, List.setIfInBounds_toArray, List.set_cons_zero, List.set_cons_succ])
  refine wpAnyH_ready (rs := [19]) (by kernel_rfl) (by simp) ?_
  refine AllReadyH.cons (o := ⟨some 73, _, _, _, _, _⟩) rfl (fun K hK => ?_) AllReadyH.nil
  go_simp
  refine hK.out _ _ ?_ (fun hHeld => ?_)
  · exact hS6
  clear hK K
  (try simp only [Act.put, List.setIfInBounds_toArray, List.set_cons_zero, List.set_cons_succ])
  refine wpAnyH_take (i := 20) (oi := ⟨some 74, _, _, _, _, _⟩) (v := ?_) rfl (by kernel_rfl) (by kernel_rfl) (by kernel_rfl) (fun _ _ _ h => h) (Or.inl ⟨by rfl, ?_⟩) (by assumption) ?_
  rotate_left
  · intro W hSW; obtain ⟨hSW0, hSW1⟩ := hSW; go_simp; first | done | with_reducible rfl
  (try simp only [Act.put, List.setIfInBounds_toArray, List.set_cons_zero, List.set_cons_succ])
  refine wpAnyH_take (i := 21) (oi := ⟨some 75, _, _, _, _, _⟩) (v := ?_) rfl (by kernel_rfl) (by kernel_rfl) (by kernel_rfl) (fun _ _ _ h => h) (Or.inl ⟨by rfl, ?_⟩) (by assumption) ?_
  rotate_left
  · intro W hSW; obtain ⟨hSW0, hSW1⟩ := hSW; go_simp; first | done | with_reducible rfl
  (try simp only [Act.put, List.setIfInBounds_toArray, List.set_cons_zero, List.set_cons_succ])
  refine wpAnyH_take (i := 22) (oi := ⟨some 76, _, _, _, _, _⟩) (v := ?_) rfl (by kernel_rfl) (by kernel_rfl) (by kernel_rfl) (fun _ _ _ h => h) (Or.inl ⟨by rfl, ?_⟩) (by assumption) ?_
  rotate_left
  · intro W hSW; obtain ⟨hSW0, hSW1⟩ := hSW; go_simp; first | done | with_reducible rfl
  (try simp only [Act.put, List.setIfInBounds_toArray, List.set_cons_zero, List.set_cons_succ])
  refine wpAnyH_take (i := 23) (oi := ⟨some 77, _, _, _, _, _⟩) (v := ?_) rfl (by kernel_rfl) (by kernel_rfl) (by kernel_rfl) (fun _ _ _ h => h) (Or.inl ⟨by rfl, ?_⟩) (by assumption) ?_
  rotate_left
  · intro W hSW; obtain ⟨hSW0, hSW1⟩ := hSW; go_simp; first | done | with_reducible rfl
  (try simp only [Act.put, List.setIfInBounds_toArray, List.set_cons_zero, List.set_cons_succ])
  refine wpAnyH_take (i := 25) (oi := ⟨some 79, _, _, _, _, _⟩) (v := ?_) rfl (by kernel_rfl) (by kernel_rfl) (by kernel_rfl) (fun _ _ _ h => h) (Or.inl ⟨by rfl, ?_⟩) (by assumption) ?_
  rotate_left
  · intro W hSW; obtain ⟨hSW0, hSW1⟩ := hSW; go_simp; first | done | with_reducible rfl
  (try simp only [Act.put, List.setIfInBounds_toArray, List.set_cons_zero, List.set_cons_succ])
  refine wpAnyH_ready (rs := [24]) (by kernel_rfl) (by simp) ?_
  refine AllReadyH.cons (o := ⟨some 78, _, _, _, _, _⟩) rfl (fun K hK => ?_) AllReadyH.nil
  go_simp
  refine (LA.out _ hB6).mono ?_
  rintro e w' ⟨rfl, rfl⟩
  refine hK.out _ _ ?_ (fun hHeld => ?_)
  · exact hS6
  clear hK K
  (try simp only [Act.put, List.setIfInBounds_toArray, List.set_cons_zero, List.set_cons_succ])
  refine wpAnyH_ready (rs := [26]) (by kernel_rfl) (by simp) ?_
  refine AllReadyH.cons (o := ⟨some 80, _, _, _, _, _⟩) rfl (fun K hK => ?_) AllReadyH.nil
  go_simp
  refine (LB.out _ hB6).mono ?_
  rintro e w' ⟨rfl, rfl⟩
  refine hK.out _ _ ?_ (fun hHeld => ?_)
  · exact hS6
  clear hK K
  (try simp only [Act.put, List.setIfInBounds_toArray, List.set_cons_zero, List.set_cons_succ])
  refine wpAnyH_take (i := 27) (oi := ⟨some 81, _, _, _, _, _⟩) (v := ?_) rfl (by kernel_rfl) (by kernel_rfl) (by kernel_rfl) (fun _ _ _ h => h) (Or.inl ⟨by rfl, ?_⟩) (by assumption) ?_
  rotate_left
  · intro W hSW; obtain ⟨hSW0, hSW1⟩ := hSW; go_simp; first | done | with_reducible rfl
  (try simp only [Act.put, List.setIfInBounds_toArray, List.set_cons_zero, List.set_cons_succ])
  refine wpAnyH_take (i := 28) (oi := ⟨some 82, _, _, _, _, _⟩) (v := ?_) rfl (by kernel_rfl) (by kernel_rfl) (by kernel_rfl) (fun _ _ _ h => h) (Or.inl ⟨by rfl, ?_⟩) (by assumption) ?_
  rotate_left
  · intro W hSW; obtain ⟨hSW0, hSW1⟩ := hSW; go_simp; first | done | with_reducible rfl
  (try simp only [Act.put, List.setIfInBounds_toArray, List.set_cons_zero, List.set_cons_succ])
  refine wpAnyH_take (i := 29) (oi := ⟨some 6, _, _, _, _, _⟩) (v := ?_) rfl (by kernel_rfl) (by kernel_rfl) (by kernel_rfl) (fun _ _ _ h => h) (Or.inl ⟨by rfl, ?_⟩) (by assumption) ?_
  rotate_left
  · intro W hSW; obtain ⟨hSW0, hSW1⟩ := hSW; go_simp; first | done | with_reducible rfl
  (try simp only [Act.put, List.setIfInBounds_toArray, List.set_cons_zero, List.set_cons_succ])
  refine wpAnyH_done (by kernel_rfl) ?_ _
  refine NoPanic.normal ?_
  go_wp2
  go_ret
  exact ⟨rfl, Below.then_ be3 hB6⟩
end Go.Proofs.Ytcddbcknjcedfaa
