/-
  The walk of ChannelAges.
-/
import Derived.Test.YtkmacepodomdmaaEf
import Derived.Test.YtkmacepodomdmaaArg
namespace Go.Proofs.Ytkmacepodomdmaa
open Go.RowKit
set_option maxRecDepth 100000
set_option linter.unusedVariables false
set_option linter.unusedSimpArgs false
set_option maxRecDepth 100000

/-- Sixty numbers. -/
def W60 (f : Nat → Nat) : Array Value := Array.ofFn (n := 60) fun i => .int .i64 (f i.val : Int)
theorem W60_size (f : Nat → Nat) : (W60 f).size = 60 := by simp [W60]
theorem W60_get (f : Nat → Nat) (j : Nat) (h : j < 60) : (W60 f)[j]? = some (.int .i64 (f j : Int)) := by
  unfold W60
  rw [Array.getElem?_eq_getElem (by simpa using h), Array.getElem_ofFn]
theorem W60_set (f h : Nat → Nat) (j v : Nat) (hj : h j = v) (ho : ∀ k, k ≠ j → h k = f k) : (W60 f).setIfInBounds j (.int .i64 (v : Int)) = W60 h := by
  apply Array.ext
  · simp [W60]
  · intro k h1 h2
    rw [Array.getElem_setIfInBounds]
    · simp only [W60, Array.getElem_ofFn]
      by_cases hk : j = k
      · rw [if_pos hk, ← hk, hj]
      · rw [if_neg hk, ho k (fun e => hk e.symm)]
    · simpa [W60] using h2
theorem W60_ext (f h : Nat → Nat) (e : ∀ k, h k = f k) : W60 h = W60 f := by
  have : h = f := funext e
  rw [this]
theorem zero60 : (Try.prog.info? 88).bind (fun i => i.zero.map (fun z => z.cells)) = some (W60 fun _ => 0) := by kernel_rfl
/-- Since when are those under way that were put ahead of m, at step t? -/
def al26 (n : Nat) (pf : Nat → Nat) (m t : Nat) : List Nat := (List.range m).flatMap fun s => if t < s + n then List.replicate (pf s) s else []
theorem al26_succ (n : Nat) (pf : Nat → Nat) (m t : Nat) : al26 n pf (m + 1) t = al26 n pf m t ++ (if t < m + n then List.replicate (pf m) m else []) := by
  unfold al26
  rw [List.range_succ, List.flatMap_append]; simp
theorem al26_lt (n : Nat) (pf : Nat → Nat) (m t : Nat) : ∀ s ∈ al26 n pf m t, s < m := by
  intro s hs
  unfold al26 at hs
  obtain ⟨k, hk, h⟩ := List.mem_flatMap.1 hs
  rw [List.mem_range] at hk
  split at h
  · rw [List.eq_of_mem_replicate h]; exact hk
  · cases h
theorem al26_len (n : Nat) (pf : Nat → Nat) (hp : ∀ s, pf s ≤ 3) (m t : Nat) : (al26 n pf m t).length ≤ 3 * m := by
  induction m with
  | zero => simp [al26]
  | succ m ih =>
    rw [al26_succ, List.length_append]
    have := hp m
    split
    · rw [List.length_replicate]; omega
    · simp; omega
theorem al26_on (n : Nat) (pf : Nat → Nat) (m t : Nat) : (al26 n pf m t).filter (fun s => !decide (s + n ≤ t + 1)) = al26 n pf m (t + 1) := by
  induction m with
  | zero => rfl
  | succ m ih =>
    rw [al26_succ, al26_succ, List.filter_append, ih]
    congr 1
    by_cases h : t < m + n
    · rw [if_pos h]
      by_cases h2 : t + 1 < m + n
      · rw [if_pos h2, List.filter_eq_self.2]
        intro x hx
        rw [List.eq_of_mem_replicate hx]
        simp; omega
      · rw [if_neg h2, List.filter_eq_nil_iff]
        intro x hx
        rw [List.eq_of_mem_replicate hx]
        simp; omega
    · rw [if_neg h, if_neg (by omega)]; rfl
theorem al26_gone (n : Nat) (pf : Nat → Nat) (m t : Nat) : (al26 n pf m t).length = (al26 n pf m (t + 1)).length + (if n ≤ t + 1 ∧ t + 1 - n < m then pf (t + 1 - n) else 0) := by
  induction m with
  | zero => simp [al26]
  | succ m ih =>
    rw [al26_succ, al26_succ, List.length_append, List.length_append, ih]
    by_cases h : t < m + n
    · rw [if_pos h, List.length_replicate]
      by_cases h2 : t + 1 < m + n
      · rw [if_pos h2, List.length_replicate]
        by_cases h3 : n ≤ t + 1 ∧ t + 1 - n < m
        · rw [if_pos h3, if_pos ⟨h3.1, by omega⟩]; omega
        · rw [if_neg h3, if_neg (by omega)]; omega
      · have hm : m = t + 1 - n := by omega
        rw [if_neg h2, if_neg (by omega), if_pos (by omega), ← hm]; simp
    · by_cases h3 : n ≤ t + 1 ∧ t + 1 - n < m
      · have h4 : n ≤ t + 1 ∧ t + 1 - n < m + 1 := ⟨h3.1, by omega⟩
        simp only [if_neg h, if_neg (show ¬ t + 1 < m + n by omega), if_pos h3, if_pos h4, List.length_nil]; omega
      · have h4 : ¬ (n ≤ t + 1 ∧ t + 1 - n < m + 1) := by omega
        simp only [if_neg h, if_neg (show ¬ t + 1 < m + n by omega), if_neg h3, if_neg h4, List.length_nil]
theorem lives_map (n t : Nat) (L : List Fy) : (lives n t L).map (·.since) = (L.map (·.since)).filter (fun s => !decide (s + n ≤ t)) := by
  unfold lives
  rw [List.filter_map]
  rfl
/-- A channel, and an array beside it. -/
structure LX (w0 w : World) (gC age now : Nat) (L : List Fy) (g : Nat) (cs : Array Value) : Prop where
  ch : ∃ P : Nat → Prop, CH w P gC age now L ∧ (∀ k, P k → w0.heap.size ≤ k) ∧ ¬ P g
  blk : Blk w g 88 cs
  bel : Below w0.heap.size w0 w
  lo : w0.heap.size ≤ g
theorem lxPut (w0 w W : World) (gC age now : Nat) (L : List Fy) (g : Nat) (cs : Array Value) (A0 : Option Addr) (n0 c0 : Nat) (bs : List Nat) (h : LX w0 w gC age now L g cs) (hb : Below w.heap.size w W) (hf : L.length < 4096) (hr : Rd W W.heap.size A0 n0 (U8 bs)) (hnone : A0 = none → n0 = 0) :
    Calls Try.prog 34 #[.pointer (some ⟨gC, 0, none⟩), .slice A0 n0 c0] W fun e w' => e = .returned (.tuple #[]) ∧ LX w0 w' gC age now (L ++ [⟨str bs, str bs, now⟩]) g cs := by
  obtain ⟨P, h1, h2, h3⟩ := h.ch
  have hq := h.blk.after hb
  have hbel := h.bel.trans (hb.mono h.bel.size)
  refine (chPut W P gC age now L A0 n0 c0 bs (h1.after hb) hf hr hnone).mono ?_
  rintro e w' ⟨he, hk, P', hs, hp⟩
  refine ⟨he, ⟨⟨P', hs, fun k hk => ?_, fun hg => ?_⟩, (hk.block g hq.lt h3).trans hq, hbel.trans (hk.below h2 hbel.size), h.lo⟩⟩
  · rcases hp k hk with c | c
    · exact h2 k c
    · exact Nat.le_trans hbel.size c
  · rcases hp g hg with c | c
    · exact h3 c
    · have := hq.lt; omega
theorem lxStep (w0 w : World) (gC age now : Nat) (L : List Fy) (g : Nat) (cs : Array Value) (h : LX w0 w gC age now L g cs) (hL : L.length ≤ 1000000) (ha : age ≤ 1000) (hn : now < 1000000) (hs : ∀ x ∈ L, x.since ≤ now) :
    Calls Try.prog 37 #[.pointer (some ⟨gC, 0, none⟩)] w fun e w' => e = .returned (.int .i64 ((L.length - (lives age (now + 1) L).length : Nat) : Int)) ∧ LX w0 w' gC age (now + 1) (lives age (now + 1) L) g cs := by
  obtain ⟨P, h1, h2, h3⟩ := h.ch
  refine (chStep w P gC age now L h1 hL ha hn hs).mono ?_
  rintro e w' ⟨he, hk, hc⟩
  exact ⟨he, ⟨⟨P, hc, h2, h3⟩, (hk.block g h.blk.lt h3).trans h.blk, h.bel.trans (hk.below h2 h.bel.size), h.lo⟩⟩
theorem lxSet {w0 w w' : World} {gC age now : Nat} {L : List Fy} {g : Nat} {cs cs' : Array Value} (h : LX w0 w gC age now L g cs) (hu : Upd w w' g 88 cs') : LX w0 w' gC age now L g cs' := by
  obtain ⟨P, h1, h2, h3⟩ := h.ch
  exact ⟨⟨P, h1.of_heap (fun k hk => hu.oth k (fun e => h3 (by rw [← e]; exact hk))) (by rw [hu.size]; exact Nat.le_refl _), h2, h3⟩, hu.row, h.bel.trans (hu.below h.lo), h.lo⟩
/-- What was put so far. -/
def pa26 (pf : Nat → Nat) (t j : Nat) : Nat := if j < t then pf j else 0
set_option maxHeartbeats 2000000 in
/-- ChannelAges: the walk. -/
theorem channelAges (age : Int) (A : Option Addr) (n0 c0 : Nat) (zs : List Int) (w : World) (hz : Rd w w.heap.size A n0 (I64 zs)) (hn0 : n0 ≤ 9223372036854775807) :
    Calls Try.prog 7 #[.int .i64 age, .slice A n0 c0] w fun e w' => e = .returned (.bool true) ∧ Below w.heap.size w w' := by
  obtain ⟨u, hu, hu2⟩ := wrap_u64 age
  obtain ⟨n, hn1, hn2, hn3⟩ : ∃ n : Nat, 1 ≤ n ∧ n ≤ 20 ∧ 1 + (u : Int) % 20 = (n : Int) := ⟨1 + u % 20, by omega, by omega, by omega⟩
  have CN := Lib.hid (lcNew w w n (by omega) (Below.refl _ _))
  have CF := Lib.hid fliesC
  obtain ⟨pf, hpf⟩ : ∃ pf : Nat → Nat, pf = fun s => if s < n0 ∧ s < 20 then ((zs.getD s 0) % 18446744073709551616).toNat % 4 else 0 := ⟨_, rfl⟩
  have HPF : Hid (∀ s, ¬ (s < n0 ∧ s < 20) → pf s = 0) := fun s h => by rw [hpf]; exact if_neg h
  have HPY : Hid (∀ s, s < n0 ∧ s < 20 → pf s = ((zs.getD s 0) % 18446744073709551616).toNat % 4) := fun s h => by rw [hpf]; exact if_pos h
  have HP3 : Hid (∀ s, pf s ≤ 3) := fun s => by
    by_cases h : s < n0 ∧ s < 20
    · rw [HPY.out s h]; omega
    · rw [HPF.out s h]; omega
  clear hpf
  go_enter Try.func7, Try.ntmps7
  go_upto_region 5 with (first
    | (go_at_call 43; refine CN.out.mono ?_; rintro e w1 ⟨gC, rfl, h1⟩)
    | (go_at_call 36; refine (CF.out _).mono ?_; rintro e w2 ⟨rfl, b2⟩))
  have H2 := h1.after b2
  go_upto_region 6 with (refine at_alloc rfl 88 rfl _ zero60 ?_; intro w3 L3)
  obtain ⟨g8, hg8⟩ : ∃ g, g = w2.heap.size := ⟨_, rfl⟩
  have H3 : Hid (LX w w3 gC n 0 [] g8 (W60 (pa26 pf 0))) := by
    obtain ⟨P, c1, c2⟩ := H2.ch
    have hlo : w.heap.size ≤ g8 := by rw [hg8]; exact H2.bel.size
    refine ⟨⟨P, c1.after L3.bel, c2, fun hp => by have := c1.lt g8 hp; omega⟩, ?_, H2.bel.trans (L3.bel.mono H2.bel.size), hlo⟩
    have e0 : W60 (pa26 pf 0) = W60 (fun _ => 0) := W60_ext _ _ (fun k => if_neg (Nat.not_lt_zero k))
    rw [hg8, e0]
    exact L3.row
  rw [← hg8]
  clear hg8 L3 H2 h1 b2 CN CF
  go_wp2_with fail
  go_loopw [9] (fun s9 wr => ∃ (t : Nat) (L : List Fy), s9 = .int .i64 (t : Int) ∧ t ≤ 40 ∧ Hid (L.map (·.since) = al26 n pf t t) ∧ Hid (LX w wr gC n t L g8 (W60 (pa26 pf t)))) (fun s9 _ => 40 - (intOf s9).toNat)
  case atStart => exact ⟨0, [], rfl, by omega, rfl, H3⟩
  case round =>
    clear H3
    obtain ⟨t, L, rfl, ht, HL, H1⟩ := hrel
    by_cases hlt : t < 40
    · have d1 : decide ((t : Int) < 40) = true := by simp; omega
      have hLl : L.length ≤ 3 * t := by
        have := al26_len n pf HP3.out t t
        rw [← HL.out, List.length_map] at this
        exact this
      obtain ⟨bb, hbb⟩ : ∃ bb, bb = decide (t < n0 ∧ t < 20) := ⟨_, rfl⟩
      go_upto_region 9 with fail
      go_cut [39] (fun s39 wc => s39 = .bool bb ∧ wr = wc)
      case first =>
        clear H1
        by_cases hc1 : t < n0
        · have d2 : decide ((t : Int) < (n0 : Int)) = true := by simp; omega
          have d3 : decide ((t : Int) < 20) = bb := by rw [hbb, decide_eq_decide]; omega
          clear hbb
          go_wp2_with fail
          go_meet
          case rel => exact ⟨rfl, rfl⟩
        · have d2 : decide ((t : Int) < (n0 : Int)) = false := by simp; omega
          obtain rfl : bb = false := by rw [hbb]; simp; omega
          clear hbb
          go_wp2_with fail
          go_meet
          case rel => exact ⟨rfl, rfl⟩
      obtain ⟨rfl, rfl⟩ := hcut
      go_upto_if 39 with fail
      go_cut [10] (fun s10 wc => ∃ L1 : List Fy, Hid (L1.map (·.since) = al26 n pf (t + 1) t) ∧ Hid (LX w wc gC n t L1 g8 (W60 (pa26 pf (t + 1)))))
      case first =>
        by_cases hc : t < n0 ∧ t < 20
        · obtain ⟨hc1, hc2⟩ := hc
          have hpt := HPY.out t ⟨hc1, hc2⟩
          obtain rfl : bb = true := by rw [hbb]; simp; omega
          clear hbb
          obtain ⟨b, off, hA, hb, hcell⟩ := (hz.below H1.out.bel).cell64 t hc1
          subst hA
          obtain ⟨z, hzz⟩ : ∃ z, z = zs.getD t 0 := ⟨_, rfl⟩
          rw [← hzz] at hcell hpt
          have hu3 : IntKind.u64.wrap z = (((z % 18446744073709551616).toNat : Nat) : Int) := by
            obtain ⟨u2, hu4, hu5⟩ := wrap_u64 z
            rw [hu5]
            have := IntKind.wrap_u64 z
            omega
          obtain ⟨v, hv⟩ : ∃ v, v = pf t := ⟨_, rfl⟩
          have hv3 : v ≤ 3 := by rw [hv]; exact HP3.out t
          obtain ⟨uu, huu⟩ : ∃ uu, uu = (z % 18446744073709551616).toNat := ⟨_, rfl⟩
          rw [← huu] at hu3 hpt
          have hvm : (uu : Int) % 4 = (v : Int) := by rw [hv, hpt]; omega
          have ix := fun W => run_idx (P := Try.prog) (sz := 1) Try.underlying88 (by kernel_rfl) g8 0 t (by omega) .i64 W
          simp only [Nat.zero_add, Nat.one_mul] at ix
          have HBK := Lib.hid H1.out.blk
          have hsz : t < (W60 (pa26 pf t)).size := by rw [W60_size]; omega
          have HSET : Hid ((W60 (pa26 pf t)).setIfInBounds t (.int .i64 (v : Int)) = W60 (pa26 pf (t + 1))) := W60_set _ _ t v (by unfold pa26; rw [if_pos (by omega), hv]) (fun k hk => by
            unfold pa26
            by_cases h : k < t
            · rw [if_pos h, if_pos (by omega)]
            · rw [if_neg h, if_neg (by omega)])
          have HV := Lib.hid hv
          clear hv hpt hzz huu
          generalize W60 (pa26 pf t) = W0 at *
          go_upto_region 11 with (refine at_cell rfl 3 _ _ rfl g8 t (.int .i64 (v : Int)) rfl rfl 88 W0 HBK.out hsz info3one rfl ?_; intro w4 u4)
          have H4 := lxSet H1.out u4
          rw [HSET.out] at H4
          have H4' := Lib.hid H4
          clear H4 u4 HBK HSET hcell
          go_wp2_with fail
          go_loopw [10] (fun s10 wr => ∃ (i : Nat) (L1 : List Fy), s10 = .int .i64 (i : Int) ∧ i ≤ v ∧ Hid (L1.map (·.since) = al26 n pf t t ++ List.replicate i t) ∧ Hid (LX w wr gC n t L1 g8 (W60 (pa26 pf (t + 1))))) (fun s10 _ => v - (intOf s10).toNat)
          case atStart => exact ⟨0, L, rfl, by omega, by show _ = _; rw [HL.out]; simp, H4'⟩
          case round =>
            clear H4' H1
            obtain ⟨i, L1, rfl, hi, HL1, H5⟩ := hrel
            have kv : wr.cell? ⟨g8, t, none⟩ = some (.int .i64 (v : Int)) := (H5.out.blk.cell t).trans (by rw [W60_get _ t (by omega)]; unfold pa26; rw [if_pos (by omega), HV.out])
            by_cases hiv : i < v
            · have d4 : decide ((i : Int) < (v : Int)) = true := by simp; omega
              have d4' : decide (i < v) = true := by simp; omega
              have hl1 : L1.length < 4096 := by
                have h1 : L1.length = (al26 n pf t t).length + i := by
                  have := congrArg List.length HL1.out
                  rw [List.length_map, List.length_append, List.length_replicate] at this
                  exact this
                have := al26_len n pf HP3.out t t
                omega
              have HL2 : Hid (∀ x : Fy, x.since = t → (L1 ++ [x]).map (·.since) = al26 n pf t t ++ List.replicate (i + 1) t) := fun x hx => by
                rw [List.map_append, HL1.out, List.append_assoc]; congr 1
                rw [List.replicate_succ']; simp [hx]
              have CP : Hid (∀ W' A, Below wr.heap.size wr W' → Rd W' W'.heap.size (some ⟨A, 0, none⟩) 1 (U8 [t]) → Calls Try.prog 34 #[.pointer (some ⟨gC, 0, none⟩), .slice (some ⟨A, 0, none⟩) 1 1] W' fun e w' => e = .returned (.tuple #[]) ∧ LX w w' gC n t (L1 ++ [⟨str [t], str [t], t⟩]) g8 (W60 (pa26 pf (t + 1)))) :=
                fun W' A hb hr => lxPut w wr W' gC n t L1 g8 _ _ 1 1 [t] H5.out hb hl1 hr (fun e => by cases e)
              have e8 : IntKind.u8.wrap (t : Int) = (t : Int) := by rw [IntKind.wrap_u8]; omega
              clear hl1
              go_wp2_with (go_at_call 34; refine (CP.out _ wr.heap.size ((Below.refl _ _).alloc (Nat.le_refl _) _) (rd_block wr 5 #[.int .u8 (t : Int)] _ (U8 [t]) 1 rfl rfl)).mono ?_; rintro e w5 ⟨rfl, h5⟩)
              go_roundw
              case rel => exact ⟨i + 1, _, by go_num, by omega, HL2.out _ rfl, h5⟩
              case measure => simp [intOf]; omega
            · obtain rfl : i = v := by omega
              have d4 : decide ((i : Int) < (i : Int)) = false := by simp
              go_wp2_with fail
              go_meet
              case rel => exact ⟨L1, by show _ = _; rw [HL1.out, al26_succ, if_pos (by omega), HV.out], H5⟩
        · have hp0 := HPF.out t hc
          have HW : Hid (W60 (pa26 pf (t + 1)) = W60 (pa26 pf t)) := W60_ext _ _ (fun k => by
            unfold pa26
            by_cases h : k < t
            · rw [if_pos h, if_pos (by omega)]
            · rw [if_neg h]
              by_cases h2 : k = t
              · rw [h2, if_pos (by omega), hp0]
              · rw [if_neg (by omega)])
          have HL1 : Hid (L.map (·.since) = al26 n pf (t + 1) t) := by unfold Hid; rw [al26_succ, HL.out, hp0]; simp
          have H5 : Hid (LX w wr gC n t L g8 (W60 (pa26 pf (t + 1)))) := by unfold Hid; rw [HW.out]; exact H1.out
          clear H1 HW hp0
          obtain rfl : bb = false := by rw [hbb]; simp; omega
          clear hc hbb
          go_wp2_with fail
          go_meet
          case rel => exact ⟨L, HL1, H5⟩
      case rest =>
        clear H1
        obtain ⟨L1, HL1, H5⟩ := hcut
        obtain ⟨t1, ht1⟩ : ∃ t1, t1 = t + 1 := ⟨_, rfl⟩
        have et : (t : Int) + 1 = (t1 : Int) := by omega
        have HX : Hid ((lives n t1 L1).map (·.since) = al26 n pf t1 t1) := by unfold Hid; rw [lives_map, HL1.out, ht1, al26_on]
        have hl1 : L1.length = (al26 n pf (t + 1) t).length := by rw [← HL1.out, List.length_map]
        have hl2 : (lives n t1 L1).length = (al26 n pf (t + 1) (t + 1)).length := by rw [← ht1, ← HX.out, List.length_map]
        have hgone := al26_gone n pf (t + 1) t
        have hall := al26_len n pf HP3.out (t + 1) t
        have CS := lxStep w wc gC n t L1 g8 _ H5.out (by omega) (by omega) (by omega) (fun x hx => by
          have := al26_lt n pf (t + 1) t x.since (by rw [← HL1.out]; exact List.mem_map.2 ⟨x, hx, rfl⟩)
          omega)
        rw [← ht1] at CS
        by_cases hn : n ≤ t + 1
        · obtain ⟨j, hj⟩ : ∃ j, j = t + 1 - n := ⟨_, rfl⟩
          have hjt : j < t + 1 := by omega
          have hdf : L1.length - (lives n t1 L1).length = pf j := by
            rw [← hj, if_pos ⟨hn, hjt⟩] at hgone
            omega
          rw [hdf] at CS
          have HCS := Lib.hid CS
          have ej : (t1 : Int) - (n : Int) = (j : Int) := by omega
          have kj : wc.cell? ⟨g8, j, none⟩ = some (.int .i64 (pf j : Int)) := (H5.out.blk.cell j).trans (by rw [W60_get _ j (by omega)]; unfold pa26; rw [if_pos hjt])
          have ix := fun W => run_idx (P := Try.prog) (sz := 1) Try.underlying88 (by kernel_rfl) g8 0 j (by omega) .i64 W
          simp only [Nat.zero_add, Nat.one_mul] at ix
          have d2 : decide ((t1 : Int) ≥ (n : Int)) = true := by simp; omega
          have d2' : decide ((n : Int) ≤ (t1 : Int)) = true := by simp; omega
          have d2'' : decide (n ≤ t1) = true := by simp; omega
          have hw : ((pf j : Int) != (pf j : Int)) = false := by simp
          have ht40 : t1 ≤ 40 := by omega
          clear CS hgone hall hl1 hl2 hdf hj hn ht1
          generalize pf j = pj at *
          go_wp2_with (go_at_call 37; refine HCS.out.mono ?_; rintro e w6 ⟨rfl, h6⟩)
          go_roundw
          case rel => exact ⟨t1, _, by go_num, ht40, HX, h6⟩
          case measure => simp [intOf]; omega
        · have hdf : L1.length - (lives n t1 L1).length = 0 := by
            rw [if_neg (by omega)] at hgone
            omega
          rw [hdf] at CS
          have HCS := Lib.hid CS
          have d2 : decide ((t1 : Int) ≥ (n : Int)) = false := by simp; omega
          have d2' : decide ((n : Int) ≤ (t1 : Int)) = false := by simp; omega
          have d2'' : decide (n ≤ t1) = false := by simp; omega
          have ht40 : t1 ≤ 40 := by omega
          clear CS hgone hall hl1 hl2 hdf hn ht1
          go_wp2_with (go_at_call 37; refine HCS.out.mono ?_; rintro e w6 ⟨rfl, h6⟩)
          go_roundw
          case rel => exact ⟨t1, _, by go_num, ht40, HX, h6⟩
          case measure => simp [intOf]; omega
    · obtain rfl : t = 40 := by omega
      have hL0 : L.length = 0 := by
        have h1 : al26 n pf 40 40 = [] := by
          apply List.eq_nil_iff_forall_not_mem.2
          intro s hs
          unfold al26 at hs
          obtain ⟨k, hk, h⟩ := List.mem_flatMap.1 hs
          split at h
          · rename_i hkn
            have hk0 : pf k = 0 := HPF.out k (by omega)
            rw [hk0] at h; cases h
          · cases h
        have := congrArg List.length HL.out
        rw [h1, List.length_map] at this
        exact this
      obtain ⟨P, c1, c2, c3⟩ := H1.out.ch
      have CL := chLen wr P gC n 40 L c1
      rw [hL0] at CL
      have HC := Lib.hid CL
      have HB := Lib.hid H1.out.bel
      clear CL c1 hL0
      go_wp2_with (go_at_call 41; refine HC.out.mono ?_; rintro e w6 ⟨rfl, rfl⟩)
      go_ret
      exact ⟨rfl, HB.out⟩
end Go.Proofs.Ytkmacepodomdmaa
