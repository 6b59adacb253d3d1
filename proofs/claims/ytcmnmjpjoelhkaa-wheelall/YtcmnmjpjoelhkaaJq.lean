/-
  Layer 19 (what is due at which tick): the walk of WheelAll.
-/
import Derived.Test.YtcmnmjpjoelhkaaJo
namespace Go.Proofs.Ytcmnmjpjoelhkaa
open Go.RowKit
set_option linter.unusedVariables false
set_option linter.unusedSimpArgs false
set_option maxRecDepth 100000

/-- In how many ticks a number is due. -/
def vv (zs : List Int) (i : Nat) : Nat := 1 + ((zs.getD i 0) % 18446744073709551616).toNat % 90
theorem vv_le (zs : List Int) (i : Nat) : 1 ≤ vv zs i ∧ vv zs i ≤ 90 := by unfold vv; omega
/-- All that are set, those that are due from a tick on, those that are due at it. -/
def AL (zs : List Int) (m : Nat) : List (Nat × Nat) := (List.range m).map fun i => (i, vv zs i)
def tl (zs : List Int) (m t : Nat) : List (Nat × Nat) := (AL zs m).filter fun p => decide (t ≤ p.2)
def dl (zs : List Int) (m t : Nat) : List Nat := (List.range m).filter fun i => vv zs i == t
def ct (zs : List Int) (m t : Nat) : Nat := ((List.range m).filter fun i => decide (vv zs i < t)).length
theorem AL_mem (zs : List Int) (m a t : Nat) : (a, t) ∈ AL zs m ↔ a < m ∧ vv zs a = t := by
  unfold AL
  rw [List.mem_map]
  constructor
  · rintro ⟨i, hi, e⟩
    injection e with e1 e2
    subst e1
    exact ⟨List.mem_range.1 hi, e2⟩
  · rintro ⟨h1, h2⟩
    exact ⟨a, List.mem_range.2 h1, by rw [h2]⟩
theorem AL_len (zs : List Int) (m : Nat) : (AL zs m).length = m := by simp [AL]
theorem AL_set (zs : List Int) (i : Nat) : setL (AL zs i) i (vv zs i) = AL zs (i + 1) := by
  have h : dropL (AL zs i) i = AL zs i := by
    refine drop_none_of ?_
    rw [List.any_eq_false]
    rintro ⟨a, t⟩ hp he
    have h1 := ((AL_mem zs i a t).1 hp).1
    have h2 : a = i := by simpa using he
    omega
  unfold setL
  rw [h]
  unfold AL
  rw [List.range_succ, List.map_append]
  rfl
theorem tl_one (zs : List Int) (m : Nat) : tl zs m 1 = AL zs m := by
  unfold tl
  rw [List.filter_eq_self]
  rintro ⟨a, t⟩ hp
  have h := ((AL_mem zs m a t).1 hp).2
  have := vv_le zs a
  simp; omega
theorem tl_rest (zs : List Int) (m t : Nat) : restL (tl zs m t) t = tl zs m (t + 1) := by
  unfold restL tl
  rw [List.filter_filter]
  refine List.filter_congr fun p _ => ?_
  rw [Bool.eq_iff_iff]
  simp
  omega
theorem tl_len (zs : List Int) (m t : Nat) : (tl zs m t).length ≤ m := by
  have h1 := List.length_filter_le (fun p : Nat × Nat => decide (t ≤ p.2)) (AL zs m)
  rw [AL_len] at h1
  exact h1
theorem tl_end (zs : List Int) (m : Nat) : tl zs m 91 = [] := by
  unfold tl
  rw [List.filter_eq_nil_iff]
  rintro ⟨a, t⟩ hp
  have h := ((AL_mem zs m a t).1 hp).2
  have := vv_le zs a
  simp; omega
theorem dl_due (zs : List Int) (m t : Nat) : Due (tl zs m t) t (dl zs m t) := by
  refine ⟨List.Pairwise.filter _ List.pairwise_lt_range, fun a => ?_⟩
  unfold dl tl
  rw [List.mem_filter, List.mem_range, List.mem_filter, AL_mem]
  simp
theorem dl_at {zs : List Int} {m t k : Nat} (h : k < (dl zs m t).length) : (dl zs m t).getD k 0 < m ∧ vv zs ((dl zs m t).getD k 0) = t := by
  have h1 : (dl zs m t).getD k 0 ∈ dl zs m t := by rw [Bm.getD_lt _ _ _ h]; exact List.getElem_mem h
  generalize (dl zs m t).getD k 0 = x at h1
  unfold dl at h1
  rw [List.mem_filter, List.mem_range] at h1
  exact ⟨h1.1, by simpa using h1.2⟩
theorem dl_lt {zs : List Int} {m t k : Nat} (h : k < (dl zs m t).length) (h0 : 0 < k) : (dl zs m t).getD (k - 1) 0 < (dl zs m t).getD k 0 := by
  rw [Bm.getD_lt _ _ _ h, Bm.getD_lt _ _ _ (show k - 1 < _ by omega)]
  exact List.pairwise_iff_getElem.1 (dl_due zs m t).rise (k - 1) k (by omega) h (by omega)
theorem count_split (f : Nat → Nat) (t : Nat) : ∀ l : List Nat, (l.filter fun i => decide (f i < t + 1)).length = (l.filter fun i => decide (f i < t)).length + (l.filter fun i => f i == t).length
  | [] => rfl
  | x :: l => by
    have ih := count_split f t l
    simp only [List.filter_cons]
    by_cases h1 : f x = t
    · simp [h1]; simpa using by omega
    · by_cases h2 : f x < t
      · have : f x < t + 1 := by omega
        simp [h1, h2, this]; simpa using by omega
      · have : ¬ f x < t + 1 := by omega
        simp [h1, h2, this]; simpa using ih
theorem ct_succ (zs : List Int) (m t : Nat) : ct zs m (t + 1) = ct zs m t + (dl zs m t).length := count_split _ _ _
theorem ct_one (zs : List Int) (m : Nat) : ct zs m 1 = 0 := by
  unfold ct
  rw [List.length_eq_zero_iff, List.filter_eq_nil_iff]
  intro i _
  have := vv_le zs i
  simp; omega
theorem ct_end (zs : List Int) (m : Nat) : ct zs m 91 = m := by
  unfold ct
  rw [List.filter_eq_self.2 (fun i _ => by have := vv_le zs i; simp; omega), List.length_range]
theorem u64_is (z : Int) : IntKind.u64.wrap z = (((z % 18446744073709551616).toNat : Nat) : Int) := by
  rw [IntKind.wrap_u64]; omega

set_option maxHeartbeats 1000000 in
/-- WheelAll: the walk. -/
theorem wheelAll (HSort : SortOk) (A : Option Addr) (n c : Nat) (zs : List Int) (w : World) (hz : Rd w w.heap.size A n (I64 zs)) (hn : n ≤ 9223372036854775807) :
    Calls Try.prog 6 #[.slice A n c] w fun e w' => e = .returned (.bool true) ∧ Below w.heap.size w w' := by
  have HS := Lib.hid HSort
  have CN := Lib.hid (lwNew w w (Below.refl _ _))
  have CT := Lib.hid (wTurns HSort)
  clear HSort
  obtain ⟨m, hm1, hm2, hm3⟩ := min_if n 20
  have f1 := (hm3 20 rfl).1
  have f2 := (hm3 20 rfl).2
  clear hm3
  have CS : Hid (∀ (W : World) (gW i y : Nat), i < 20 → y = vv zs i → LW w W gW 0 (AL zs i) → Calls Try.prog 23 #[.pointer (some ⟨gW, 0, none⟩), .int .u16 (i : Int), .int .i64 (y : Int)] W fun e w' => e = .returned (.int .i64 0) ∧ LW w w' gW 0 (AL zs (i + 1))) :=
    fun W gW i y hi hy h => (lwSet w W gW 0 i y (AL zs i) h (by have := vv_le zs i; omega) (by omega) (by rw [AL_len]; omega) (by omega)).mono fun e w' ⟨h1, h2⟩ => ⟨h1, by rw [Nat.zero_add, hy, AL_set] at h2; exact h2⟩
  go_enter Try.func6, Try.ntmps6
  go_wp2_with (first
    | (go_at_call 28; refine CN.out.mono ?_; rintro e w1 ⟨gW, rfl, hl1⟩)
    | (go_at_call 21; refine (CT.out _).mono ?_; rintro e w2 ⟨rfl, hb2⟩; have hl2 := hl1.after hb2))
  have H2 : Hid (LW w w2 gW 0 (AL zs 0)) := hl2
  clear hl1 hb2 hl2 f1 f2
  go_loopw [5] (fun si wr => ∃ i : Nat, si = .int .i64 (i : Int) ∧ i ≤ m ∧ Hid (LW w wr gW 0 (AL zs i))) (fun si _ => m - (intOf si).toNat)
  case atStart => exact ⟨0, rfl, by omega, H2⟩
  case round =>
    clear H2
    obtain ⟨i, rfl, hi, H1⟩ := hrel
    by_cases hlt : i < m
    · obtain ⟨b, off, hA, hb, hcell⟩ := (hz.below H1.out.bel).cell64 i (by omega)
      obtain ⟨z, hzz⟩ : ∃ z, z = zs.getD i 0 := ⟨_, rfl⟩
      rw [← hzz] at hcell
      have hu2 := u64_is z
      obtain ⟨uu, huu⟩ : ∃ uu, uu = (z % 18446744073709551616).toNat := ⟨_, rfl⟩
      rw [← huu] at hu2
      have hub : uu < 18446744073709551616 := by omega
      obtain ⟨y, hy⟩ : ∃ y : Nat, y = 1 + uu % 90 := ⟨_, rfl⟩
      have HY : Hid (y = vv zs i) := by unfold vv; rw [← hzz, ← huu]; exact hy
      have hy3 : 1 + (uu : Int) % 90 = (y : Int) := by omega
      have ew : IntKind.u16.wrap (i : Int) = (i : Int) := by rw [IntKind.wrap_u16]; omega
      clear hzz huu hy
      subst hA
      go_wp2_with (first | (go_at_call 23; refine (CS.out _ _ i y (by omega) HY.out H1.out).mono ?_; rintro e w4 ⟨rfl, hl4⟩))
      go_roundw
      case rel => exact ⟨i + 1, by go_num, by omega, hl4⟩
      case measure => simp [intOf]; omega
    · obtain rfl : i = m := by omega
      have CK : Hid (∀ (W : World) (t : Nat), 1 ≤ t → t ≤ 200 → LW w W gW (t - 1) (tl zs i t) → Calls Try.prog 25 #[.pointer (some ⟨gW, 0, none⟩)] W fun e w' => ∃ A c, e = .returned (.slice A (dl zs i t).length c) ∧ Rd w' w'.heap.size A (dl zs i t).length (N16 (dl zs i t)) ∧ LW w w' gW (t + 1 - 1) (tl zs i (t + 1))) := by
        intro W t h1 h2 hW
        refine (lwTick HS.out w W gW (t - 1) t _ hW (by omega) (by have := tl_len zs i t; omega) (by omega)).mono ?_
        rintro e w' ⟨A, c, l, he, hd, hr, hl⟩
        rw [tl_rest] at hl
        have el : l = dl zs i t := hd.uniq (dl_due zs i t)
        subst el
        exact ⟨A, c, he, hr, hl⟩
      have H1' : Hid (LW w wr gW (1 - 1) (tl zs i 1)) := by
        show LW w wr gW 0 _
        rw [tl_one]; exact H1.out
      have HC1 : Hid (0 = ct zs i 1) := (ct_one zs i).symm
      clear H1
      go_wp2_with fail
      go_loopw [6, 7] (fun s6 st wr => ∃ t seen : Nat, s6 = .int .i64 (seen : Int) ∧ st = .int .i64 (t : Int) ∧ 1 ≤ t ∧ t ≤ 91 ∧ Hid (seen = ct zs i t) ∧ seen ≤ 2000 ∧ Hid (LW w wr gW (t - 1) (tl zs i t))) (fun _ st _ => 91 - (intOf st).toNat)
      case atStart => exact ⟨1, 0, rfl, rfl, by omega, by omega, HC1, by omega, H1'⟩
      case round =>
        clear H1' HC1
        obtain ⟨t, seen, rfl, rfl, ht1, ht2, HC, hseen, H1⟩ := hrel
        by_cases hlt9 : t ≤ 90
        · go_wp2_with (go_at_call 25; refine (CK.out _ t ht1 (by omega) H1.out).mono ?_; rintro e w5 ⟨A5, c5, rfl, hr5, hl5⟩)
          have HCS := Lib.hid (ct_succ zs i t)
          have HAT := Lib.hid (fun k (h : k < (dl zs i t).length) => dl_at h)
          have HLT := Lib.hid (fun k (h : k < (dl zs i t).length) (h0 : 0 < k) => dl_lt h h0)
          have hk20 : (dl zs i t).length ≤ 20 := by
            have h1 := List.length_filter_le (fun j => vv zs j == t) (List.range i)
            rw [List.length_range] at h1
            exact Nat.le_trans h1 hm1
          have hsk0 : ct zs i (t + 1) ≤ 20 := by
            have h1 := List.length_filter_le (fun j => decide (vv zs j < t + 1)) (List.range i)
            rw [List.length_range] at h1
            exact Nat.le_trans h1 hm1
          have HSK := Lib.hid hsk0
          clear hsk0
          generalize dl zs i t = ls at hr5 HCS HAT HLT hk20 ⊢
          obtain ⟨nl, hnl⟩ : ∃ nl, nl = ls.length := ⟨_, rfl⟩
          rw [← hnl] at hr5 HCS HAT HLT hk20 ⊢
          have HR5 := Lib.hid hr5
          have H5 := Lib.hid hl5
          clear hr5 hl5 H1 hnl
          go_loopw [6, 9] (fun s6 sk wr => ∃ k : Nat, s6 = .int .i64 ((seen + k : Nat) : Int) ∧ sk = .int .i64 (k : Int) ∧ k ≤ nl ∧ Hid (Rd wr wr.heap.size A5 nl (N16 ls)) ∧ Hid (LW w wr gW (t + 1 - 1) (tl zs i (t + 1)))) (fun _ sk _ => nl - (intOf sk).toNat)
          case atStart => exact ⟨0, rfl, rfl, by omega, HR5, H5⟩
          case round =>
            clear HR5 H5
            obtain ⟨k, rfl, rfl, hk, HR, H1⟩ := hrel
            by_cases hlk : k < nl
            · obtain ⟨b5, o5, hA5, hb5, hc5⟩ := HR.out.cell16 k hlk
              obtain ⟨hx1, hx2⟩ := HAT.out k hlk
              obtain ⟨x, hx⟩ : ∃ x, x = ls.getD k 0 := ⟨_, rfl⟩
              rw [← hx] at hc5 hx1 hx2
              obtain ⟨b, off, hA, hb, hcell⟩ := (hz.below H1.out.bel).cell64 x (by omega)
              obtain ⟨z, hzz⟩ : ∃ z, z = zs.getD x 0 := ⟨_, rfl⟩
              unfold vv at hx2
              rw [← hzz] at hcell hx2
              have hu2 := u64_is z
              obtain ⟨uu, huu⟩ : ∃ uu, uu = (z % 18446744073709551616).toNat := ⟨_, rfl⟩
              rw [← huu] at hu2 hx2
              have hub : uu < 18446744073709551616 := by omega
              have hy3 : 1 + (uu : Int) % 90 = (t : Int) := by omega
              have d1 : decide ((i : Int) ≤ (x : Int)) = false := decide_eq_false (by omega)
              have d1' : decide (i ≤ x) = false := decide_eq_false (by omega)
              have d2 : ((t : Int) != (t : Int)) = false := by simp
              obtain ⟨y, hy⟩ : ∃ y, y = ls.getD (k - 1) 0 := ⟨_, rfl⟩
              subst hA hA5
              clear hzz huu hx2
              by_cases hk0 : k = 0
              · have d3 : decide ((k : Int) > 0) = false := decide_eq_false (by omega)
                have d3' : decide (0 < k) = false := decide_eq_false (by omega)
                clear hk0 hx hy
                go_wp2_with fail
                go_big_quiet (fail)
                go_wp2_with fail
                go_roundw
                case rel => exact ⟨k + 1, by first | go_num | (congr 1; omega), by go_num, by omega, HR.out.below (below_drawn _), H1.out.draw _⟩
                case measure => simp [intOf]; omega
              · have hyx : y < x := by rw [hy, hx]; exact HLT.out k hlk (by omega)
                have d3 : (k : Int) > 0 := by omega
                have d3' : 0 < k := by omega
                obtain ⟨b6, o6, hA6, hb6, hc6⟩ := HR.out.cell16 (k - 1) (by omega)
                rw [← hy] at hc6
                injection hA6 with hA6
                injection hA6 with hA6 hA7
                subst hA6 hA7
                have d4 : decide ((x : Int) ≤ (y : Int)) = false := decide_eq_false (by omega)
                have d4' : decide (x ≤ y) = false := decide_eq_false (by omega)
                have ek : ((k : Int) - 1).toNat = k - 1 := by omega
                clear hk0 hx hy
                go_wp2_with fail
                go_big_quiet (fail)
                go_wp2_with fail
                go_roundw
                case rel => exact ⟨k + 1, by first | go_num | (congr 1; omega), by go_num, by omega, HR.out.below (below_drawn _), H1.out.draw _⟩
                case measure => simp [intOf]; omega
            · obtain rfl : k = nl := by omega
              have hsk : seen + k ≤ 2000 := by
                have h1 := HSK.out
                rw [HCS.out, ← HC.out] at h1
                omega
              go_wp2_with fail
              go_roundw
              case rel => exact ⟨t + 1, seen + k, rfl, by go_num, by omega, by omega, by show _ = _; rw [HCS.out, ← HC.out], hsk, H1⟩
              case measure => simp [intOf]; omega
        · obtain rfl : t = 91 := by omega
          have HSE : Hid (seen = i) := by rw [HC.out, ct_end]; rfl
          have es : ((seen : Int) == (i : Int)) = true := by rw [HSE.out]; simp
          have CL : Hid (Calls Try.prog 27 #[.pointer (some ⟨gW, 0, none⟩)] wr fun e w' => e = .returned (.int .i64 0) ∧ wr = w') := by
            have := lwLen w wr gW _ _ H1.out
            rw [tl_end] at this
            exact this
          go_wp2_with (go_at_call 27; refine CL.out.mono ?_; rintro e w5 ⟨rfl, rfl⟩)
          go_ret
          exact ⟨rfl, H1.out.bel⟩
end Go.Proofs.Ytcmnmjpjoelhkaa
