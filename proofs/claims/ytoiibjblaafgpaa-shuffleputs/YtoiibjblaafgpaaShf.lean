/-
  The walk of ShufflePuts.
-/
import Derived.Test.YtoiibjblaafgpaaShe
import Derived.Test.YtoiibjblaafgpaaArg
namespace Go.Proofs.Ytoiibjblaafgpaa
open Go.RowKit
set_option maxRecDepth 100000
set_option linter.unusedVariables false
set_option linter.unusedSimpArgs false
set_option maxRecDepth 100000

set_option maxHeartbeats 2000000 in
/-- ShufflePuts: the walk. -/
theorem shufflePuts (A : Option Addr) (n0 c0 : Nat) (xs : List Nat) (rows : Int) (w : World) (hr0 : Rd w w.heap.size A n0 (U8 xs)) (hxs : ∀ b ∈ xs, b < 256) (hnc : n0 ≤ c0) (hc0 : c0 ≤ 9223372036854775807) (hnone : A = none → n0 = 0 ∧ c0 = 0) :
    Calls Try.prog 7 #[.slice A n0 c0, .int .i64 rows] w fun e w' => e = .returned (.bool true) ∧ Below w.heap.size w w' := by
  obtain ⟨i0, hi0, hz0, hz1, hz2⟩ := info_parts info5
  obtain ⟨n, hk, hk2, hk3⟩ := min_if n0 300
  obtain ⟨hm1, hm2⟩ := hk3 300 rfl
  clear hk3
  have r1 := hr0.cut8 n hk2
  have hlb : ∀ b ∈ xs.take n, b < 256 := take256 hxs n
  generalize xs.take n = l at *
  have bel0 : Below w.heap.size w (w.alloc (.cells #[] 5)) := (Below.refl _ _).alloc (Nat.le_refl _) _
  have hn2 : A = none → n = 0 ∧ c0 = 0 := fun h => ⟨by have := (hnone h).1; omega, (hnone h).2⟩
  have o1 : Own (w.alloc (.cells #[] 5)) w.heap.size 5 (some ⟨w.heap.size, 0, none⟩) 0 0 [] := ⟨World.ownsRow_made w #[] 0 (Nat.le_refl _) (by unfold maxLen; omega) (by simp)⟩
  have CS := Lib.hid shuffles
  have HLB := Lib.hid hlb
  clear hr0 hxs hnone hlb
  go_enter Try.func7, Try.ntmps7
  go_upto_region 2 with (at_builtin; refine wpList_app _ rfl _ _ 26 rfl w.heap.size 5 i0 _ 1 Try.underlying26 hi0 hz0 hz1 hz2 rfl _ 0 0 [] rfl o1 w.heap.size A n c0 (U8 l) rfl (r1.below bel0) hn2 (U8_one l) (by omega) (by unfold maxLen; omega) bel0.size ?_; intro A1 c1 w1 hown1 hgrow1)
  have own1 := hown1.to (Nat.zero_add n) (List.nil_append (U8 l))
  have b1 : Below w.heap.size w w1 := bel0.grown hgrow1 bel0.size (fun j hj => by simp [Value.ownBlock] at hj; omega)
  have rl := own1.rd
  have HN := Lib.hid rl.len8
  have hA1 := own1.none_
  have HKC : Hid (∀ W, Below w1.heap.size w1 W → (convert 26 9 (.slice A1 n c1)).run Try.prog W = .ok (.string (str l)) W) := fun W hW => own1.conv W hW
  have kc1 := HKC.out w1 (Below.refl _ _)
  obtain ⟨s, hs⟩ : ∃ s, s = str l := ⟨_, rfl⟩
  have HS := Lib.hid hs
  rw [← hs] at kc1 HKC
  have ts1 : (s.toList != s.toList) = false := by simp
  have ts2 : (s.toList == s.toList) = true := by simp
  clear hs hown1 hgrow1 o1 hi0 hz0 hz1 hz2 bel0 r1
  by_cases hok : 1 ≤ rows ∧ rows ≤ 64
  · obtain ⟨R, rfl⟩ : ∃ R : Nat, rows = (R : Int) := ⟨rows.toNat, by omega⟩
    have hR : 1 ≤ R ∧ R ≤ 64 := by omega
    have C1 := Lib.hid (shPut n R A1 c1 l w1 rl (by omega) hR)
    have C2 := Lib.hid (fun W h => shTake n R A1 c1 l W h (by omega) hR)
    have C3 := Lib.hid (fun W => refRight33 n R W (by omega) hR)
    have C4 := Lib.hid (fun W => refOrder33 n R W (by omega) hR)
    have C5 := Lib.hid (fun g W P h => shTake n R (some ⟨g, 0, none⟩) n P W h (by omega) hR)
    have C6 := Lib.hid (fun g W T h => shPut n R (some ⟨g, 0, none⟩) n T W h (by omega) hR)
    have HO := Lib.hid (ord_all n R hR.1)
    generalize Sh.ordl n (wd n R) = O at *
    clear hok
    go_upto_region 4 with (go_at_call 45; refine C1.out.mono ?_; rintro e w2 ⟨g6, rfl, q6, lo6, ln6, b2⟩)
    have rl2 := (rl.below b2).up b2.size
    have C2' := Lib.hid (C2.out w2 rl2)
    clear C1 C2
    go_upto_region 5 with (go_at_call 46; refine C2'.out.mono ?_; rintro e w3 ⟨T, HT, g8, rfl, q8, lo8, ln8, b3⟩)
    have HTT := Lib.hid HT
    have q63 := q6.after b3
    have b13 := Below.then_ b2 b3
    have kc3 : ∀ W, Below w3.heap.size w3 W → (convert 26 9 (.slice A1 n c1)).run Try.prog W = .ok (.string s) W := fun W hW => HKC.out W (Below.then_ b13 hW)
    have HKC3 := Lib.hid kc3
    clear HT C2' kc3 q6 kc1
    go_upto_region 9 with (first | (go_at_call 41; refine (CS.out _).mono ?_; rintro e w4 ⟨rfl, b4⟩; have kc4 := HKC3.out w4 b4) | (go_at_call 42; refine (C3.out _).mono ?_; rintro e w' ⟨rfl, rfl⟩))
    have q64 := q63.after b4
    have q84 := q8.after b4
    have b14 := Below.then_ b13 b4
    clear kc4 HKC3 q63 q8 b13 CS C3 b4
    go_upto_region 12 with (go_at_call 43; refine (C4.out _).mono ?_; rintro e w5 ⟨A5, c5, rfl, own5, b5⟩)
    have q65 := q64.after b5
    have q85 := q84.after b5
    have b15 := Below.then_ b14 b5
    have r5 := own5.rd
    have rl5 := (rl.below b15).up b15.size
    clear own5 q64 q84 b14 b5 C4
    have lo65 := q65.lt
    have lo85 := q85.lt
    obtain ⟨B, hB⟩ : ∃ B, B = w5.heap.size := ⟨_, rfl⟩
    have HBB := Lib.hid hB
    rw [← hB] at r5 rl5 lo65 lo85
    clear hB
    go_wp2_with fail
    go_loopw [11] (fun x wr => ∃ k : Nat, k ≤ n ∧ x = .int .i64 (k : Int) ∧ Below B w5 wr) (fun x _ => n - (intOf x).toNat)
    case atStart => exact ⟨0, by omega, rfl, Below.refl _ _⟩
    case round =>
      obtain ⟨k, hk, rfl, bel⟩ := hrel
      have q6r := q65.below bel lo65
      have q8r := q85.below bel lo85
      by_cases hlt : k < n
      · have d1 : decide ((k : Int) < (n : Int)) = true := by simp; omega
        obtain ⟨b, off, hA, hlb', ko⟩ := (r5.below bel).cellN k hlt
        subst hA
        have hpn := HO.out.lt k hlt
        have kP := (q6r.cell k).trans (Q8_get _ k (by rw [ln6]; exact hlt))
        rw [Sh.puts_get _ _ _ (by rw [HO.out.len]; exact hlt)] at kP
        have hTk := HTT.out.at_ k hlt
        obtain ⟨p, hp⟩ : ∃ p, p = O.getD k 0 := ⟨_, rfl⟩
        rw [← hp] at ko hpn kP hTk
        have kT := (q8r.cell p).trans (Q8_get _ p (by rw [ln8]; exact hpn))
        rw [hTk] at kT
        clear hp hTk
        obtain ⟨b1', off1, hA, hlb1, kl1⟩ := (rl5.below bel).cell8 k hlt
        subst hA
        obtain ⟨b2', off2, hA, hlb2, kl2⟩ := (rl5.below bel).cell8 p hpn
        injection hA with hA
        injection hA with hA1 hA2
        subst hA1 hA2
        generalize l.getD k 0 = v1 at *
        generalize l.getD p 0 = v2 at *
        have t1 : ((v1 : Int) != (v1 : Int)) = false := by simp
        have t2 : ((v2 : Int) != (v2 : Int)) = false := by simp
        have f1 : (k : Int) < (n : Int) := by omega
        have f2 : (p : Int) < (n : Int) := by omega
        clear q6r q8r
        go_upto_region 15 with fail
        go_quiet (fail)
        go_wp2
        go_roundw
        case rel => exact ⟨k + 1, by omega, by go_num, bel.trans (below_drawn _)⟩
        case measure => simp [intOf] <;> omega
      · have d1 : decide ((k : Int) < (n : Int)) = false := by simp; omega
        have bw := bel.mono (Nat.le_of_eq HBB.out.symm)
        have b1r := b15.trans (bel.mono (by rw [HBB.out]; exact b15.size))
        have C5' := Lib.hid (C5.out g6 wr _ (q6r.rd8 ln6))
        clear C5 q65 q85
        go_upto_region 18 with (go_at_call 46; refine C5'.out.mono ?_; rintro e w6 ⟨X, HX, g12, rfl, q12, lo12, ln12, b6⟩)
        have HXl : Hid (X = l) := Sh.Tk.put HO.out HN.out.symm HX
        rw [HXl.out] at q12 ln12
        have C6' := Lib.hid (C6.out g8 w6 _ ((q8r.after b6).rd8 ln8))
        clear C5' C6 HX
        go_upto_region 19 with (go_at_call 45; refine C6'.out.mono ?_; rintro e w7 ⟨g14, rfl, q14, lo14, ln14, b7⟩)
        have HY : Hid (Sh.puts O T = l) := Sh.Tk.take HO.out HN.out.symm HTT.out
        rw [HY.out] at q14
        have hnm : n ≤ maxLen := by unfold maxLen; omega
        have kX := ((q12.after b7).own8 ln12 (Nat.zero_le _) hnm).conv w7 (Below.refl _ _)
        have kY := (q14.own8 HN.out.symm (Nat.zero_le _) hnm).conv w7 (Below.refl _ _)
        rw [← HS.out] at kX kY
        have bF := Below.then_ (Below.then_ (Below.then_ b1 b1r) b6) b7
        clear q12 q14 b6 b7 C6' q6r q8r bw b1r
        go_wp2
        go_ret
        exact ⟨rfl, bF⟩
  · have hno : (n : Int) < 0 ∨ 65536 < (n : Int) ∨ rows < 1 ∨ 64 < rows := by omega
    have C1 := Lib.hid (fun W => shPutNo n rows A1 c1 W hno)
    have C2 := Lib.hid (fun W => shTakeNo n rows A1 c1 W hno)
    have C3 := Lib.hid (fun W => refRight33No n rows W hno)
    clear hok hno
    go_wp2_with (first | (go_at_call 45; refine (C1.out _).mono ?_; rintro e w2 ⟨rfl, rfl⟩) | (go_at_call 46; refine (C2.out _).mono ?_; rintro e w2 ⟨rfl, rfl⟩) | (go_at_call 41; refine (CS.out _).mono ?_; rintro e w4 ⟨rfl, b4⟩; have kc4 := HKC.out w4 b4) | (go_at_call 42; refine (C3.out _).mono ?_; rintro e w' ⟨rfl, rfl⟩))
    go_ret
    exact ⟨rfl, Below.then_ b1 b4⟩
end Go.Proofs.Ytoiibjblaafgpaa
