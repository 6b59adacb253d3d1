/-
  The walk of ShuttleBursts.
-/
import Derived.Test.YtoiibjblaafgpabShg
import Derived.Test.YtoiibjblaafgpabShe
import Derived.Test.YtoiibjblaafgpabRs
import Derived.Test.YtoiibjblaafgpabArg
namespace Go.Proofs.Ytoiibjblaafgpab
open Go.RowKit
set_option linter.unusedVariables false
set_option linter.unusedSimpArgs false
set_option maxRecDepth 100000

/-- Numbers as an array's cells. -/
def W4 (ws : List Int) : Array Value := (I64 ws).toArray
set_option maxHeartbeats 400000 in
/-- cut. -/
theorem cut200C (A : Option Addr) (n c : Nat) (bs : List Nat) (w : World) (hr : Rd w w.heap.size A n (U8 bs)) (hnc : n ≤ c) (hc : c ≤ 9223372036854775807) (hnone : A = none → n = 0 ∧ c = 0) :
    Calls Try.prog 16 #[.slice A n c, .int .i64 200] w (Made w (bs.take 200)) := by
  obtain ⟨i0, hi0, hz0, hz1, hz2⟩ := info_parts info5
  have hl := hr.len8
  obtain ⟨k, hk, hk2, hk3⟩ := min_if n 200
  obtain ⟨hm1, hm2⟩ := hk3 200 rfl
  clear hk3
  have hkt : bs.take 200 = bs.take k := by
    by_cases h : k = 200
    · rw [h]
    · rw [List.take_of_length_le (by omega), List.take_of_length_le (by omega)]
  rw [hkt]
  have r1 := hr.cut8 k hk2
  generalize bs.take k = ls at *
  have bel0 : Below w.heap.size w (w.alloc (.cells #[] 5)) := (Below.refl _ _).alloc (Nat.le_refl _) _
  have hn2 : A = none → k = 0 ∧ c = 0 := fun h => ⟨by have := (hnone h).1; omega, (hnone h).2⟩
  have o1 : Own (w.alloc (.cells #[] 5)) w.heap.size 5 (some ⟨w.heap.size, 0, none⟩) 0 0 [] := ⟨World.ownsRow_made w #[] 0 (Nat.le_refl _) (by unfold maxLen; omega) (by simp)⟩
  clear hkt hr hl hnone
  go_enter Try.func16, Try.ntmps16
  go_wp2_with (at_builtin; refine wpList_app _ rfl _ _ 22 rfl w.heap.size 5 i0 _ 1 Try.underlying22 hi0 hz0 hz1 hz2 rfl _ 0 0 [] rfl o1 w.heap.size A k c (U8 ls) rfl (r1.below bel0) hn2 (U8_one ls) (by omega) (by unfold maxLen; omega) bel0.size ?_; intro A5 c5 w5 hown5 hgrow5)
  go_ret
  exact ⟨A5, k, c5, rfl, hown5.to (Nat.zero_add k) (List.nil_append (U8 ls)), bel0.grown hgrow5 bel0.size (fun j hj => by simp [Value.ownBlock] at hj; omega)⟩
theorem Own.blkLt_ {w : World} {base : Nat} {e : TypeId} {A : Option Addr} {n c : Nat} {xs : List Value} (h : Own w base e A n c xs) : ∀ k, (Value.slice A n c).ownBlock = some k → base ≤ k ∧ k < w.heap.size := h.block
theorem Own.updNe {w w' : World} {base g : Nat} {e t : TypeId} {A : Option Addr} {n c : Nat} {xs : List Value} {cs : Array Value} (h : Own w base e A n c xs) (hu : Upd w w' g t cs) (hne : ∀ k, (Value.slice A n c).ownBlock = some k → k ≠ g) : Own w' base e A n c xs :=
  ⟨h.row.kept hu.grown (.inr fun hq => hne g hq rfl)⟩
/-- The first ones as bits. -/
def md2 (l : List Nat) (i : Nat) : List Nat := (List.range l.length).map fun k => if k < i then l.getD k 0 % 2 else l.getD k 0
theorem md2_length (l : List Nat) (i : Nat) : (md2 l i).length = l.length := by simp [md2]
theorem md2_get (l : List Nat) (i k : Nat) (hk : k < l.length) : (md2 l i).getD k 0 = if k < i then l.getD k 0 % 2 else l.getD k 0 := by
  rw [Bm.getD_lt _ _ _ (by rw [md2_length]; exact hk)]; simp [md2]
theorem md2_zero (l : List Nat) : md2 l 0 = l := Sh.ext_getD (md2_length _ _) (fun p hp => by rw [md2_length] at hp; rw [md2_get _ _ _ hp, if_neg (by omega)])
theorem md2_step (l : List Nat) (i : Nat) (hi : i < l.length) : (md2 l i).set i (l.getD i 0 % 2) = md2 l (i + 1) := by
  refine Sh.ext_getD (by rw [List.length_set, md2_length, md2_length]) (fun p hp => ?_)
  rw [List.length_set, md2_length] at hp
  rw [Bm.getD_lt _ _ _ (by rw [List.length_set, md2_length]; exact hp), List.getElem_set, md2_get _ _ _ hp]
  by_cases h : i = p
  · rw [if_pos h, if_pos (by omega), h]
  · rw [if_neg h, ← Bm.getD_lt (md2 l i) 0 p (by rw [md2_length]; exact hp), md2_get _ _ _ hp]
    by_cases h2 : p < i
    · rw [if_pos h2, if_pos (by omega)]
    · rw [if_neg h2, if_neg (by omega)]
theorem md2_bit (l : List Nat) : ∀ b ∈ md2 l l.length, b ≤ 1 := by
  intro b hb
  obtain ⟨k, hk, rfl⟩ := List.mem_map.1 hb
  rw [List.mem_range] at hk
  rw [if_pos hk]; omega
set_option maxHeartbeats 4000000 in
/-- ShuttleBursts: the walk. -/
theorem shuttleBursts (A : Option Addr) (n0 c0 : Nat) (xs : List Nat) (rows : Int) (zs : List Int) (w : World) (hr0 : Rd w w.heap.size A n0 (U8 xs)) (hxs : ∀ b ∈ xs, b < 256) (hnc : n0 ≤ c0) (hc0 : c0 ≤ 9223372036854775807) (hnone : A = none → n0 = 0 ∧ c0 = 0) (hz : zs.length = 2) :
    Calls Try.prog 7 #[.slice A n0 c0, .int .i64 rows, .agg (W4 zs)] w fun e w' => e = .returned (.bool true) ∧ Below w.heap.size w w' := by
  obtain ⟨z0, z1, rfl⟩ : ∃ z0 z1, zs = [z0, z1] := by
    match zs, hz with
    | [a, b], _ => exact ⟨a, b, rfl⟩
  have CC := Lib.hid (fun W hr => cut200C A n0 c0 xs W hr hnc hc0 hnone)
  obtain ⟨u, hu, hu2⟩ := wrap_u64 rows
  obtain ⟨R, hR1, hR2, hR3⟩ : ∃ R : Nat, 2 ≤ R ∧ R ≤ 11 ∧ 2 + (u : Int) % 10 = (R : Int) := ⟨2 + u % 10, by omega, by omega, by omega⟩
  have CST := Lib.hid stands
  have HR0 := Lib.hid hr0
  have HXL : Hid ((xs.take 200).length ≤ 200) := by unfold Hid; rw [List.length_take]; omega
  clear hr0 hnone hz
  go_enter Try.func7, Try.ntmps7
  go_upto_region 3 with (first
    | (refine at_box rfl 40 _ rfl (W4 [z0, z1]) rfl ?_; intro w1 L1)
    | (go_at_call 16; refine (CC.out w1 ((HR0.out.below L1.bel).up L1.bel.size)).mono ?_; rintro e w2 ⟨A2, n, c2, rfl, o2, b2⟩))
  have q5 := L1.row.after b2
  have b12 := Below.then_ L1.bel b2
  obtain ⟨g5, hg5⟩ : ∃ g, g = w.heap.size := ⟨_, rfl⟩
  have HG5 := Lib.hid hg5
  obtain ⟨B, hB⟩ : ∃ B, B = w1.heap.size := ⟨_, rfl⟩
  have hgB : g5 < B := by rw [hg5, hB, L1.size]; omega
  have HWB : Hid (w.heap.size ≤ B) := by rw [hB, L1.size]; unfold Hid; omega
  rw [← hg5] at q5
  rw [← hg5]
  rw [← hB] at o2
  obtain ⟨ls, hls⟩ : ∃ ls, ls = xs.take 200 := ⟨_, rfl⟩
  rw [← hls] at o2 HXL
  have HN := Lib.hid o2.rd.len8
  have hn200 : n ≤ 200 := by rw [HN.out]; exact HXL.out
  have HLB : Hid (∀ b ∈ ls, b < 256) := by rw [hls]; exact take256 hxs 200
  have o2' : Own w2 B 5 A2 n c2 (U8 (md2 ls 0)) := by rw [md2_zero]; exact o2
  clear hls HXL o2 L1 b2 hg5 hB CC HR0 hR3 hxs
  go_wp2_with fail
  go_loopw [7] (fun s7 wr => ∃ i : Nat, s7 = .int .i64 (i : Int) ∧ i ≤ n ∧ Own wr B 5 A2 n c2 (U8 (md2 ls i)) ∧ Blk wr g5 40 (W4 [z0, z1]) ∧ Below w.heap.size w wr) (fun s7 _ => n - (intOf s7).toNat)
  case atStart => exact ⟨0, rfl, by omega, o2', q5, b12⟩
  case round =>
    clear o2' q5 b12
    obtain ⟨i, rfl, hi, o, q5, bw⟩ := hrel
    by_cases hlt : i < n
    · have d1 : decide ((i : Int) < (n : Int)) = true := by simp; omega
      obtain ⟨g, hA, hbg, hgl, kc, kf, kset⟩ := o.slot i hlt
      subst hA
      have hil : i < ls.length := by rw [← HN.out]; exact hlt
      rw [U8_get _ _ (by rw [md2_length]; exact hil), md2_get _ _ _ hil, if_neg (by omega)] at kc
      have hv : ls.getD i 0 < 256 := by rw [Bm.getD_lt _ _ _ hil]; exact HLB.out _ (List.getElem_mem hil)
      have HST := Lib.hid (md2_step ls i hil)
      have HK := Lib.hid (kset (.int .u8 ((ls.getD i 0 % 2 : Nat) : Int)))
      rw [U8_set, HST.out] at HK
      have t1 : ((ls.getD i 0 : Nat) : Int).tmod 2 = ((ls.getD i 0 % 2 : Nat) : Int) := rfl
      have t1' : ((ls.getD i 0 : Nat) : Int) % 2 = ((ls.getD i 0 % 2 : Nat) : Int) := by simp
      have hv2 : ls.getD i 0 % 2 < 2 := Nat.mod_lt _ (by omega)
      generalize ls.getD i 0 % 2 = v2 at *
      generalize ls.getD i 0 = v at *
      have f1 : (i : Int) < (n : Int) := by omega
      have HQ := Lib.hid q5
      have hne : g5 ≠ g := by omega
      clear kset
      go_wp2
      go_roundw
      case rel => exact ⟨i + 1, by go_num, by omega, HK.out, HQ.out.setOther _ _ hne, bw.setCell (Nat.le_trans HWB.out hbg) _⟩
      case measure => simp [intOf] <;> omega
    · have d1 : decide ((i : Int) < (n : Int)) = false := by simp; omega
      obtain ⟨l, hl⟩ : ∃ l, l = md2 ls ls.length := ⟨_, rfl⟩
      have hin : i = ls.length := by rw [← HN.out]; omega
      rw [hin, ← hl] at o
      have HB1 : Hid (∀ b ∈ l, b ≤ 1) := by rw [hl]; exact md2_bit ls
      have HLN : Hid (l.length = n) := by rw [hl, md2_length, ← HN.out]; exact rfl
      clear hl hin
      have rl := o.rd
      have HO := Lib.hid o
      have CP := Lib.hid (shPut n R A2 c2 l wr rl (by omega) (by omega))
      have C3 := Lib.hid (fun g W P h => shTake n R (some ⟨g, 0, none⟩) n P W h (by omega) (by omega))
      have HBW := Lib.hid bw
      have bacc := bw
      by_cases hn0 : n = 0
      · have t0 : ((n : Int) == 0) = true := by simp [hn0]
        have hn0' : n < 1 := by omega
        clear hn0
        go_wp2_with (first | (go_at_call 17; refine CP.out.mono ?_; rintro e w3 ⟨g8, rfl, q8, lo8, ln8, b3⟩; have bacc := Below.then_ bacc b3) | (go_at_call 18; refine (CST.out _).mono ?_; rintro e w4 ⟨rfl, b4⟩; have bacc := Below.then_ bacc b4))
        go_ret
        exact ⟨rfl, bacc⟩
      · have t0 : ((n : Int) == 0) = false := by simp; omega
        have hn1 : 0 < n := by omega
        -- the table
        have hwp := wd_pos n R (by omega) hn1
        have hwl := wd_le n R (by omega)
        have e1 : (((n : Int) + (R : Int) - 1).tdiv (R : Int)) = ((wd n R : Nat) : Int) := by
          rw [show (n : Int) + (R : Int) - 1 = ((n + R - 1 : Nat) : Int) by omega]
          rfl
        have HOR := Lib.hid (Sh.ord_ordl (n := n) hwp)
        obtain ⟨wide, hwide⟩ : ∃ wide, wide = wd n R := ⟨_, rfl⟩
        have HWD := Lib.hid hwide
        rw [← hwide] at CP C3 hwp hwl e1 HOR
        obtain ⟨q, hq⟩ : ∃ q, q = n / wide := ⟨_, rfl⟩
        have HQ := Lib.hid hq
        have hq1 : 1 ≤ q := by rw [hq]; exact Nat.div_pos hwl hwp
        have hq2 : q ≤ n := by rw [hq]; exact Nat.div_le_self _ _
        have e2 : ((n : Int).tdiv (wide : Int)) = (q : Int) := by rw [hq]; rfl
        have uq : IntKind.u64.wrap (q : Int) = (q : Int) := IntWalk.u64_in _ (by omega)
        have un : IntKind.u64.wrap (n : Int) = (n : Int) := IntWalk.u64_in _ (by omega)
        obtain ⟨u0, hu0, hu02⟩ := wrap_u64 z0
        obtain ⟨u1, hu1, hu12⟩ := wrap_u64 z1
        have e3 : ((u0 : Int) % (q : Int)) = ((u0 % q : Nat) : Int) := by simp
        have e3' : ((u0 : Int).tmod (q : Int)) = ((u0 % q : Nat) : Int) := rfl
        have e4 : ((u1 : Int) % (n : Int)) = ((u1 % n : Nat) : Int) := by simp
        have e4' : ((u1 : Int).tmod (n : Int)) = ((u1 % n : Nat) : Int) := rfl
        have h3 : u0 % q < q := Nat.mod_lt _ hq1
        have h4 : u1 % n < n := Nat.mod_lt _ hn1
        obtain ⟨m, hm⟩ : ∃ m, m = 1 + u0 % q := ⟨_, rfl⟩
        obtain ⟨t3, ht3⟩ : ∃ t3, t3 = u0 % q := ⟨_, rfl⟩
        rw [← ht3] at e3 e3' hm h3
        have em : 1 + (t3 : Int) = (m : Int) := by omega
        have hm1 : 1 ≤ m ∧ m ≤ q := by omega
        obtain ⟨at_, hat⟩ : ∃ at_, at_ = u1 % n := ⟨_, rfl⟩
        rw [← hat] at e4 e4' h4
        have i3 : IntKind.i64.wrap (t3 : Int) = (t3 : Int) := IntWalk.i64_in _ (by omega)
        have i4 : IntKind.i64.wrap (at_ : Int) = (at_ : Int) := IntWalk.i64_in _ (by omega)
        have q0 : ¬ (q : Int) = 0 := by omega
        have n0z : ¬ (n : Int) = 0 := by omega
        have w0z : ¬ (wide : Int) = 0 := by omega
        have R0z : ¬ (R : Int) = 0 := by omega
        obtain ⟨e, he⟩ : ∃ e, e = min (at_ + m) n := ⟨_, rfl⟩
        have HE := Lib.hid he
        have hee : at_ < e ∧ e ≤ n ∧ e ≤ at_ + m := by omega
        have mn1 : (if (n : Int) - (at_ : Int) < (m : Int) then (n : Int) - (at_ : Int) else (m : Int)) = ((e - at_ : Nat) : Int) := by rw [he]; split <;> omega
        have mn2 : min (m : Int) ((n : Int) - (at_ : Int)) = ((e - at_ : Nat) : Int) := by rw [he]; omega
        obtain ⟨O, hOO⟩ : ∃ O, O = Sh.ordl n wide := ⟨_, rfl⟩
        have HOO := Lib.hid hOO
        rw [← hOO] at CP C3 HOR
        clear hOO hn0 hwide hq hm ht3 hat he
        go_upto_region 11 with (first | (go_at_call 17; refine CP.out.mono ?_; rintro e w3 ⟨g8, rfl, q8, lo8, ln8, b3⟩; have bacc := Below.then_ bacc b3; have q53 := q5.after b3) | (go_at_call 18; refine (CST.out _).mono ?_; rintro e w4 ⟨rfl, b4⟩; have bacc := Below.then_ bacc b4; have q54 := q53.after b4; have q84 := q8.after b4))
        have o4 : Own w4 B 5 A2 n c2 (U8 l) := (HO.out.below b3 (Nat.le_refl _)).below b4 (Nat.le_refl _)
        have k50 : w4.cell? ⟨g5, 0, none⟩ = some (.int .i64 z0) := (q54.cell 0).trans rfl
        have k51 : w4.cell? ⟨g5, 1, none⟩ = some (.int .i64 z1) := (q54.cell 1).trans rfl
        have hg8 : g5 < g8 := by have := HO.out; have := q5.lt; omega
        have o8 : ∀ k, (Value.slice A2 n c2).ownBlock = some k → k ≠ g8 := fun k hk => by have := (HO.out.blkLt_ k hk).2; omega
        have HP8 : Hid ((Sh.puts O l).length = n) := ln8
        have HPB : Hid (∀ k, k < n → (Sh.puts O l).getD k 0 ≤ 1) := fun k hk => by
          rw [Sh.puts_get _ _ _ (by rw [HOR.out.len]; exact hk)]
          have := HOR.out.lt k hk
          rw [Bm.getD_lt _ _ _ (by rw [HLN.out]; exact this)]
          exact HB1.out _ (List.getElem_mem _)
        obtain ⟨pt, hpt⟩ : ∃ pt, pt = Sh.puts O l := ⟨_, rfl⟩
        have HPT := Lib.hid hpt
        rw [← hpt] at HP8 HPB q84
        have hw8 : Hid (w.heap.size ≤ g8) := Nat.le_trans HBW.out.size lo8
        have hoN := Lib.hid o8
        have q84' : Blk w4 g8 5 (Q8 (Sh.tog pt at_ at_)) := by rw [Sh.tog_none]; exact q84
        clear q84 q8 q53 q5 q54 b3 b4 CP lo8 ln8 o8 hpt rl HBW bw o
        go_quiet (fail)
        go_wp2_with fail
        have o4' : Own (w4.drewN nq) B 5 A2 n c2 (U8 l) := o4.below (below_drawn (B := w4.heap.size) _) (Nat.le_refl _)
        have q84'' : Blk (w4.drewN nq) g8 5 (Q8 (Sh.tog pt at_ at_)) := q84'.below (below_drawn (B := w4.heap.size) _) q84'.lt
        have bacc' := bacc.trans (below_drawn (B := w.heap.size) nq)
        have HTB : Hid (∀ a b k, k < n → (Sh.tog pt a b).getD k 0 ≤ 1) := fun a b k hk => by
          have h1 := HPB.out k hk
          rw [Sh.tog_get _ _ _ _ (by rw [HP8.out]; exact hk)]
          split
          · generalize pt.getD k 0 = v at *
            match v, h1 with
            | 0, _ => decide
            | 1, _ => decide
          · exact h1
        have HBAC := Lib.hid bacc'
        have HO4 := Lib.hid o4'
        have HQ8 := Lib.hid q84''
        clear e3 e3' e4 e4' em e2 uq un q84' o4 q84'' o4' bacc bacc' k50 k51
        obtain ⟨wp, rfl⟩ : ∃ wp : World, wp = wr := ⟨_, rfl⟩
        go_loopw [13] (fun s13 wr => ∃ j : Nat, s13 = .int .i64 (j : Int) ∧ at_ ≤ j ∧ j ≤ e ∧ Hid (Own wr B 5 A2 n c2 (U8 l)) ∧ Hid (Blk wr g8 5 (Q8 (Sh.tog pt at_ j))) ∧ Hid (Below w.heap.size w wr)) (fun s13 _ => e - (intOf s13).toNat)
        case atStart => exact ⟨at_, rfl, Nat.le_refl _, by omega, HO4, HQ8, HBAC⟩
        case round =>
          clear HO4 HQ8 HBAC
          obtain ⟨j, rfl, hj1, hj2, HO4, HQ8, HBAC⟩ := hrel
          by_cases hje : j < e
          · have d2 : decide ((j : Int) < (at_ : Int) + (m : Int)) = true := by simp; omega
            have d3 : decide ((j : Int) < (n : Int)) = true := by simp; omega
            have hjn : j < n := by omega
            have hjp : j < pt.length := by rw [HP8.out]; exact hjn
            have kc := (HQ8.out.cell j).trans (Q8_get _ j (by rw [Sh.tog_length]; exact hjp))
            have htg : (Sh.tog pt at_ j).getD j 0 = pt.getD j 0 := by rw [Sh.tog_get _ _ _ _ hjp, if_neg (by omega)]
            rw [htg] at kc
            have hpb := HPB.out j hjn
            have HST := Lib.hid (Sh.tog_step pt at_ j hj1 hjp)
            have x1 := u8_xor_nat (pt.getD j 0) 1 (by omega) (by omega)
            have x1' : bits BinOp.xor IntKind.u8 ((pt.getD j 0 : Nat) : Int) 1 = ((pt.getD j 0 ^^^ 1 : Nat) : Int) := x1
            generalize pt.getD j 0 ^^^ 1 = v2 at *
            generalize pt.getD j 0 = v at *
            have sz : j < (Q8 (Sh.tog pt at_ j)).size := by rw [Q8_size, Sh.tog_length]; exact hjp
            have f1 : (j : Int) < (n : Int) := by omega
            have hq8 := HQ8.out
            clear x1 htg hjp
            go_wp2_with (refine at_cell rfl 5 _ _ rfl g8 j (.int .u8 (v2 : Int)) rfl rfl 5 _ hq8 sz cell8one rfl ?_; intro w6 h6)
            go_roundw
            case rel =>
              refine ⟨j + 1, by go_num, by omega, by omega, HO4.out.updNe h6 hoN.out, ?_, HBAC.out.trans (h6.below hw8.out)⟩
              rw [← HST.out, ← Q8_set]
              exact h6.row
            case measure => simp [intOf] <;> omega
          · have hje2 : j = e := by omega
            rw [hje2] at HQ8
            have HW := Lib.hid HBAC.out
            have hq8 := HQ8.out
            have CT3 := Lib.hid (C3.out g8 wr _ (hq8.rd8 (by rw [Sh.tog_length, HP8.out])))
            have d23 : (decide ((j : Int) < (at_ : Int) + (m : Int)) = false) ∨ (decide ((j : Int) < (at_ : Int) + (m : Int)) = true ∧ decide ((j : Int) < (n : Int)) = false ∧ decide (j < n) = false ∧ ¬ j < n) := by
              by_cases hx : (j : Int) < (at_ : Int) + (m : Int)
              · right
                have := HE.out
                exact ⟨by simp; omega, by simp; omega, by simp; omega, by omega⟩
              · left; simp; omega
            clear hje hje2 C3 hq8
            rcases d23 with d2 | ⟨d2, d3, d3', hjn⟩
            · go_upto_region 18 with (go_at_call 19; refine CT3.out.mono ?_; rintro e w7 ⟨T, HT, g14, rfl, q14, lo14, ln14, b7⟩)
              have HTK : Hid (∀ p, p < n → T.getD p 0 = if Sh.trn n wide at_ e p = true then l.getD p 0 ^^^ 1 else l.getD p 0) := fun p hp => by
                have := HT
                rw [HPT.out, HOO.out] at this
                exact Sh.tk_tog hwp HLN.out this p hp
              have o7 : Own w7 B 5 A2 n c2 (U8 l) := HO4.out.below b7 (Nat.le_refl _)
              have bw7 := Below.then_ HW.out b7
              have HL1 : Hid (∀ p, p < n → l.getD p 0 ≤ 1) := fun p hp => by rw [Bm.getD_lt _ _ _ (by rw [HLN.out]; exact hp)]; exact HB1.out _ (List.getElem_mem _)
              have HO7 := Lib.hid o7.rd
              have HQ14 := Lib.hid q14
              clear HT CT3 b7 HQ8 HO4 HBAC o7 q14 lo14
              go_wp2_with fail
              obtain ⟨wq, rfl⟩ : ∃ wq : World, wq = wr := ⟨_, rfl⟩
              go_loopw [16, 17, 18] (fun s16 s17 s18 wr => ∃ i cv bs : Nat, s16 = .int .i64 (cv : Int) ∧ s17 = .int .i64 (bs : Int) ∧ s18 = .int .i64 (i : Int) ∧ i ≤ n ∧ Hid (cv = Sh.cnt n wide at_ e i) ∧ cv ≤ i ∧ bs ≤ i ∧ Hid (3 ≤ wide → bs = 0) ∧ Below w7.heap.size w7 wr) (fun _ _ s18 _ => n - (intOf s18).toNat)
              case atStart => exact ⟨0, 0, 0, rfl, rfl, rfl, by omega, rfl, by omega, by omega, fun _ => rfl, Below.refl _ _⟩
              case round =>
                obtain ⟨i, cv, bs, rfl, rfl, rfl, hi, HCV, hcv, hbs, HBS, bel⟩ := hrel
                by_cases hlt : i < n
                · have d5 : decide ((i : Int) < (n : Int)) = true := by simp; omega
                  obtain ⟨b, off, hA, hlb, kl⟩ := (HO7.out.below bel).cell8 i hlt
                  subst hA
                  have kT := ((HQ14.out.after bel).cell i).trans (Q8_get T i (by rw [ln14]; exact hlt))
                  rw [HTK.out i hlt] at kT
                  have hl1 := HL1.out i hlt
                  have HCS := Lib.hid (Sh.cnt_succ n wide at_ e i)
                  rw [← HCV.out] at HCS
                  have f1 : (i : Int) < (n : Int) := by omega
                  by_cases htr : Sh.trn n wide at_ e i = true
                  · rw [if_pos htr] at kT
                    rw [if_pos htr] at HCS
                    have HTR := Lib.hid htr
                    have tne : (((l.getD i 0 ^^^ 1 : Nat) : Int) == ((l.getD i 0 : Nat) : Int)) = false := by
                      generalize l.getD i 0 = v at *
                      match v, hl1 with
                      | 0, _ => decide
                      | 1, _ => decide
                    by_cases hi0 : i = 0
                    · have d6 : decide ((i : Int) > 0) = false := by simp; omega
                      have d6' : decide ((0 : Int) < (i : Int)) = false := by simp; omega
                      have d6'' : decide (0 < i) = false := by simp; omega
                      generalize l.getD i 0 ^^^ 1 = v2 at *
                      generalize l.getD i 0 = v at *
                      have HI0 := Lib.hid hi0
                      clear hi0 htr hl1
                      go_upto_region 24 with fail
                      go_quiet (fail)
                      go_upto_region 26 with fail
                      go_quiet (fail)
                      go_wp2
                      go_roundw
                      case rel => exact ⟨i + 1, cv + 1, bs, by go_num, rfl, by go_num, by omega, HCS.out.symm, by omega, by omega, HBS, bel.trans (below_drawn _)⟩
                      case measure => simp [intOf] <;> omega
                    · have hi1 : i - 1 < n := by omega
                      have d6 : decide ((i : Int) > 0) = true := by simp; omega
                      have d6' : decide ((0 : Int) < (i : Int)) = true := by simp; omega
                      have d6'' : decide (0 < i) = true := by simp; omega
                      obtain ⟨i1, hi1e⟩ : ∃ i1, i1 = i - 1 := ⟨_, rfl⟩
                      rw [← hi1e] at hi1
                      have ei : (i : Int) - 1 = (i1 : Int) := by omega
                      have wi : IntKind.i64.wrap ((i : Int) - 1) = (i1 : Int) := by rw [ei]; exact IntWalk.i64_in _ (by omega)
                      obtain ⟨b', off', hA, hlb', kl1⟩ := (HO7.out.below bel).cell8 i1 hi1
                      injection hA with hA
                      injection hA with hA1 hA2
                      subst hA1 hA2
                      have kT1 := ((HQ14.out.after bel).cell i1).trans (Q8_get T i1 (by rw [ln14]; exact hi1))
                      rw [HTK.out i1 hi1] at kT1
                      have hl2 := HL1.out i1 hi1
                      have f2 : (i1 : Int) < (n : Int) := by omega
                      have hii : i = i1 + 1 := by omega
                      by_cases htr1 : Sh.trn n wide at_ e i1 = true
                      · rw [if_pos htr1] at kT1
                        have tne1 : (((l.getD i1 0 ^^^ 1 : Nat) : Int) != ((l.getD i1 0 : Nat) : Int)) = true := by
                          generalize l.getD i1 0 = v at *
                          match v, hl2 with
                          | 0, _ => decide
                          | 1, _ => decide
                        have HW3 : Hid (3 ≤ wide → bs + 1 = 0) := fun h3 => by
                          have := Sh.not_beside (n := n) (wide := wide) (a := at_) (b := e) (p := i1) h3 (by omega) (by rw [← HQ.out]; omega) (by rw [← HQ.out]; exact hq1) (by rw [← hii]; exact htr)
                          rw [htr1] at this; cases this
                        generalize l.getD i1 0 ^^^ 1 = v4 at *
                        generalize l.getD i1 0 = v3 at *
                        generalize l.getD i 0 ^^^ 1 = v2 at *
                        generalize l.getD i 0 = v at *
                        clear hi0 htr hl1 hii htr1 hl2 hi1e
                        go_upto_region 24 with fail
                        go_quiet (fail)
                        go_upto_region 26 with fail
                        go_quiet (fail)
                        go_wp2
                        go_roundw
                        case rel => exact ⟨i + 1, cv + 1, bs + 1, by go_num, by go_num, by go_num, by omega, HCS.out.symm, by omega, by omega, HW3, bel.trans (below_drawn _)⟩
                        case measure => simp [intOf] <;> omega
                      · rw [if_neg htr1] at kT1
                        have tne1 : (((l.getD i1 0 : Nat) : Int) != ((l.getD i1 0 : Nat) : Int)) = false := by simp
                        generalize l.getD i1 0 = v3 at *
                        generalize l.getD i 0 ^^^ 1 = v2 at *
                        generalize l.getD i 0 = v at *
                        clear hi0 htr hl1 hii htr1 hl2 hi1e
                        go_upto_region 24 with fail
                        go_quiet (fail)
                        go_upto_region 26 with fail
                        go_quiet (fail)
                        go_wp2
                        go_roundw
                        case rel => exact ⟨i + 1, cv + 1, bs, by go_num, rfl, by go_num, by omega, HCS.out.symm, by omega, by omega, HBS, bel.trans (below_drawn _)⟩
                        case measure => simp [intOf] <;> omega
                  · rw [if_neg htr] at kT
                    rw [if_neg htr, Nat.add_zero] at HCS
                    have tne : (((l.getD i 0 : Nat) : Int) == ((l.getD i 0 : Nat) : Int)) = true := by simp
                    generalize l.getD i 0 = v at *
                    clear htr hl1
                    go_upto_region 24 with fail
                    go_quiet (fail)
                    go_wp2
                    go_roundw
                    case rel => exact ⟨i + 1, cv, bs, by go_num, rfl, by go_num, by omega, HCS.out.symm, by omega, by omega, HBS, bel.trans (below_drawn _)⟩
                    case measure => simp [intOf] <;> omega
                · have d5 : decide ((i : Int) < (n : Int)) = false := by simp; omega
                  have HCE : Hid (cv = e - at_) := by
                    unfold Hid
                    rw [HCV.out, show i = n by omega]
                    exact Sh.cnt_all hwp (by omega) (by omega)
                  have tcv : ((cv : Int) == ((e - at_ : Nat) : Int)) = true := by rw [HCE.out]; simp
                  by_cases hw3 : 3 ≤ wide
                  · have HB0 := HBS.out hw3
                    have d7 : decide ((wide : Int) < 3) = false := by simp; omega
                    have d8 : ((bs : Int) == 0) = true := by rw [HB0]; rfl
                    clear HB0 hw3
                    go_wp2
                    go_ret
                    exact ⟨rfl, Below.then_ bw7 bel⟩
                  · have d7 : decide ((wide : Int) < 3) = true := by simp; omega
                    clear hw3
                    go_wp2
                    go_ret
                    exact ⟨rfl, Below.then_ bw7 bel⟩
            · go_upto_region 18 with (go_at_call 19; refine CT3.out.mono ?_; rintro e w7 ⟨T, HT, g14, rfl, q14, lo14, ln14, b7⟩)
              have HTK : Hid (∀ p, p < n → T.getD p 0 = if Sh.trn n wide at_ e p = true then l.getD p 0 ^^^ 1 else l.getD p 0) := fun p hp => by
                have := HT
                rw [HPT.out, HOO.out] at this
                exact Sh.tk_tog hwp HLN.out this p hp
              have o7 : Own w7 B 5 A2 n c2 (U8 l) := HO4.out.below b7 (Nat.le_refl _)
              have bw7 := Below.then_ HW.out b7
              have HL1 : Hid (∀ p, p < n → l.getD p 0 ≤ 1) := fun p hp => by rw [Bm.getD_lt _ _ _ (by rw [HLN.out]; exact hp)]; exact HB1.out _ (List.getElem_mem _)
              have HO7 := Lib.hid o7.rd
              have HQ14 := Lib.hid q14
              clear HT CT3 b7 HQ8 HO4 HBAC o7 q14 lo14
              go_wp2_with fail
              obtain ⟨wq, rfl⟩ : ∃ wq : World, wq = wr := ⟨_, rfl⟩
              go_loopw [16, 17, 18] (fun s16 s17 s18 wr => ∃ i cv bs : Nat, s16 = .int .i64 (cv : Int) ∧ s17 = .int .i64 (bs : Int) ∧ s18 = .int .i64 (i : Int) ∧ i ≤ n ∧ Hid (cv = Sh.cnt n wide at_ e i) ∧ cv ≤ i ∧ bs ≤ i ∧ Hid (3 ≤ wide → bs = 0) ∧ Below w7.heap.size w7 wr) (fun _ _ s18 _ => n - (intOf s18).toNat)
              case atStart => exact ⟨0, 0, 0, rfl, rfl, rfl, by omega, rfl, by omega, by omega, fun _ => rfl, Below.refl _ _⟩
              case round =>
                obtain ⟨i, cv, bs, rfl, rfl, rfl, hi, HCV, hcv, hbs, HBS, bel⟩ := hrel
                by_cases hlt : i < n
                · have d5 : decide ((i : Int) < (n : Int)) = true := by simp; omega
                  obtain ⟨b, off, hA, hlb, kl⟩ := (HO7.out.below bel).cell8 i hlt
                  subst hA
                  have kT := ((HQ14.out.after bel).cell i).trans (Q8_get T i (by rw [ln14]; exact hlt))
                  rw [HTK.out i hlt] at kT
                  have hl1 := HL1.out i hlt
                  have HCS := Lib.hid (Sh.cnt_succ n wide at_ e i)
                  rw [← HCV.out] at HCS
                  have f1 : (i : Int) < (n : Int) := by omega
                  by_cases htr : Sh.trn n wide at_ e i = true
                  · rw [if_pos htr] at kT
                    rw [if_pos htr] at HCS
                    have HTR := Lib.hid htr
                    have tne : (((l.getD i 0 ^^^ 1 : Nat) : Int) == ((l.getD i 0 : Nat) : Int)) = false := by
                      generalize l.getD i 0 = v at *
                      match v, hl1 with
                      | 0, _ => decide
                      | 1, _ => decide
                    by_cases hi0 : i = 0
                    · have d6 : decide ((i : Int) > 0) = false := by simp; omega
                      have d6' : decide ((0 : Int) < (i : Int)) = false := by simp; omega
                      have d6'' : decide (0 < i) = false := by simp; omega
                      generalize l.getD i 0 ^^^ 1 = v2 at *
                      generalize l.getD i 0 = v at *
                      have HI0 := Lib.hid hi0
                      clear hi0 htr hl1
                      go_upto_region 24 with fail
                      go_quiet (fail)
                      go_upto_region 26 with fail
                      go_quiet (fail)
                      go_wp2
                      go_roundw
                      case rel => exact ⟨i + 1, cv + 1, bs, by go_num, rfl, by go_num, by omega, HCS.out.symm, by omega, by omega, HBS, bel.trans (below_drawn _)⟩
                      case measure => simp [intOf] <;> omega
                    · have hi1 : i - 1 < n := by omega
                      have d6 : decide ((i : Int) > 0) = true := by simp; omega
                      have d6' : decide ((0 : Int) < (i : Int)) = true := by simp; omega
                      have d6'' : decide (0 < i) = true := by simp; omega
                      obtain ⟨i1, hi1e⟩ : ∃ i1, i1 = i - 1 := ⟨_, rfl⟩
                      rw [← hi1e] at hi1
                      have ei : (i : Int) - 1 = (i1 : Int) := by omega
                      have wi : IntKind.i64.wrap ((i : Int) - 1) = (i1 : Int) := by rw [ei]; exact IntWalk.i64_in _ (by omega)
                      obtain ⟨b', off', hA, hlb', kl1⟩ := (HO7.out.below bel).cell8 i1 hi1
                      injection hA with hA
                      injection hA with hA1 hA2
                      subst hA1 hA2
                      have kT1 := ((HQ14.out.after bel).cell i1).trans (Q8_get T i1 (by rw [ln14]; exact hi1))
                      rw [HTK.out i1 hi1] at kT1
                      have hl2 := HL1.out i1 hi1
                      have f2 : (i1 : Int) < (n : Int) := by omega
                      have hii : i = i1 + 1 := by omega
                      by_cases htr1 : Sh.trn n wide at_ e i1 = true
                      · rw [if_pos htr1] at kT1
                        have tne1 : (((l.getD i1 0 ^^^ 1 : Nat) : Int) != ((l.getD i1 0 : Nat) : Int)) = true := by
                          generalize l.getD i1 0 = v at *
                          match v, hl2 with
                          | 0, _ => decide
                          | 1, _ => decide
                        have HW3 : Hid (3 ≤ wide → bs + 1 = 0) := fun h3 => by
                          have := Sh.not_beside (n := n) (wide := wide) (a := at_) (b := e) (p := i1) h3 (by omega) (by rw [← HQ.out]; omega) (by rw [← HQ.out]; exact hq1) (by rw [← hii]; exact htr)
                          rw [htr1] at this; cases this
                        generalize l.getD i1 0 ^^^ 1 = v4 at *
                        generalize l.getD i1 0 = v3 at *
                        generalize l.getD i 0 ^^^ 1 = v2 at *
                        generalize l.getD i 0 = v at *
                        clear hi0 htr hl1 hii htr1 hl2 hi1e
                        go_upto_region 24 with fail
                        go_quiet (fail)
                        go_upto_region 26 with fail
                        go_quiet (fail)
                        go_wp2
                        go_roundw
                        case rel => exact ⟨i + 1, cv + 1, bs + 1, by go_num, by go_num, by go_num, by omega, HCS.out.symm, by omega, by omega, HW3, bel.trans (below_drawn _)⟩
                        case measure => simp [intOf] <;> omega
                      · rw [if_neg htr1] at kT1
                        have tne1 : (((l.getD i1 0 : Nat) : Int) != ((l.getD i1 0 : Nat) : Int)) = false := by simp
                        generalize l.getD i1 0 = v3 at *
                        generalize l.getD i 0 ^^^ 1 = v2 at *
                        generalize l.getD i 0 = v at *
                        clear hi0 htr hl1 hii htr1 hl2 hi1e
                        go_upto_region 24 with fail
                        go_quiet (fail)
                        go_upto_region 26 with fail
                        go_quiet (fail)
                        go_wp2
                        go_roundw
                        case rel => exact ⟨i + 1, cv + 1, bs, by go_num, rfl, by go_num, by omega, HCS.out.symm, by omega, by omega, HBS, bel.trans (below_drawn _)⟩
                        case measure => simp [intOf] <;> omega
                  · rw [if_neg htr] at kT
                    rw [if_neg htr, Nat.add_zero] at HCS
                    have tne : (((l.getD i 0 : Nat) : Int) == ((l.getD i 0 : Nat) : Int)) = true := by simp
                    generalize l.getD i 0 = v at *
                    clear htr hl1
                    go_upto_region 24 with fail
                    go_quiet (fail)
                    go_wp2
                    go_roundw
                    case rel => exact ⟨i + 1, cv, bs, by go_num, rfl, by go_num, by omega, HCS.out.symm, by omega, by omega, HBS, bel.trans (below_drawn _)⟩
                    case measure => simp [intOf] <;> omega
                · have d5 : decide ((i : Int) < (n : Int)) = false := by simp; omega
                  have HCE : Hid (cv = e - at_) := by
                    unfold Hid
                    rw [HCV.out, show i = n by omega]
                    exact Sh.cnt_all hwp (by omega) (by omega)
                  have tcv : ((cv : Int) == ((e - at_ : Nat) : Int)) = true := by rw [HCE.out]; simp
                  by_cases hw3 : 3 ≤ wide
                  · have HB0 := HBS.out hw3
                    have d7 : decide ((wide : Int) < 3) = false := by simp; omega
                    have d8 : ((bs : Int) == 0) = true := by rw [HB0]; rfl
                    clear HB0 hw3
                    go_wp2
                    go_ret
                    exact ⟨rfl, Below.then_ bw7 bel⟩
                  · have d7 : decide ((wide : Int) < 3) = true := by simp; omega
                    clear hw3
                    go_wp2
                    go_ret
                    exact ⟨rfl, Below.then_ bw7 bel⟩
end Go.Proofs.Ytoiibjblaafgpab
