/-
  Layer 34: a Joiner's Take.
-/
import Derived.Test.YtoiibjblaafgpabPid
namespace Go.Proofs.Ytoiibjblaafgpab
open Go.RowKit
set_option linter.unusedVariables false
set_option linter.unusedSimpArgs false
set_option maxRecDepth 100000

section
variable {ops : Array Oper} {o : Oper} {a : Act} {K : Act → World → Prop} {Q : Exit → Act → World → Prop} {E : Prop}
/-- 'append(l, x...)' in a region that draws: l a []byte of the call's own. -/
theorem step_cat8 (w : World) (hgd : o.guard = none) (s x : Operand) (ho : o.op = .call { callee := .builtin .append, args := #[s, x], argTypes := #[22, 22] })
    (base : Nat) (A : Option Addr) (n c : Nat) (bs : List Nat) (b off m c2 : Nat) (ys : List Nat) (hs : a.eval s = .slice A n c) (hown : Own w base 5 A n c (U8 bs))
    (hx : a.eval x = .slice (some ⟨b, off, none⟩) m c2) (hr : Rd w w.heap.size (some ⟨b, off, none⟩) m (U8 ys)) (hn : n + m ≤ 1000000) (hbase : base ≤ w.heap.size)
    (h : ∀ A' c' w', Own w' base 5 A' (n + m) c' (U8 (bs ++ ys)) → w.grownBy w' (Value.slice A n c).ownBlock → (blk A' = blk A ∨ blk A' = some w.heap.size) → K (a.put o.dst (.slice A' (n + m) c')) w') :
    if Region.wanted o (yielded ops a.tmps) = true then Oper.wp Try.prog o a w K Q else E := by
  obtain ⟨i0, hi0, hz0, hz1, hz2⟩ := info_parts info5
  have hw : Region.wanted o (yielded ops a.tmps) = true := by simp [Region.wanted, hgd]
  rw [if_pos hw]
  have hl := hr.len8
  have hcells : ∀ j u, (U8 ys)[j]? = some u → w.cell? ((⟨b, off, none⟩ : Addr).add j) = some u := by
    intro j u hu
    have hj : j < (U8 ys).length := (List.getElem?_eq_some_iff.1 hu).1
    rw [U8_length] at hj
    obtain ⟨b', off', e1, _, hc⟩ := hr.at_ (by omega)
    injection e1 with e1
    injection e1 with e1 e2
    subst e1 e2
    rw [Addr.add_lit]
    exact hc j u hu
  obtain ⟨v', w', hrun, h2, h3, _, h5⟩ := run_append_own_at (P := Try.prog) w base 22 o.type 5 i0 _ 1 1 Try.underlying22 hi0 hz0 hz1 hz2 rfl (by omega) (.slice A n c) n (U8 bs) hown.row ⟨b, off, none⟩ m c2 (U8 ys) (by rw [U8_length]; omega) hcells (U8_one ys) (by unfold maxLen; omega) (by omega) hbase
  obtain ⟨A', c', rfl⟩ := slice_of_own h2
  unfold Oper.wp execOp
  simp only [ho, resolve, invoke, builtin, Sem.run_bind, Sem.run_pure, Result.andThen_ok, List.map_toArray, List.map_cons, List.map_nil, hs, hx, hrun]
  refine h A' c' w' ⟨?_⟩ h3 ?_
  · rw [U8_append]; exact h2
  · rw [blk_own, blk_own] at h5; exact h5
end
/-- What Take gives. -/
def TakeOk (w : World) (P : Nat → Prop) (g : Nat) (text : List Nat) (bad : Nat) (last : Bool) (e : Ending) (w' : World) : Prop :=
  Kr w w' P ∧ ∃ P' : Nat → Prop, (∀ k, P' k → P k ∨ w.heap.size ≤ k) ∧
    (if last = true then (∃ A c, e = .returned (.tuple #[.slice A text.length c, .bool true, .int .i64 0]) ∧ Own w' 0 5 A text.length c (U8 text)) ∧ JT w' P' g [] bad
     else e = .returned (.tuple #[.slice none 0 0, .bool false, .int .i64 0]) ∧ JT w' P' g text bad)
/-- The text grows. -/
theorem jt_step {w w1 w3 : World} {P : Nat → Prop} {g bad m c3 : Nat} {half text : List Nat} {A A3 : Option Addr} {c : Nat} (h : JT w P g half bad) (q : Blk w g 47 (jo A half.length c bad)) (hA : ∀ k, blk A = some k → P k)
    (h1 : w1.heap = w.heap ∧ w1.os = w.os ∧ w1.tape = w.tape ∧ w1.output = w.output) (o3 : Own w3 0 5 A3 m c3 (U8 text)) (hm : m = text.length) (g3 : w1.grownBy w3 (Value.slice A half.length c).ownBlock) (l3 : blk A3 = blk A ∨ blk A3 = some w1.heap.size) :
    Kr w (w3.setCell ⟨g, 0, none⟩ (.slice A3 m c3)) P ∧ ∃ P' : Nat → Prop, (∀ k, P' k → P k ∨ w.heap.size ≤ k) ∧ JT (w3.setCell ⟨g, 0, none⟩ (.slice A3 m c3)) P' g text bad := by
  subst hm
  obtain ⟨e1, e2, e3, e4⟩ := h1
  rw [blk_own] at g3
  have hs3 : w.heap.size ≤ w3.heap.size := by have := g3.size; rw [e1] at this; exact this
  have q3 : Blk w3 g 47 (jo A half.length c bad) := by
    have hne : blk A ≠ some g := by
      intro e
      obtain ⟨A', c', q', o', hA'⟩ := h.blk
      have hq : jo A half.length c bad = jo A' half.length c' bad := by
        unfold Blk at q q'
        rw [q] at q'
        injection q' with q'
        injection q' with q'
      have hAA : A = A' := by
        have := congrArg (fun (x : Array Value) => x[0]?) hq
        simp [jo] at this
        exact this.1
      rw [← hAA] at o'
      exact o'.ne_blk q (by decide) e
    refine (g3.block g (by rw [e1]; exact h.lt g h.mine) (fun e => hne e.symm)).trans ?_
    rw [e1]; exact q
  have u4 := upd_set q3 0 (.slice A3 text.length c3)
  rw [jo_set0] at u4
  have hn3 : blk A3 ≠ some g := o3.ne_blk q3 (by decide)
  refine ⟨⟨?_, ?_, ?_, by rw [u4.size]; exact hs3, fun k hk hp => ?_⟩, fun k => (P k ∨ w.heap.size ≤ k) ∧ k < w3.heap.size, fun k hk => hk.1, ⟨⟨A3, c3, u4.row, ?_, fun k hk => ?_⟩, ⟨.inl h.mine, q3.lt⟩, fun k hk => by rw [u4.size]; exact hk.2⟩⟩
  · rw [u4.os, g3.os, e2]
  · rw [u4.tape, g3.tape, e3]
  · rw [u4.output, g3.output, e4]
  · have hkg : k ≠ g := fun e => hp (by rw [e]; exact h.mine)
    have hka : blk A ≠ some k := fun e => hp (hA k e)
    rw [u4.oth k hkg, g3.block k (by rw [e1]; exact hk) (fun e => hka e.symm), e1]
  · exact o3.heap (fun k hk => u4.oth k (fun e => hn3 (by rw [← e]; exact hk)))
  · refine ⟨?_, (o3.blkLt k hk).2⟩
    rcases l3 with e | e
    · rw [e] at hk; exact .inl (hA k hk)
    · rw [e] at hk
      injection hk with hk
      rw [e1] at hk
      exact .inr (by omega)
set_option maxHeartbeats 2000000 in
theorem jTake (w : World) (P : Nat → Prop) (g bad : Nat) (half : List Nat) (b off n c h : Nat) (ps : List Nat) (hj : JT w P g half bad) (hb : bad ≤ 1000000)
    (hr : Rd w w.heap.size (some ⟨b, off, none⟩) n (U8 (h :: ps))) (hbP : ¬ P b) (hh : h < 256) (hn : n ≤ 64) (hnc : n ≤ c) (h1 : ¬ 64 ≤ h % 128 → n = 64) (h2 : 64 ≤ h % 128 → 128 ≤ h ∨ 1 < n)
    (hok : (128 ≤ h ∧ h % 64 = 0) ∨ (¬ 128 ≤ h ∧ 0 < half.length ∧ h % 64 = half.length / 63 % 64)) (hlen : half.length + n - 1 ≤ 65536) :
    Calls Try.prog 13 #[.pointer (some ⟨g, 0, none⟩), .slice (some ⟨b, off, none⟩) n c] w
      (TakeOk w P g ((if 128 ≤ h then [] else half) ++ ps) (bad + if 128 ≤ h ∧ 0 < half.length then 1 else 0) (decide (64 ≤ h % 128))) := by
  have hl : n = ps.length + 1 := hr.len8
  have HL := Lib.hid hl
  have hn1 : 0 < n := by omega
  have CM := Lib.hid (jisMessage _ n c h ps w hr hh hn h1 h2)
  have CF := Lib.hid (jisFirst _ n c h ps w hr hh)
  have CN := Lib.hid (jnumber _ n c h ps w hr hh)
  have CHf := Lib.hid (jHalf w P g bad half hj)
  have CB := Lib.hid (jBegin w P g bad half hj hb)
  have CX := Lib.hid (jNext w P g bad half hj (by omega))
  have CL := Lib.hid (fun W hW => jisLast (some ⟨b, off, none⟩) n c h ps W hW hh)
  have HJ := Lib.hid hj
  obtain ⟨t1, ht1⟩ : ∃ t1, t1 = (if 128 ≤ h then [] else half) := ⟨_, rfl⟩
  obtain ⟨b1, hb1⟩ : ∃ b1, b1 = bad + (if 128 ≤ h ∧ 0 < half.length then 1 else 0) := ⟨_, rfl⟩
  rw [← ht1, ← hb1]
  have hb1b : b1 ≤ 1000001 := by rw [hb1]; split <;> omega
  have ht1b : t1.length + n ≤ 65537 := by
    rw [ht1]
    split
    · rw [List.length_nil]; omega
    · omega
  have HT1 := Lib.hid ht1
  have HB1 := Lib.hid hb1
  have HR := Lib.hid hr
  have HBP := Lib.hid hbP
  clear hj hr hbP h1 h2 ht1 hb1 hl
  go_enter Try.func13, Try.ntmps13
  go_step
  go_cut [4] (fun s4 wc => s4 = .slice none 0 0 ∧ w = wc)
  case first =>
    go_wp2
    go_meet
    case rel => exact ⟨rfl, rfl⟩
  obtain ⟨rfl, rfl⟩ := hcut
  go_step
  go_step
  go_cut [4] (fun s4 wc => s4 = .slice none 0 0 ∧ Hid (JT wc P g t1 b1) ∧ Kr w wc P)
  case first =>
    rcases hok with ⟨hF, hm⟩ | ⟨hF, hp, hm⟩
    · rw [decide_eq_true hF] at CF
      rw [hm] at CN
      rw [if_pos hF] at HT1
      have HB2 : Hid (b1 = bad + if 0 < half.length then 1 else 0) := by
        unfold Hid; rw [HB1.out]; simp [hF]
      rw [← HB2.out] at CB
      clear HB1 hF hm
      go_wp2_with (first | (go_at_call 21; refine CM.out.mono ?_; rintro e w' ⟨rfl, rfl⟩) | (go_at_call 23; refine CF.out.mono ?_; rintro e w' ⟨rfl, rfl⟩) | (go_at_call 24; refine CN.out.mono ?_; rintro e w' ⟨rfl, rfl⟩) | (go_at_call 25; refine CB.out.mono ?_; rintro e w1 ⟨rfl, j1, k1⟩))
      go_meet
      case rel => exact ⟨rfl, by rw [HT1.out]; exact j1, k1⟩
    · rw [decide_eq_false hF] at CF
      rw [hm] at CN
      rw [if_neg hF] at HT1
      have HB2 : Hid (b1 = bad) := by unfold Hid; rw [HB1.out]; simp [hF]
      have d1 : ((half.length : Int) == 0) = false := by simp; intro hc; simp [hc] at hp
      have d2 : decide ((half.length : Int) + (n : Int) - 1 > 65536) = false := by simp; omega
      have d2' : decide ((65536 : Int) < (half.length : Int) + (n : Int) - 1) = false := by simp; omega
      have d3 : (((half.length / 63 % 64 : Nat) : Int) != ((half.length / 63 % 64 : Nat) : Int)) = false := by simp
      clear HB1 hF hm
      generalize half.length / 63 % 64 = r at *
      generalize half.length = hlv at *
      go_wp2_with (first | (go_at_call 21; refine CM.out.mono ?_; rintro e w' ⟨rfl, rfl⟩) | (go_at_call 23; refine CF.out.mono ?_; rintro e w' ⟨rfl, rfl⟩) | (go_at_call 24; refine CN.out.mono ?_; rintro e w' ⟨rfl, rfl⟩) | (go_at_call 14; refine CHf.out.mono ?_; rintro e w' ⟨rfl, rfl⟩) | (go_at_call 26; refine CX.out.mono ?_; rintro e w' ⟨rfl, rfl⟩))
      go_meet
      case rel => exact ⟨rfl, by rw [HT1.out, HB2.out]; exact HJ.out, kr_refl _ _⟩
  case rest =>
    obtain ⟨rfl, HJ1, hk⟩ := hcut
    have HK := Lib.hid hk
    obtain ⟨A, c1, q, o, hA⟩ := HJ1.out.blk
    have HA := Lib.hid hA
    have HQ := Lib.hid q
    have HO := Lib.hid o
    have rm := HR.out.kr hk HBP.out
    have r1 := rm.from8_ 1 (by omega) (by omega)
    have hps : (h :: ps).drop 1 = ps := rfl
    rw [hps] at r1
    obtain ⟨m, hm⟩ : ∃ m, m = n - 1 := ⟨_, rfl⟩
    have em : n - 1 = m := hm.symm
    have HMP : Hid (m = ps.length) := by have := HL.out; unfold Hid; omega
    rw [em] at r1
    obtain ⟨o2, hif, HR2⟩ : ∃ o2, (if c = 1 then some (⟨b, off, none⟩ : Addr) else some ⟨b, off + 1, none⟩) = some ⟨b, o2, none⟩ ∧ Hid (Rd wc.drew wc.drew.heap.size (some ⟨b, o2, none⟩) m (U8 ps)) := by
      by_cases hc : c = 1
      · exact ⟨off, if_pos hc, ⟨r1.len, fun h0 => absurd h0 (by omega)⟩⟩
      · refine ⟨off + 1, if_neg hc, ⟨r1.len, fun h0 => ?_⟩⟩
        obtain ⟨b', off', e, hlt, hcc⟩ := r1.at_ h0
        exact ⟨b', off', e, hlt, hcc⟩
    have c0 : wc.cell? ⟨g, 0, none⟩ = some (.slice A t1.length c1) := (q.cell 0).trans rfl
    have hfz := q.froz 0
    have hglt := q.lt
    have HTL : Hid (t1.length + m = (t1 ++ ps).length) := by unfold Hid; rw [List.length_append, HMP.out]
    have hml : t1.length + m ≤ 100000 := by omega
    have HNE : Hid (blk A ≠ some g) := o.ne_blk q (by decide)
    have HMM := Lib.hid (show m < n by omega)
    obtain ⟨tl, htl⟩ : ∃ tl, tl = t1.length := ⟨_, rfl⟩
    have HTLE := Lib.hid htl
    have ownd : Own wc.drew 0 5 A tl c1 (U8 t1) := by rw [htl]; exact ⟨o.row.drew⟩
    rw [← htl] at c0 hml HTL ht1b
    clear q o hA hk rm r1 hm htl CM CF CN CHf CB CX hok
    have h1n : (1 : Int) ≤ (n : Int) := by omega
    go_upto_region 11 with fail
    go_region_law ((refine step_cat8 wc.drew (by rfl) _ _ (by rfl) 0 A tl c1 _ b o2 m _ _ (by rfl) ownd (by rfl) HR2.out (by omega) (Nat.zero_le _) ?_; intro A3 c3 w3 o3 g3 l3; have hb3 := g3.block g hglt (fun e => HNE.out (by rw [blk_own] at e; exact e.symm)); have hcell3 := (World.cell?_of_block (w := wc) (a := ⟨g, 0, none⟩) hb3).trans c0; have hfz3 := (World.frozen?_of_block (w := wc) (a := ⟨g, 0, none⟩) hb3).trans hfz; clear hb3))
    obtain ⟨hk4, P', hP', hj4⟩ := jt_step (w := wc) (w1 := wc.drew) (m := tl + m) (text := t1 ++ ps) HJ1.out HQ.out HA.out ⟨rfl, rfl, rfl, rfl⟩ (by rw [U8_append] at o3 ⊢; exact o3) HTL.out (by rw [← HTLE.out]; exact g3) l3
    have HK4 := Lib.hid hk4
    have HJ4 := Lib.hid hj4
    have CL4 := Lib.hid (CL.out _ ((HR.out.kr HK.out HBP.out).kr hk4 HBP.out))
    have HKK : Hid (Kr w (w3.setCell ⟨g, 0, none⟩ (.slice A3 (tl + m) c3)) P) := by
      refine ⟨hk4.os.trans HK.out.os, hk4.tape.trans HK.out.tape, hk4.output.trans HK.out.output, Nat.le_trans HK.out.size hk4.size, fun k h1 h2 => ?_⟩
      exact (hk4.block k (Nat.lt_of_lt_of_le h1 HK.out.size) h2).trans (HK.out.block k h1 h2)
    have HPP : Hid (∀ k, P' k → P k ∨ w.heap.size ≤ k) := fun k hp => by
      rcases hP' k hp with e | e
      · exact .inl e
      · exact .inr (Nat.le_trans HK.out.size e)
    clear hk4 hP' hj4 hcell3 hfz3 g3 l3 o3 CL ownd c0
    generalize w3.setCell ⟨g, 0, none⟩ (.slice A3 (tl + m) c3) = w4 at *
    obtain ⟨A5, c5, q5, o5, hA5⟩ := HJ4.out.blk
    have HA5 := Lib.hid hA5
    have HO5 := Lib.hid o5
    have c50 : w4.cell? ⟨g, 0, none⟩ = some (.slice A5 (t1 ++ ps).length c5) := (q5.cell 0).trans rfl
    have HN5 : Hid (blk A5 ≠ some g) := o5.ne_blk q5 (by decide)
    have HLT := Lib.hid HJ4.out.lt
    have HMI := Lib.hid HJ4.out.mine
    clear hA5 o5 HTL
    generalize t1 ++ ps = text at *
    obtain ⟨tx, htx⟩ : ∃ tx, tx = text.length := ⟨_, rfl⟩
    have HTX := Lib.hid htx
    rw [← htx] at q5 c50 HO5
    clear htx
    by_cases hlast : 64 ≤ h % 128
    · rw [decide_eq_true hlast] at CL4
      have HD : Hid (decide (64 ≤ h % 128) = true) := decide_eq_true hlast
      clear hlast
      go_wp2_with (first | (go_at_call 27; refine CL4.out.mono ?_; rintro e w' ⟨rfl, rfl⟩) | (refine at_cell rfl 22 _ _ rfl g 0 (.slice none 0 0) rfl rfl 47 _ q5 (show 0 < 2 by omega) infoJo rfl ?_; intro w6 u6))
      go_ret3
      rw [jo_set0] at u6
      refine ⟨?_, P', HPP.out, ?_⟩
      · refine ⟨u6.os.trans HKK.out.os, u6.tape.trans HKK.out.tape, u6.output.trans HKK.out.output, by rw [u6.size]; exact HKK.out.size, fun k h1 h2 => ?_⟩
        have hkg : k ≠ g := fun e => h2 (by rw [e]; exact HJ1.out.mine)
        rw [u6.oth k hkg]
        exact HKK.out.block k h1 h2
      · rw [if_pos HD.out]
        refine ⟨⟨A5, c5, by rw [HTX.out]; rfl, by rw [HTX.out] at HO5; exact HO5.out.heap (fun k hk => u6.oth k (fun e => HN5.out (by rw [← e]; exact hk)))⟩, ⟨⟨none, 0, u6.row, Own.nil _ _ _, fun k hk => by cases hk⟩, HMI.out, fun k hk => by rw [u6.size]; exact HLT.out k hk⟩⟩
    · rw [decide_eq_false hlast] at CL4
      have HD : Hid (decide (64 ≤ h % 128) = false) := decide_eq_false hlast
      clear hlast
      go_wp2_with (first | (go_at_call 27; refine CL4.out.mono ?_; rintro e w' ⟨rfl, rfl⟩))
      go_ret3
      refine ⟨HKK.out, P', HPP.out, ?_⟩
      rw [if_neg (by rw [HD.out]; simp)]
      exact ⟨rfl, HJ4.out⟩
end Go.Proofs.Ytoiibjblaafgpab
