/-
  Layer 16: reading: read.
-/
import Derived.Test.YtkmacepodomdmaaDoorFd
namespace Go.Proofs.YtkmacepodomdmaaDoor
open Go.RowKit
set_option maxRecDepth 100000
set_option linter.unusedVariables false
set_option linter.unusedSimpArgs false

/-- The bits that are looked at. -/
def hb76 (bs : List Nat) : List Nat := Bm.ofBytes (bs.take 76)
def kd (bs : List Nat) : Nat := num ((hb76 bs).take 4)
def hdn (k : Nat) : Nat := if k = 1 then 6 else 9
/-- Why bytes can't be read. -/
def rdX (bs : List Nat) : Er :=
  if bs.length = 0 then .told 2
  else if kd bs ≠ 1 ∧ kd bs ≠ 2 then .sent 0
  else if bs.length < hdn (kd bs) then .sent 1
  else if Crc.ok16 (bs.take (hdn (kd bs))) = false then .sent 2
  else match restX (kd bs) ((hb76 bs).drop 4) with
    | .nil => if padE (restL (kd bs) ((hb76 bs).drop 4)) = 0 then .nil else .told (padE (restL (kd bs) ((hb76 bs).drop 4)))
    | x => x
/-- What read gives. -/
structure Dn (w : World) (base : Nat) (a : Nat → Addr) (bs : List Nat) (F : Array Value) (v : Value) : Prop where
  er : ErV w a v (rdX bs)
  yes : rdX bs = .nil → ∃ A n c, F = restF (kd bs) ((hb76 bs).drop 4) (.slice A n c) ∧ Own w base 5 A n c (U8 (restB (kd bs) ((hb76 bs).drop 4)))
  no : rdX bs ≠ .nil → F = FV 0 0 0 0 (.slice none 0 0) 0 0
def DO (w : World) (a : Nat → Addr) (bs : List Nat) (e : Ending) (w' : World) : Prop := ∃ F v, e = .returned (.tuple #[.agg F, v]) ∧ Dn w' w.heap.size a bs F v ∧ Below w.heap.size w w'
theorem hb76_bit (bs : List Nat) : ∀ x ∈ hb76 bs, x ≤ 1 := Bm.ofBytes_bit _
theorem hb76_length (bs : List Nat) : (hb76 bs).length = 8 * min 76 bs.length := by unfold hb76; rw [Bm.ofBytes_length, List.length_take]
theorem kd_lt (bs : List Nat) : kd bs < 16 := num_take_lt _ (hb76_bit bs) 4
theorem ErV.ne {w : World} {a : Nat → Addr} {v : Value} {x : Er} (h : ErV w a v x) (hx : x ≠ .nil) : ∃ g, v = .iface 130 (.pointer (some ⟨g, 0, none⟩)) := by
  cases x with
  | nil => exact absurd rfl hx
  | told e => obtain ⟨g, s, h1, _⟩ := h; exact ⟨g, h1⟩
  | sent i => obtain ⟨_, g, s, h1, _⟩ := h; exact ⟨g, h1⟩
/-- An error that is made last: of something a layer below told. -/
theorem dn_err {w w' w2 w3 : World} {a : Nat → Addr} {bs : List Nat} {r : Nat} {s : ByteArray} {u : Value} {x : Er} (hx : rdX bs = x) (hn : x ≠ .nil) (hu : (∃ e, x = .told e ∧ u = .iface 136 (.int .i64 e)) ∨ ∃ i, i < 5 ∧ x = .sent i ∧ u = .iface 296 (.pointer (some (a i))))
    (bel : Below w.heap.size w w') (L : Laid w' w2 132 #[.string s, u]) (q : Blk w' r 32 (FV 0 0 0 0 (.slice none 0 0) 0 0)) (H : Upd w2 w3 r 32 (FV 0 0 0 0 (.slice none 0 0) 0 0)) (hr : w.heap.size ≤ r) :
    DO w a bs (.returned (.tuple #[.agg (FV 0 0 0 0 (.slice none 0 0) 0 0), .iface 130 (.pointer (some ⟨w'.heap.size, 0, none⟩))])) w3 := by
  have hb : Blk w3 w'.heap.size 132 #[.string s, u] := H.blk L.row (Nat.ne_of_gt q.lt)
  refine ⟨_, _, rfl, ⟨?_, fun h => absurd (hx.symm.trans h) hn, fun _ => rfl⟩, (Below.then_ bel L.bel).trans (H.below hr)⟩
  rw [hx]
  rcases hu with ⟨e, rfl, rfl⟩ | ⟨i, hi, rfl, rfl⟩
  · exact ⟨_, _, rfl, hb⟩
  · exact ⟨hi, _, _, rfl, hb⟩
set_option maxHeartbeats 4000000 in
/-- frame.read. -/
theorem readC (A : Option Addr) (n c : Nat) (bs : List Nat) (a : Nat → Addr) (w : World) (hr : Rd w w.heap.size A n (U8 bs)) (hb : ∀ b ∈ bs, b < 256) (hnc : n ≤ c) (hc : c ≤ 9223372036854775807) (hE : ErrsAt w a) :
    Calls Tryd.prog 44 #[.slice A n c] w (DO w a bs) := by
  have HN := Lib.hid hr.len8
  obtain ⟨m, hm1, hm2, hm3⟩ := min_if n 76
  obtain ⟨e1, e2⟩ := hm3 76 rfl
  have HM : Hid (m = min 76 n) := by unfold Hid; omega
  clear hm3
  have hmt : bs.take 76 = bs.take m := by
    by_cases h : m = 76
    · rw [h]
    · have h2 := HM.out
      have h3 := HN.out
      rw [List.take_of_length_le (by omega), List.take_of_length_le (by omega)]
  have hEl : ∀ i, i < 5 → (a i).block < w.heap.size := hE.lt
  go_enter Tryd.func44, Tryd.ntmps44
  go_upto_region 1 with (refine at_alloc rfl 32 rfl _ zeroF ?_; intro w1 L1)
  have q1 := L1.row
  have bel1 := L1.bel
  have r1 := (hr.below bel1).up bel1.size
  have HB1 := Lib.hid L1.size
  have C1 := Lib.hid (bitioOf A m c (bs.take m) w1 (r1.cut8 m hm2) (fun b hb' => hb b (List.mem_of_mem_take hb')) (by omega))
  rw [← hmt] at C1
  go_upto_region 2 with (go_at_call 78; refine C1.out.mono ?_; rintro e w2 ⟨w1', A2, n2, c2, rfl, hw2', own2, b1⟩; have HW2 := Lib.hid hw2'; clear hw2')
  have hw2 := HW2.out
  have hsz : w1.heap.size ≤ w1'.heap.size := b1.size
  have b12 : Below w1.heap.size w1 w2 := by rw [hw2]; exact b1.alloc b1.size _
  have K2 : RdB w2 w1'.heap.size w1'.heap.size (hb76 bs) := by
    have hbx : Box w2 183 w1'.heap.size A2 n2 c2 := by rw [hw2]; show (w1'.heap.push _)[w1'.heap.size]? = _; simp
    have bb : Below w1'.heap.size w1' w2 := by rw [hw2]; exact (Below.refl _ _).alloc (Nat.le_refl _) _
    have hcn := own2.bounds
    refine ⟨A2, n2, c2, ⟨hbx, (own2.rd.below bb).up bb.size, hcn.1, by have := hcn.2; unfold maxLen at this; omega⟩, fun x hx => ?_⟩
    subst hx
    exact (own2.block x.block rfl).2
  have q2 := q1.after b12
  have bel2 := Below.then_ bel1 b12
  have rb2 := (r1.below b12).up b12.size
  obtain ⟨g, hg⟩ : ∃ g, g = w1'.heap.size := ⟨_, rfl⟩
  obtain ⟨r2, hr2⟩ : ∃ r, r = w.heap.size := ⟨_, rfl⟩
  have HRG : Hid (r2 < g) := by unfold Hid; have := HB1.out; omega
  have HGW : Hid (w.heap.size ≤ g) := by unfold Hid; have := HRG.out; omega
  have HRW : Hid (w.heap.size ≤ r2) := by unfold Hid; omega
  have HNG : Hid (r2 ≠ g) := by unfold Hid; have := HRG.out; omega
  have hE2 := hE.below bel2
  have h5 : 5 < g := by have := hE.big; have := HGW.out; omega
  have hla : ∀ i, i < 5 → (a i).block < g := fun i hi => Nat.lt_of_lt_of_le (hEl i hi) HGW.out
  rw [← hg] at K2 ⊢
  rw [← hr2] at q2 ⊢
  have hXL := hb76_length bs
  have hXB := hb76_bit bs
  clear L1 hg hr2 own2 b1 hw2 HW2 b12 q1 r1 C1 e1 e2 hsz hmt
  by_cases h0 : n = 0
  · have HX : Hid (rdX bs = .told 2) := if_pos (by rw [← HN.out]; exact h0)
    have C2 := Lib.hid (readKindShort g g (hb76 bs) w2 K2 (by rw [hXL, ← HN.out, h0]; simp))
    go_wp2_with (first | (go_at_call 79; refine C2.out.mono ?_; rintro e w3 ⟨rfl, rfl⟩) | (refine at_box rfl 132 _ rfl #[.string _, .iface 136 (.int .i64 2)] rfl ?_; intro wb LB) | (refine at_store rfl 32 _ _ rfl r2 (FV 0 0 0 0 (.slice none 0 0) 0 0) rfl rfl 32 _ (q2.after LB.bel) (infoF _ _ _ _ _ _ _) rfl (FV_all _ _ _ _ _ _ _ _ _) ?_; intro ws HS))
    refine bodyPost_ret (v := .tuple #[.agg (FV 0 0 0 0 (.slice none 0 0) 0 0), _]) (results_row_tmp rfl _ _ r2 32 _ _ rfl _ rfl HS.row Tryd.underlying32 rfl (infoF _ _ _ _ _ _ _)) rfl ?_
    exact dn_err HX.out (by simp) (.inl ⟨2, rfl, rfl⟩) bel2 LB q2 HS HRW.out
  · have HX0 : Hid (¬ bs.length = 0) := by unfold Hid; rw [← HN.out]; exact h0
    have h4 : 4 ≤ (hb76 bs).length := by rw [hXL, ← HN.out]; omega
    by_cases hk : kd bs = 1 ∨ kd bs = 2
    · have C2 := Lib.hid (readKindYes g g (hb76 bs) w2 K2 hXB h4 hk)
      have HKD : Hid (num ((hb76 bs).take 4) = kd bs) := rfl
      rw [HKD.out] at C2
      obtain ⟨k, hkk⟩ : ∃ k, k = kd bs := ⟨_, rfl⟩
      have HK := Lib.hid hkk
      rw [← hkk] at C2 hk
      clear HKD hkk
      have C3 := Lib.hid (headC (k : Int))
      obtain ⟨H, hH⟩ : ∃ H : Nat, H = hdn k := ⟨_, rfl⟩
      rw [show (if (k : Int) = 1 then (6 : Int) else if (k : Int) = 2 then 9 else 0) = ((H : Nat) : Int) from by rw [hH]; unfold hdn; rcases hk with rfl | rfl <;> rfl] at C3
      have hH2 : H = 6 ∨ H = 9 := by rw [hH]; unfold hdn; rcases hk with rfl | rfl <;> simp
      have HHK : Hid (H = hdn (kd bs)) := by unfold Hid; rw [hH, ← HK.out]
      have HHV : Hid ((k = 1 ∧ H = 6) ∨ (k = 2 ∧ H = 9)) := by unfold Hid; rw [hH]; unfold hdn; rcases hk with rfl | rfl <;> simp
      clear hH
      have HX1 : Hid (rdX bs = if bs.length < H then .sent 1 else if Crc.ok16 (bs.take H) = false then .sent 2 else match restX k ((hb76 bs).drop 4) with
          | .nil => if padE (restL k ((hb76 bs).drop 4)) = 0 then .nil else .told (padE (restL k ((hb76 bs).drop 4)))
          | x => x) := by
        unfold Hid rdX
        rw [if_neg HX0.out, if_neg (by have := HK.out; omega), ← HHK.out, ← HK.out]
      have HC4 := Lib.hid (fun (W : World) (hrd : Rd W W.heap.size A n (U8 bs)) (hEE : ErrsAt W a) => checkHeadC A n c H bs a W hrd hb hnc hc hH2 hEE)
      go_upto_region 3 with (go_at_call 79; refine C2.out.mono ?_; rintro e w3 ⟨rfl, f3, K3⟩)
      have q3 := f3.blk q2 HNG.out
      have b23 := f3.below HGW.out (fun k h => by cases h) bel2.size
      have bel3 := bel2.trans b23
      have hE3 := hE.below bel3
      have rb3 : Rd w3 w3.heap.size A n (U8 bs) := (hr.below bel3).up bel3.size
      have C4 := Lib.hid (HC4.out w3 rb3 hE3)
      clear C2 q2 b23 hE2 rb2 f3 K2 bel2
      by_cases h1 : n < H
      · have HX : Hid (rdX bs = .sent 1) := HX1.out.trans (if_pos (by rw [← HN.out]; exact h1))
        rw [if_pos h1] at C4
        go_upto_region 6 with (first | (go_at_call 41; refine (C3.out _).mono ?_; rintro e w' ⟨rfl, rfl⟩) | (go_at_call 80; refine C4.out.mono ?_; rintro e w4 ⟨b4, rfl⟩))
        have q4 := q3.after b4
        have bel4 := Below.then_ bel3 b4
        go_wp2_with (first | (refine at_box rfl 132 _ rfl #[.string _, .iface 296 (.pointer (some (a 1)))] rfl ?_; intro wb LB) | (refine at_store rfl 32 _ _ rfl r2 (FV 0 0 0 0 (.slice none 0 0) 0 0) rfl rfl 32 _ (q4.after LB.bel) (infoF _ _ _ _ _ _ _) rfl (FV_all _ _ _ _ _ _ _ _ _) ?_; intro ws HS))
        refine bodyPost_ret (v := .tuple #[.agg (FV 0 0 0 0 (.slice none 0 0) 0 0), _]) (results_row_tmp rfl _ _ r2 32 _ _ rfl _ rfl HS.row Tryd.underlying32 rfl (infoF _ _ _ _ _ _ _)) rfl ?_
        exact dn_err HX.out (by simp) (.inr ⟨1, by omega, rfl, rfl⟩) bel4 LB q4 HS HRW.out
      · rw [if_neg h1] at C4
        have HX2 := Lib.hid (HX1.out.trans (if_neg (by rw [← HN.out]; exact h1)))
        by_cases hok : Crc.ok16 (bs.take H) = false
        · have HX : Hid (rdX bs = .sent 2) := HX2.out.trans (if_pos hok)
          rw [if_pos hok] at C4
          clear hok
          go_upto_region 6 with (first | (go_at_call 41; refine (C3.out _).mono ?_; rintro e w' ⟨rfl, rfl⟩) | (go_at_call 80; refine C4.out.mono ?_; rintro e w4 ⟨b4, rfl⟩))
          have q4 := q3.after b4
          have bel4 := Below.then_ bel3 b4
          go_wp2_with (first | (refine at_box rfl 132 _ rfl #[.string _, .iface 296 (.pointer (some (a 2)))] rfl ?_; intro wb LB) | (refine at_store rfl 32 _ _ rfl r2 (FV 0 0 0 0 (.slice none 0 0) 0 0) rfl rfl 32 _ (q4.after LB.bel) (infoF _ _ _ _ _ _ _) rfl (FV_all _ _ _ _ _ _ _ _ _) ?_; intro ws HS))
          refine bodyPost_ret (v := .tuple #[.agg (FV 0 0 0 0 (.slice none 0 0) 0 0), _]) (results_row_tmp rfl _ _ r2 32 _ _ rfl _ rfl HS.row Tryd.underlying32 rfl (infoF _ _ _ _ _ _ _)) rfl ?_
          exact dn_err HX.out (by simp) (.inr ⟨2, by omega, rfl, rfl⟩) bel4 LB q4 HS HRW.out
        · rw [if_neg hok] at C4
          have HX3 := Lib.hid (HX2.out.trans (if_neg hok))
          clear hok HX1 HX2
          have hxl : (if k = 2 then 68 else 44) ≤ ((hb76 bs).drop 4).length := by
            rw [List.length_drop, hXL, ← HN.out]
            have := HHV.out
            split <;> omega
          have C5 := Lib.hid (fun (W : World) (hR : RdB W g g ((hb76 bs).drop 4)) (hEE : ErrsAt W a) => readRestC g k ((hb76 bs).drop 4) a W hR (fun x hx => hXB x (List.mem_of_mem_drop hx)) hk hxl hEE h5 hla)
          have hxs := Lib.hid (fun x (hx : x ∈ (hb76 bs).drop 4) => hXB x (List.mem_of_mem_drop hx))
          have hxn : ((hb76 bs).drop 4).length ≤ 608 := by rw [List.length_drop, hXL]; omega
          have HKF : Hid (restF (kd bs) ((hb76 bs).drop 4) = restF k ((hb76 bs).drop 4) ∧ restB (kd bs) ((hb76 bs).drop 4) = restB k ((hb76 bs).drop 4)) := by unfold Hid; rw [← HK.out]; exact ⟨rfl, rfl⟩
          obtain ⟨xs, hxsE⟩ : ∃ xs, xs = (hb76 bs).drop 4 := ⟨_, rfl⟩
          rw [← hxsE] at C5 hxs hxn HKF HX3 K3 hxl
          have HXS := Lib.hid hxsE
          clear hxsE
          go_upto_region 8 with (first | (go_at_call 41; refine (C3.out _).mono ?_; rintro e w' ⟨rfl, rfl⟩) | (go_at_call 80; refine C4.out.mono ?_; rintro e w4 ⟨b4, rfl⟩))
          have q4 := q3.after b4
          have bel4 := Below.then_ bel3 b4
          have hE4 := hE3.below b4
          have K4 := K3.below b4 (Nat.le_of_lt K3.lt) K3.lt
          have HG4 : Hid (g < w4.heap.size) := K4.lt
          have C5' := Lib.hid (C5.out w4 K4 hE4)
          clear C5 q3 bel3 hE3 K3 C4
          go_upto_region 9 with (first | (go_at_call 81; refine C5'.out.mono ?_; rintro e w5 ⟨F, v, rfl, G5, f5⟩) | (refine at_alloc rfl 32 rfl _ zeroF ?_; intro w6 L6) | (refine at_store rfl 32 _ _ rfl w5.heap.size F rfl rfl 32 _ L6.row (infoF7 G5.size) (G5.size.symm ▸ rfl) G5.all ?_; intro w7 H7))
          have b57 : Below w5.heap.size w5 w7 := L6.bel.trans (H7.below (Nat.le_refl _))
          have G7 := G5.below b57
          have q5 := f5.blk q4 HNG.out
          have q7 := q5.after b57
          have t7 : Blk w7 w5.heap.size 32 F := H7.row
          have bel5 := bel4.trans (f5.below HGW.out (fun k h => by cases h) bel4.size)
          have bel7 := Below.then_ bel5 b57
          have HS4 : Hid (w.heap.size ≤ w4.heap.size) := bel4.size
          have HR4 : Hid (r2 < w4.heap.size) := q4.lt
          have HRT : Hid (r2 < w5.heap.size) := q5.lt
          have hFs := G5.size
          have hFa := G5.all
          have HTG : Hid (w5.heap.size ≠ g) := by unfold Hid; have := f5.size; have := HG4.out; omega
          obtain ⟨g8, hg8⟩ : ∃ g, g = w5.heap.size := ⟨_, rfl⟩
          rw [← hg8] at t7 HRT HTG ⊢
          clear L6 H7 hg8 b57 q5 q4 bel4 bel5 f5 G5 hE4 K4 C5'
          by_cases hx : restX k xs = .nil
          · have hv : v = .nilIface := by have := G7.er; rw [hx] at this; exact this
            subst hv
            obtain ⟨A7, n7, c7, hF, own7, K7⟩ := G7.yes hx
            have HX4 : Hid (rdX bs = if padE (restL k xs) = 0 then .nil else .told (padE (restL k xs))) := by unfold Hid; rw [HX3.out, hx]
            have HLB : Hid (∀ x ∈ restL k xs, x ≤ 1) := fun x h => hxs.out x (by unfold restL at h; split at h <;> exact List.mem_of_mem_drop h)
            have HLN : Hid ((restL k xs).length ≤ 608) := by
              unfold Hid restL
              split <;> rw [List.length_drop] <;> omega
            generalize restL k xs = ys at *
            have CP : Hid (Calls Tryd.prog 82 #[.pointer (some ⟨g, 0, none⟩)] w7 fun e w' => e = .returned (.int .i64 (padE ys : Nat)) ∧ Fr w7 w' g none) := by
              obtain ⟨Ar, nr, cr, hrr, _⟩ := K7
              refine (padC g Ar nr cr ys w7 hrr HLB.out (by rw [hrr.rd.len8]; have := HLN.out; omega)).mono ?_
              rintro e w' ⟨he, _, _, _, _, hf, _⟩
              exact ⟨he, hf⟩
            by_cases hp : padE ys = 0
            · rw [hp] at CP
              have HX : Hid (rdX bs = .nil) := HX4.out.trans (if_pos hp)
              clear hp
              go_upto_region 14 with (go_at_call 82; refine CP.out.mono ?_; rintro e w8 ⟨rfl, f8⟩)
              have t8 := f8.blk t7 HTG.out
              have q8 := f8.blk q7 HNG.out
              have own8 := f8.own own7 HG4.out
              have bel8 := bel7.trans (f8.below HGW.out (fun k h => by cases h) bel7.size)
              go_wp2_with (first | (refine at_load rfl 32 _ rfl g8 rfl 32 F _ t8 Tryd.underlying32 rfl (infoF7 hFs) ?_) | (refine at_store rfl 32 _ _ rfl r2 F rfl rfl 32 _ q8 (infoF7 hFs) (hFs.symm ▸ rfl) hFa ?_; intro w9 H9))
              refine bodyPost_ret (v := .tuple #[.agg F, .nilIface]) (results_row_tmp rfl _ _ r2 32 _ _ rfl _ rfl H9.row Tryd.underlying32 rfl (infoF7 hFs)) rfl ?_
              refine ⟨F, .nilIface, rfl, ⟨by rw [HX.out]; rfl, fun _ => ⟨A7, n7, c7, ?_, ?_⟩, fun h => absurd HX.out h⟩, bel8.trans (H9.below HRW.out)⟩
              · rw [← HXS.out, HKF.out.1]; exact hF
              · rw [← HXS.out, HKF.out.2]; exact (own8.upd H9 HR4.out).down HS4.out
            · have HX : Hid (rdX bs = .told (padE ys)) := HX4.out.trans (if_neg hp)
              have t1 : (((padE ys : Nat) : Int) != 0) = true := by simp; omega
              generalize padE ys = pe at *
              go_upto_region 13 with (go_at_call 82; refine CP.out.mono ?_; rintro e w8 ⟨rfl, f8⟩)
              have q8 := f8.blk q7 HNG.out
              have bel8 := bel7.trans (f8.below HGW.out (fun k h => by cases h) bel7.size)
              go_wp2_with (first | (refine at_box rfl 132 _ rfl #[.string _, .iface 136 (.int .i64 (pe : Int))] rfl ?_; intro wb LB) | (refine at_store rfl 32 _ _ rfl r2 (FV 0 0 0 0 (.slice none 0 0) 0 0) rfl rfl 32 _ (q8.after LB.bel) (infoF _ _ _ _ _ _ _) rfl (FV_all _ _ _ _ _ _ _ _ _) ?_; intro ws HS))
              refine bodyPost_ret (v := .tuple #[.agg (FV 0 0 0 0 (.slice none 0 0) 0 0), _]) (results_row_tmp rfl _ _ r2 32 _ _ rfl _ rfl HS.row Tryd.underlying32 rfl (infoF _ _ _ _ _ _ _)) rfl ?_
              exact dn_err HX.out (by simp) (.inl ⟨pe, rfl, rfl⟩) bel8 LB q8 HS HRW.out
          · obtain ⟨gu, hv⟩ := G7.er.ne hx
            have HV := Lib.hid G7.er
            have HX : Hid (rdX bs = restX k xs) := by
              unfold Hid
              rw [HX3.out]
              revert hx
              cases restX k xs <;> intro hx
              · exact absurd rfl hx
              · rfl
              · rfl
            subst hv
            go_wp2_with (refine at_store rfl 32 _ _ rfl r2 (FV 0 0 0 0 (.slice none 0 0) 0 0) rfl rfl 32 _ q7 (infoF _ _ _ _ _ _ _) rfl (FV_all _ _ _ _ _ _ _ _ _) ?_; intro w9 H9)
            refine bodyPost_ret (v := .tuple #[.agg (FV 0 0 0 0 (.slice none 0 0) 0 0), _]) (results_row_tmp rfl _ _ r2 32 _ _ rfl _ rfl H9.row Tryd.underlying32 rfl (infoF _ _ _ _ _ _ _)) rfl ?_
            exact ⟨_, _, rfl, ⟨by rw [HX.out]; exact HV.out.upd q7 H9, fun h => absurd (HX.out.symm.trans h) hx, fun _ => rfl⟩, bel7.trans (H9.below HRW.out)⟩
    · have HX : Hid (rdX bs = .sent 0) := by unfold Hid rdX; rw [if_neg HX0.out, if_pos (by omega)]
      have C2 := Lib.hid (readKindNo g g (hb76 bs) a w2 K2 hXB h4 (by unfold kd at hk; omega) hE2 h5 hla)
      go_upto_region 3 with (go_at_call 79; refine C2.out.mono ?_; rintro e w3 ⟨rfl, f3⟩)
      have q3 := f3.blk q2 HNG.out
      have bel3 := bel2.trans (f3.below HGW.out (fun k h => by cases h) bel2.size)
      go_wp2_with (first | (refine at_box rfl 132 _ rfl #[.string _, .iface 296 (.pointer (some (a 0)))] rfl ?_; intro wb LB) | (refine at_store rfl 32 _ _ rfl r2 (FV 0 0 0 0 (.slice none 0 0) 0 0) rfl rfl 32 _ (q3.after LB.bel) (infoF _ _ _ _ _ _ _) rfl (FV_all _ _ _ _ _ _ _ _ _) ?_; intro ws HS))
      refine bodyPost_ret (v := .tuple #[.agg (FV 0 0 0 0 (.slice none 0 0) 0 0), _]) (results_row_tmp rfl _ _ r2 32 _ _ rfl _ rfl HS.row Tryd.underlying32 rfl (infoF _ _ _ _ _ _ _)) rfl ?_
      exact dn_err HX.out (by simp) (.inr ⟨0, by omega, rfl, rfl⟩) bel3 LB q3 HS HRW.out
end Go.Proofs.YtkmacepodomdmaaDoor
