/-
  The walk of layer 2's statement BitioTakes.
-/
import Derived.Test.YtcddbcknjcedfaaRb
namespace Go.Proofs.Ytcddbcknjcedfaa
open Go.RowKit
set_option linter.unusedVariables false
set_option linter.unusedSimpArgs false

/-- What the second loop keeps: the Reader and the list tell the same. -/
def TkInv (w0 : World) (g : Nat) (Al : Option Addr) (n cl : Nat) (wr : World) : Prop :=
  ∃ A c bs, Rr wr g A n c bs ∧ Rd wr wr.heap.size Al n (U8 bs) ∧ (∀ x ∈ bs, x ≤ 1) ∧ n ≤ cl ∧ cl ≤ 9223372036854775807 ∧ Fr w0 wr g none ∧ n ≤ 480

theorem Fr.trans {w w1 w2 : World} {g : Nat} (h : Fr w w1 g none) (k : Fr w1 w2 g none) : Fr w w2 g none :=
  ⟨k.os.trans h.os, k.tape.trans h.tape, k.output.trans h.output, Nat.le_trans h.size k.size, fun i hi hg hr => (k.block i (Nat.lt_of_lt_of_le hi h.size) hg hr).trans (h.block i hi hg hr)⟩

/-- The list's address does not matter where nothing is left. -/
theorem rd_dropA {w : World} {B : Nat} {A A' : Option Addr} {n c wd : Nat} {bs : List Nat} (h : Rd w B A n (U8 bs)) (hn : n ≤ c) (hw : wd ≤ n) (hA : ∀ b off, A = some ⟨b, off, none⟩ → c ≠ wd → A' = some ⟨b, off + wd, none⟩) : Rd w B A' (n - wd) (U8 (bs.drop wd)) := by
  have hl := h.len8
  refine ⟨by rw [U8_length, List.length_drop]; omega, fun hn0 => ?_⟩
  obtain ⟨b, off, e, hlt, hc⟩ := h.at_ (by omega)
  refine ⟨b, off + wd, hA b off e (by omega), hlt, fun i u hu => ?_⟩
  rw [Nat.add_assoc]
  refine hc (wd + i) u ?_
  unfold U8 at *
  rw [List.map_drop, List.getElem?_drop] at hu
  exact hu

set_option maxHeartbeats 4000000 in
set_option maxRecDepth 100000 in
/-- BitioTakes. -/
theorem walk8 (A A2 : Option Addr) (n c n2 c2 sp : Nat) (xs : List Nat) (zs : List Int) (w : World) (h1 : Rd w w.heap.size A n (U8 xs)) (h2 : Rd w w.heap.size A2 n2 (I64 zs)) (b1 : ∀ b ∈ xs, b < 256) (hnc : n ≤ c) (hc : c ≤ 9223372036854775807) (hnone : A = none → n = 0 ∧ c = 0)
    (m2 : n2 ≤ c2) (m3 : c2 ≤ 9223372036854775807) (hsp : sp < 256) :
    Calls Try.prog 8 #[.slice A n c, .slice A2 n2 c2, .int .u8 (sp : Int)] w fun e w' => e = .returned (.bool true) ∧ Below w.heap.size w w' := by
  obtain ⟨i0, hi0, hz0, hz1, hz2⟩ := info_parts info5
  obtain ⟨k, hk, hk2, hk3⟩ := min_if n 60
  obtain ⟨hm1, hm2⟩ := hk3 60 rfl
  clear hk3
  have r1 := h1.cut8 k hk2
  have bk := take256 b1 k
  generalize xs.take k = ls at *
  have hn2 : A = none → k = 0 ∧ c = 0 := fun h => ⟨by have := (hnone h).1; omega, (hnone h).2⟩
  have BK := Lib.hid bk
  clear h1 b1 hnone bk
  go_enter Try.func8, Try.ntmps8
  go_wp2_with fail
  refine (takeNil 1 _).mono ?_
  rintro e w' ⟨rfl, rfl⟩
  go_wp2_with fail
  refine (puts _).mono ?_
  rintro e wp ⟨rfl, bep⟩
  go_wp2_with fail
  refine (leftNil _).mono ?_
  rintro e w' ⟨rfl, rfl⟩
  go_wp2_with fail
  refine (padNil _).mono ?_
  rintro e w' ⟨rfl, rfl⟩
  have r2 : Rd (wp.alloc (.cells #[] 5)) wp.heap.size A k (U8 ls) := ((r1.below bep).up bep.size).below ((Below.refl _ _).alloc (Nat.le_refl _) _)
  have o1 : Own (wp.alloc (.cells #[] 5)) wp.heap.size 5 (some ⟨wp.heap.size, 0, none⟩) 0 0 [] := ⟨World.ownsRow_made wp #[] 0 (Nat.le_refl _) (by unfold maxLen; omega) (by simp)⟩
  clear r1
  go_wp2_with (at_builtin; refine wpList_app _ rfl _ _ 22 rfl wp.heap.size 5 i0 _ 1 Try.underlying22 hi0 hz0 hz1 hz2 rfl _ 0 0 [] rfl o1 wp.heap.size A k c (U8 ls) rfl r2 hn2 (U8_one ls) (by omega) (by unfold maxLen; omega) (by simp) ?_; intro A5 c5 w5 hown5 hgrow5; have own := hown5.to (Nat.zero_add k) (List.nil_append (U8 ls)))
  have bel : Below w.heap.size w w5 := Below.then_ bep (((Below.refl _ _).alloc (Nat.le_refl _) _).grown hgrow5 (by simp) (fun j hj => by simp [Value.ownBlock] at hj; omega))
  have hbase := bep.size
  clear hown5 hgrow5 r2 hn2 o1 hi0 hz0 hz1 hz2 hm1 hm2
  have HN := Lib.hid own.rd.len8
  refine (refOf A5 k c5 ls w5 (own.rdOf (Below.refl _ _)) BK.out (by omega)).mono ?_
  rintro e w6 ⟨A6, n6, c6, rfl, ow6, be6⟩
  have own6 := own.below be6 (Nat.le_refl _)
  have hn6 : n6 ≤ 480 := by rw [ow6.rd.len8, Bm.ofBytes_length, ← HN.out]; omega
  have H6 := Lib.hid ow6.rd.len8
  have bel6 := Below.then_ bel be6
  go_wp2_with fail
  refine (ofC A5 k c5 ls w6 (own6.rdOf (Below.refl _ _)) BK.out (by omega)).mono ?_
  rintro e w7 ⟨w1, A7, n7, c7, rfl, rfl, ow7, be7⟩
  have own7 := own6.below be7 (Nat.le_refl _)
  have ow67 := ow6.below be7 (Nat.le_refl _)
  obtain rfl : n6 = n7 := by rw [H6.out]; exact ow7.rd.len8.symm
  have bel7 := Below.then_ bel6 be7
  have hs5 : w5.heap.size ≤ w1.heap.size := Nat.le_trans be6.size be7.size
  have hg5 : ∀ j, (Value.slice A5 k c5).ownBlock = some j → w.heap.size ≤ j ∧ j < w5.heap.size := fun j hj => ⟨Nat.le_trans hbase (own.block j hj).1, (own.block j hj).2⟩
  obtain ⟨w8, hw8⟩ : ∃ w8, w8 = w1.alloc (.cells #[.slice A7 n6 c7] 78) := ⟨_, rfl⟩
  have hbel8 : Below w1.heap.size w1 w8 := by rw [hw8]; exact (Below.refl _ _).alloc (Nat.le_refl _) _
  have box8 : Box w8 78 w1.heap.size A7 n6 c7 := by rw [hw8]; exact heap_alloc_new w1 _
  rw [← hw8]
  clear hw8
  have own8 := own7.below hbel8 (Nat.le_refl _)
  have ow68 := ow67.below hbel8 (Nat.le_refl _)
  have ow78 := ow7.below hbel8 (Nat.le_refl _)
  have bel8 := Below.then_ bel7 hbel8
  have hs6 := be6.size
  have hgw := bel7.size
  have hs7 := be7.size
  clear own own6 own7 ow6 ow67 ow7 be6 be7 bel6 bel7 bel hbel8 bep
  have bd6 := ow68.bounds
  have bd7 := ow78.bounds
  obtain ⟨row, hrow⟩ : ∃ row, row = (Value.slice A5 k c5).ownBlock := ⟨_, rfl⟩
  rw [← hrow] at hg5
  have HROW := Lib.hid hrow
  clear hrow
  go_wp2
  go_loopw [12] (fun i wr => ∃ q : Nat, q ≤ k ∧ i = .int .i64 q ∧ (∃ ys, Own wr wp.heap.size 5 A5 k c5 (U8 ys) ∧ ∀ y ∈ ys, y < 256) ∧ Fr w8 wr w8.heap.size row) (fun i _ => k - (intOf i).toNat)
  case atStart => exact ⟨0, Nat.zero_le _, rfl, ⟨ls, own8, BK.out⟩, Fr.refl _ _ _⟩
  case round =>
    obtain ⟨q, hq, rfl, ⟨ys, hown, hys⟩, hfr⟩ := hrel
    by_cases hlt : q < k
    · obtain ⟨g, rfl, hg1, hg2, hgc, hgf, hgs⟩ := hown.slot q hlt
      have hl : k = ys.length := by have := hown.len; rw [U8_length] at this; exact this.symm
      rw [U8_get _ q (by omega)] at hgc
      have hx := Bm.byte_lt ys hys q
      obtain ⟨x, hxe⟩ : ∃ x, x = ys.getD q 0 := ⟨_, rfl⟩
      rw [← hxe] at hgc hx
      have e1 := u8_xor_nat x sp hx hsp
      have hx2 : x ^^^ sp < 256 := Nat.xor_lt_two_pow (n := 8) hx hsp
      have HS := Lib.hid (hgs (.int .u8 ((x ^^^ sp : Nat) : Int)))
      have HYS := Lib.hid hys
      have hR : row = some g := HROW.out
      have HR := Lib.hid hR
      clear hgs hxe hl hys hR
      go_wp2
      go_roundw
      case rel =>
        refine ⟨q + 1, by omega, by go_num, ⟨ys.set q (x ^^^ sp), ?_, ?_⟩, ?_⟩
        · rw [← U8_set]; exact HS.out
        · intro y hy
          rcases List.mem_or_eq_of_mem_set hy with h | h
          · exact HYS.out y h
          · rw [h]; exact hx2
        · exact ⟨hfr.os, hfr.tape, hfr.output, by simpa [World.setCell] using hfr.size, fun j hj hj2 hj3 => (Below.heap_setCell _ _ _ _ (by rintro rfl; exact hj3 HR.out.symm)).trans (hfr.block j hj hj2 hj3)⟩
      case measure => simp [intOf] <;> omega
    · have bel9 : Below w.heap.size w wr := bel8.trans (hfr.below (by have := bel8.size; omega) (fun j hj => (hg5 j hj).1) bel8.size)
      have kp : ∀ j, w5.heap.size ≤ j → j < w8.heap.size → wr.heap[j]? = w8.heap[j]? := fun j h1 h2 => hfr.block j h2 (by omega) (fun e => by have := (hg5 j e.symm).2; omega)
      have box9 : Box wr 78 w1.heap.size A7 n6 c7 := box8.keep (kp _ hs5 box8.lt)
      have ow69 : Own wr w5.heap.size 5 A6 n6 c6 (U8 (Bm.ofBytes ls)) := ow68.keep fun j hj => kp j (ow68.block j hj).1 (ow68.block j hj).2
      have ow79 : Own wr w6.heap.size 5 A7 n6 c7 (U8 (Bm.ofBytes ls)) := ow78.keep fun j hj => kp j (by have := (ow78.block j hj).1; omega) (ow78.block j hj).2
      have inv0 : TkInv wr w1.heap.size A6 n6 c6 wr := ⟨A7, c7, _, ⟨box9, ow79.rdOf (Below.refl _ _), bd7.1, by unfold maxLen at bd7; omega⟩, ow69.rdOf (Below.refl _ _), Bm.ofBytes_bit ls, bd6.1, by unfold maxLen at bd6; omega, Fr.refl _ _ _, hn6⟩
      have rz9 := (h2.below bel9).up bel9.size
      clear hfr hown hys kp box9 ow69 ow79 own8 ow68 ow78 box8 bel8
      obtain ⟨g, hg⟩ : ∃ g, g = w1.heap.size := ⟨_, rfl⟩
      rw [← hg] at inv0 hgw ⊢
      clear hg
      go_wp2
      go_loopw [10, 13] (fun l i wr2 => ∃ q nl cl Al, q ≤ n2 ∧ q ≤ 30 ∧ i = .int .i64 (q : Nat) ∧ l = .slice Al nl cl ∧ TkInv wr g Al nl cl wr2) (fun _ i _ => n2 - (intOf i).toNat)
      case atStart => exact ⟨0, n6, c6, A6, Nat.zero_le _, Nat.zero_le _, rfl, rfl, inv0⟩
      case round =>
        clear inv0
        obtain ⟨q, nl, cl, Al, hq1, hq2, rfl, rfl, ⟨Ar, cr, bs, hrr, hrd, hbit, hncl, hcl, hfr, hnl⟩⟩ := hrel
        by_cases hlt2 : q < n2 ∧ q < 30
        · obtain ⟨hlt3, hlt4⟩ := hlt2
          have t1 : decide ((q : Int) < (n2 : Int)) = true := by simp; omega
          have t2 : decide ((q : Int) < 30) = true := by simp; omega
          have bel10 : Below w.heap.size w wr := bel9.trans (hfr.below hgw (fun j hj => by cases hj) bel9.size)
          obtain ⟨b', off', rfl, hlt5, hcell⟩ := ((h2.below bel10).up bel10.size).cell64 q hlt3
          obtain ⟨z, hz⟩ : ∃ z, z = zs.getD q 0 := ⟨_, rfl⟩
          rw [← hz] at hcell
          clear hz
          have BIT := Lib.hid hbit
          by_cases hz1 : z < 1 ∨ 32 < z
          · have CA := Lib.hid (fun w => takeArg g z w hz1)
            have CB := Lib.hid (fun w => refTakeArg Al nl cl z w hz1)
            have CL := Lib.hid (leftC g Ar nl cr bs wr hrr)
            go_wp2_with fail
            refine (CA.out _).mono ?_
            rintro e w' ⟨rfl, rfl⟩
            go_wp2_with fail
            refine (CB.out _).mono ?_
            rintro e w' ⟨rfl, rfl⟩
            go_wp2_with fail
            refine CL.out.mono ?_
            rintro e w' ⟨rfl, rfl⟩
            go_wp2_with fail
            go_roundw
            case rel => exact ⟨q + 1, nl, cl, Al, by omega, by omega, by go_num, rfl, Ar, cr, bs, hrr, hrd, BIT.out, hncl, hcl, hfr, hnl⟩
            case measure => simp [intOf] <;> omega
          · obtain ⟨wd, rfl⟩ := Int.eq_ofNat_of_zero_le (show 0 ≤ z by omega)
            have hw1 : 1 ≤ wd := by omega
            have hw2 : wd ≤ 32 := by omega
            clear hz1
            by_cases hsh : nl < wd
            · have CA := Lib.hid (takeShort g Ar nl cr wd wr hrr.box hw1 hw2 hsh)
              have CB := Lib.hid (fun w => refTakeShort Al nl cl wd w hw1 hw2 hsh)
              have CL := Lib.hid (leftC g Ar nl cr bs wr hrr)
              go_wp2_with fail
              refine CA.out.mono ?_
              rintro e w' ⟨rfl, rfl⟩
              go_wp2_with fail
              refine (CB.out _).mono ?_
              rintro e w' ⟨rfl, rfl⟩
              go_wp2_with fail
              refine CL.out.mono ?_
              rintro e w' ⟨rfl, rfl⟩
              go_wp2_with fail
              go_roundw
              case rel => exact ⟨q + 1, nl, cl, Al, by omega, by omega, by go_num, rfl, Ar, cr, bs, hrr, hrd, BIT.out, hncl, hcl, hfr, hnl⟩
              case measure => simp [intOf] <;> omega
            · have hle : wd ≤ nl := by omega
              clear hsh
              obtain ⟨bl, ol, rfl, _, _⟩ := hrd.at_ (by omega)
              have CA := Lib.hid (takeC g Ar nl cr wd bs wr hrr BIT.out hw1 hw2 hle)
              go_wp2_with fail
              refine CA.out.mono ?_
              rintro e w10 ⟨rfl, hf10, A10, n10, c10, hr10⟩
              have rl10 := hrd.keepFr hrr.box hf10
              obtain rfl : n10 = nl - wd := by have h1 := hr10.rd.len8; have h3 := hrd.len8; rw [List.length_drop] at h1; omega
              have CB := Lib.hid (refTakeOk (some ⟨bl, ol, none⟩) nl cl wd bs w10 rl10 BIT.out hw1 hw2 hle)
              have CL := Lib.hid (leftC g A10 (nl - wd) c10 (bs.drop wd) w10 hr10)
              have bel11 : Below w.heap.size w w10 := bel10.trans (hf10.below hgw (fun j hj => by cases hj) bel10.size)
              have hcell10 : w10.cell? ⟨b', off' + q, none⟩ = some (.int .i64 (wd : Int)) := by
                have hlt6 : b' ≠ g := by
                  rintro rfl
                  have hh := hrr.box.cell
                  have hb := hrr.box
                  unfold Box at hb
                  rw [cell_of_row wr b' (off' + q) _ 78 (0, 0) hb] at hcell
                  cases hoq : off' + q with
                  | zero => rw [hoq] at hcell; simp at hcell
                  | succ o => rw [hoq] at hcell; simp at hcell
                exact (World.cell?_of_block (w := wr) (a := ⟨b', off' + q, none⟩) (hf10.block b' hlt5 hlt6 (by simp))).trans hcell
              have rcut := rd_drop rl10 hncl hle
              have hbd : ∀ x ∈ bs.drop wd, x ≤ 1 := fun x hx => BIT.out x (List.mem_of_mem_drop hx)
              have hfr2 := hfr.trans hf10
              have nb := num_lt (bs.take wd) (fun x h => BIT.out x (List.mem_of_mem_take h))
              clear hcell hrd hrr hfr hf10 rl10 nb
              generalize num (bs.take wd) = vv at *
              by_cases hcw : cl = wd
              · rw [if_pos hcw] at rcut
                have hz0 : nl - wd = 0 := by omega
                rw [hz0] at rcut hr10 CL
                clear hz0
                subst hcw
                go_wp2_with fail
                refine CB.out.mono ?_
                rintro e w' ⟨rfl, rfl⟩
                go_wp2_with fail
                refine CL.out.mono ?_
                rintro e w' ⟨rfl, rfl⟩
                go_wp2_with fail
                go_roundw
                case rel => exact ⟨q + 1, 0, 0, _, by omega, by omega, by go_num, rfl, A10, c10, _, hr10, rcut, hbd, by omega, by omega, hfr2, by omega⟩
                case measure => simp [intOf] <;> omega
              · rw [if_neg hcw] at rcut
                go_wp2_with fail
                refine CB.out.mono ?_
                rintro e w' ⟨rfl, rfl⟩
                go_wp2_with fail
                refine CL.out.mono ?_
                rintro e w' ⟨rfl, rfl⟩
                go_wp2_with fail
                go_roundw
                case rel => exact ⟨q + 1, nl - wd, cl - wd, _, by omega, by omega, by go_num, rfl, A10, c10, bs.drop wd, hr10, rcut, hbd, by omega, by omega, hfr2, by omega⟩
                case measure => simp [intOf] <;> omega
        · have bel10 : Below w.heap.size w wr := bel9.trans (hfr.below hgw (fun j hj => by cases hj) bel9.size)
          have CP := Lib.hid (refPad Al nl cl bs wr hrd (bit256 hbit) (by omega))
          have CQ := Lib.hid (padC g Ar nl cr bs wr hrr hbit (by omega))
          have hl := hrr.rd.len8
          have HL := Lib.hid hl
          have BIT := Lib.hid hbit
          have hpe : padE bs ≤ 5 := by unfold padE; split <;> (try split) <;> omega
          clear hl hbit hrd hfr
          by_cases hq3 : q < n2
          all_goals first
            | (have t1 : decide ((q : Int) < (n2 : Int)) = true := by simp; omega
               have t2 : decide ((q : Int) < 30) = false := by simp; omega)
            | have t1 : decide ((q : Int) < (n2 : Int)) = false := by simp; omega
          all_goals
            go_wp2_with fail
            refine CP.out.mono ?_
            rintro e w' ⟨rfl, rfl⟩
            go_wp2_with fail
            refine CQ.out.mono ?_
            rintro e w11 ⟨rfl, A11, n11, c11, ls11, hf11, hr11, hz11, hn11⟩
            have bel11 : Below w.heap.size w w11 := bel10.trans (hf11.below hgw (fun j hj => by cases hj) bel10.size)
            have CL := Lib.hid (leftC g A11 n11 c11 ls11 w11 hr11)
            by_cases hp0 : padE bs = 0
            · have h0 : n11 = 0 := by rw [hr11.rd.len8, hz11 hp0]; rfl
              rw [h0] at CL
              rw [hp0]
              clear hz11 hn11 hr11 h0 hp0
              go_wp2_with fail
              refine CL.out.mono ?_
              rintro e w' ⟨rfl, rfl⟩
              go_wp2_with fail
              go_ret
              exact ⟨rfl, bel11⟩
            · have h0 : n11 = nl := by rw [hr11.rd.len8, hn11 hp0]; exact HL.out.symm
              rw [h0] at CL
              have t5 : ((padE bs : Int) == 0) = false := by simp; omega
              have t6 : ((padE bs : Int) != 0) = true := by simp; omega
              generalize padE bs = pe at *
              clear hz11 hn11 hr11 h0
              go_wp2_with fail
              refine CL.out.mono ?_
              rintro e w' ⟨rfl, rfl⟩
              go_wp2_with fail
              go_ret
              exact ⟨rfl, bel11⟩
end Go.Proofs.Ytcddbcknjcedfaa
