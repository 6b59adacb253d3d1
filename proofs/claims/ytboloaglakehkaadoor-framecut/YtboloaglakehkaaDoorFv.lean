/-
  The walk of FrameCut.
-/
import Derived.Test.YtboloaglakehkaaDoorFu
import Derived.Test.YtboloaglakehkaaDoorFt
namespace Go.Proofs.YtboloaglakehkaaDoor
open Go.RowKit
set_option maxRecDepth 100000
set_option linter.unusedVariables false
set_option linter.unusedSimpArgs false

set_option maxHeartbeats 4000000 in
set_option maxRecDepth 100000 in
theorem frameCut (kind seq ver len : Int) (A : Option Addr) (n c : Nat) (ba : Int) (more : Nat) (body : List Nat) (at_ : Int) (mb : Nat) (a : Nat → Addr) (w : World) (hr : Rd w w.heap.size A n (U8 body)) (h256 : ∀ b ∈ body, b < 256) (hnc : n ≤ c) (hc : c ≤ 9223372036854775807) (hnone : A = none → n = 0 ∧ c = 0) (hv : -9223372036854775808 ≤ ver ∧ ver ≤ 9223372036854775807) (hm : more < 4294967296) (hmb : mb < 256) (hE : ErrsAt w a) :
    Calls Tryd.prog 6 #[.agg (RV kind seq ver len (.slice A n c) ba more), .int .i64 at_, .int .u8 (mb : Int)] w fun e w' => e = .returned (.bool true) ∧ Below w.heap.size w w' := by
  obtain ⟨i0, hi0, hz0, hz1, hz2⟩ := info_parts info5
  obtain ⟨sq, hsq⟩ : ∃ s : Nat, (s : Int) = seq % 65536 := ⟨(seq % 65536).toNat, by omega⟩
  obtain ⟨b2, hb2⟩ : ∃ s : Nat, (s : Int) = ba % 65536 := ⟨(ba % 65536).toNat, by omega⟩
  have hsq2 : sq < 65536 := by omega
  have hb22 : b2 < 65536 := by omega
  have HB7 : Hid ((body.take 700).length ≤ 700) := by unfold Hid; rw [List.length_take]; omega
  have HT := Lib.hid (fun (W : World) (h : Rd W W.heap.size A n (U8 body)) => tameC kind seq ver len A n c ba more body W h hnc hc hnone)
  rw [← hsq, ← hb2] at HT
  have h256' : ∀ b ∈ body.take 700, b < 256 := fun b hb => h256 b (List.mem_of_mem_take hb)
  clear hsq hb2
  generalize body.take 700 = bd at *
  have HO := Lib.hid (fun (A' : Option Addr) (n' c' : Nat) (W : World) (h : Rd W W.heap.size A' n' (U8 bd)) (hn : A' = none → n' = 0 ∧ c' = 0) => toC kind sq ver len A' n' c' b2 more bd W h (by rw [h.len8]; have := HB7.out; omega) hn hsq2 hb22)
  have HWr := Lib.hid (fun (A' : Option Addr) (n' c' : Nat) (W : World) (h : Rd W W.heap.size A' n' (U8 bd)) => writeC kind sq ver len A' n' c' b2 more bd W hsq2 hv h h256' (by rw [h.len8]; have := HB7.out; omega) hb22 hm)
  have HCK := Lib.hid (cut_write (kind := kind) (ver := ver) (len := len) (q := sq) (b := b2) (m := more) (body := bd) hsq2 hb22 hm)
  have HCF := Lib.hid (fun (W : World) (h : ErrsAt W a) => framesC a W h)
  generalize WE kind ver len bd = we at *
  generalize WB kind sq ver len bd b2 more = wb at *
  go_enter Tryd.func6, Tryd.ntmps6
  go_upto_region 1 with (refine at_box rfl 25 _ rfl (RV kind seq ver len (.slice A n c) ba more) rfl ?_; intro w1 L1)
  have p1 := L1.row
  have bel1 := L1.bel
  have r1 := (hr.below bel1).up bel1.size
  obtain ⟨g1, hg1⟩ : ∃ g, g = w.heap.size := ⟨_, rfl⟩
  rw [← hg1] at p1 ⊢
  clear L1 hg1
  go_upto_region 2 with (first | (refine at_load rfl 25 _ rfl g1 rfl 25 (RV kind seq ver len (.slice A n c) ba more) _ p1 Tryd.underlying25 rfl (infoR _ _ _ _ _ _ _) ?_) | (go_at_call 9; refine (HT.out _ r1).mono ?_; rintro e w2 ⟨A2, n2, c2, rfl, own2, be2⟩) | (go_at_call 10; refine (HO.out _ _ _ _ own2.rd own2.none_).mono ?_; rintro e w3 ⟨A3, n3, c3, rfl, own3, be3⟩) | (go_at_call 11; refine (HWr.out _ _ _ _ own3.rd).mono ?_; rintro e w4 ⟨A4, n4, c4, rfl, own4, be4⟩))
  have bel4 := Below.then_ (Below.then_ (Below.then_ bel1 be2) be3) be4
  have CF := Lib.hid (HCF.out w4 (hE.below bel4))
  clear HT HO HWr own2 own3 be2 be3 be4 r1 bel1 p1
  by_cases hw0 : we = 0
  · subst hw0
    obtain ⟨hp, hl75, hlt, hcut, hmore⟩ := HCK.out rfl
    have HCUT := Lib.hid hcut
    have HMORE := Lib.hid (hmore mb)
    have HLT := Lib.hid hlt
    have rd4 := own4.rd
    have HN4 := Lib.hid rd4.len8
    have hp4 : 0 < n4 := by rw [HN4.out]; exact hp
    have hl4 : n4 ≤ 75 := by rw [HN4.out]; exact hl75
    have hbd := own4.bounds
    have hc4 : c4 ≤ 9223372036854775807 := by have := hbd.2; unfold maxLen at this; omega
    have hnc4 := hbd.1
    clear hp hl75 hlt hcut hmore hbd HCK
    obtain ⟨u, hu, hu2⟩ := wrap_u64 at_
    obtain ⟨r, hr2⟩ : ∃ r : Nat, r = u % n4 := ⟨_, rfl⟩
    have hrn : r < n4 := by rw [hr2]; exact Nat.mod_lt _ hp4
    have e1 : (u : Int) % (n4 : Int) = (r : Int) := by rw [hr2]; omega
    have e2 : IntKind.u64.wrap (n4 : Int) = (n4 : Int) := IntWalk.u64_in _ (by omega)
    have hn0 : (n4 : Int) ≠ 0 := by omega
    have hrc : r ≤ c4 := by omega
    clear hr2
    go_upto_region 4 with (go_at_call 13; refine CF.out.mono ?_; rintro e w5 ⟨rfl, b5⟩)
    have bel5 := Below.then_ bel4 b5
    have own5 := own4.below b5 (Nat.le_refl _)
    have rd5 := own5.rd
    have C1 : Hid (Calls Tryd.prog 15 #[.slice A4 r c4] w5 fun e w' => e = .returned (.tuple #[.agg (FV 0 0 0 0 (.slice none 0 0) 0 0), .int .i64 2]) ∧ Below w5.heap.size w5 w') := by
      have hcc := HCUT.out r (by rw [← HN4.out]; exact hrn)
      refine (readTopC A4 r c4 (wb.take r) a w5 (rd5.cut8 r (Nat.le_of_lt hrn)) (fun b hb => HLT.out b (List.mem_of_mem_take hb)) hrc hc4 (hE.below bel5)).mono ?_
      rintro e w' ⟨F, he, _, hno, hbl⟩
      exact ⟨by rw [he, hno hcc.2, hcc.1], hbl⟩
    clear own4 rd4 CF
    go_upto_region 6 with (first | (go_at_call 15; refine C1.out.mono ?_; rintro e w6 ⟨rfl, b6⟩) | (refine at_alloc rfl 32 rfl _ zeroF ?_; intro w7 L7) | (refine at_store rfl 32 _ _ rfl w6.heap.size (FV 0 0 0 0 (.slice none 0 0) 0 0) rfl rfl 32 _ L7.row (infoF _ _ _ _ _ _ _) rfl (FV_all _ _ _ _ _ _ _ _ _) ?_; intro w8 H8))
    have b68 : Below w6.heap.size w6 w8 := L7.bel.trans (H8.below (Nat.le_refl _))
    have x8 : Blk w8 w6.heap.size 32 (FV 0 0 0 0 (.slice none 0 0) 0 0) := H8.row
    have b58 := Below.then_ b6 b68
    have bel8 := Below.then_ bel5 b58
    have own8 := own5.below b58 (Nat.le_refl _)
    obtain ⟨gx, hgx⟩ : ∃ g, g = w6.heap.size := ⟨_, rfl⟩
    rw [← hgx] at x8 ⊢
    clear L7 H8 hgx b68 b6 C1 own5 rd5 b58
    have o9 : Own (w8.alloc (.cells #[] 5)) w8.heap.size 5 (some ⟨w8.heap.size, 0, none⟩) 0 0 [] := ⟨World.ownsRow_made w8 #[] 0 (Nat.le_refl _) (by unfold maxLen; omega) (by simp)⟩
    have be9 : Below w8.heap.size w8 (w8.alloc (.cells #[] 5)) := (Below.refl _ _).alloc (Nat.le_refl _) _
    have rd9 := own8.rd.below be9
    have hs9 := be9.size
    have hno8 := own8.none_
    have HC2 : Hid (∀ (A' : Option Addr) (n' c' : Nat) (W : World), Rd W W.heap.size A' n' (U8 (wb ++ [mb])) → n' ≤ c' → c' ≤ 9223372036854775807 → ErrsAt W a → Calls Tryd.prog 15 #[.slice A' n' c'] W fun e w' => e = .returned (.tuple #[.agg (FV 0 0 0 0 (.slice none 0 0) 0 0), .int .i64 3]) ∧ Below W.heap.size W w') := fun A' n' c' W h1 h2 h3 h4 => by
      refine (readTopC A' n' c' (wb ++ [mb]) a W h1 (append_lt HLT.out (by simpa using hmb)) h2 h3 h4).mono ?_
      rintro e w' ⟨F, he, _, hno, hbl⟩
      exact ⟨by rw [he, hno HMORE.out.2, HMORE.out.1], hbl⟩
    go_upto_region 7 with (first | (at_builtin; refine app8 _ rfl _ _ rfl w8.heap.size _ _ _ _ mb _ rfl rfl own10 rfl (by omega) hs10 ?_; intro A11 c11 w11 own11 hgr11; have b811 : Below w8.heap.size w8 w11 := b810.grown hgr11 hs10 (fun j hj => (own10.block j hj).1); have bel11 := Below.then_ bel8 b811; have hbd11 := own11.bounds; have C2 := Lib.hid (HC2.out _ _ _ _ own11.rd hbd11.1 (by have := hbd11.2; unfold maxLen at this; omega) (hE.below bel11))) | (at_builtin; refine wpList_app _ rfl _ _ 22 rfl w8.heap.size 5 i0 _ 1 Tryd.underlying22 hi0 hz0 hz1 hz2 rfl _ 0 0 [] rfl o9 w8.heap.size A4 n4 c4 (U8 wb) rfl rd9 hno8 (U8_one _) (by omega) (by unfold maxLen; omega) hs9 ?_; intro A10 c10 w10 own10' hgr10; have own10 := own10'.to (Nat.zero_add n4) (List.nil_append (U8 wb)); have b810 : Below w8.heap.size w8 w10 := be9.grown hgr10 hs9 (fun j hj => by simp [Value.ownBlock] at hj; omega); have hs10 := b810.size; rw [Nat.zero_add]) | (go_at_call 15; refine C2.out.mono ?_; rintro e w12 ⟨rfl, b12⟩) | (refine at_alloc rfl 32 rfl _ zeroF ?_; intro w13 L13) | (refine at_store rfl 32 _ _ rfl w12.heap.size (FV 0 0 0 0 (.slice none 0 0) 0 0) rfl rfl 32 _ L13.row (infoF _ _ _ _ _ _ _) rfl (FV_all _ _ _ _ _ _ _ _ _) ?_; intro w14 H14))
    have b1214 : Below w12.heap.size w12 w14 := L13.bel.trans (H14.below (Nat.le_refl _))
    have y14 : Blk w14 w12.heap.size 32 (FV 0 0 0 0 (.slice none 0 0) 0 0) := H14.row
    have b814 := Below.then_ (Below.then_ b811 b12) b1214
    have x14 := x8.after b814
    have bel14 := Below.then_ bel8 b814
    obtain ⟨gy, hgy⟩ : ∃ g, g = w12.heap.size := ⟨_, rfl⟩
    rw [← hgy] at y14 ⊢
    have k1 : w14.cell? ⟨gx, 0, none⟩ = some (.int .i64 0) := (x14.cell 0).trans rfl
    have k2 : w14.cell? ⟨gy, 0, none⟩ = some (.int .i64 0) := (y14.cell 0).trans rfl
    clear L13 H14 hgy b1214 b814 x8 x14 y14 C2 HC2 own11 own10 own10' hgr10 hgr11 b810 b811 b12 bel8 bel11 o9 be9 rd9
    go_wp2
    go_ret
    exact ⟨rfl, bel14⟩
  · have t1 : (we != 0) = true := by simp [hw0]
    have HC2 := Lib.hid (fun (W : World) (h : Below w4.heap.size w4 W) => HCF.out W (hE.below (Below.then_ bel4 h)))
    clear HCF
    go_upto_region 3 with (go_at_call 13; refine CF.out.mono ?_; rintro e w5 ⟨rfl, b5⟩)
    have C2 := Lib.hid (HC2.out w5 b5)
    go_wp2_with (go_at_call 13; refine C2.out.mono ?_; rintro e w6 ⟨rfl, b6⟩)
    go_ret
    exact ⟨rfl, Below.then_ (Below.then_ bel4 b5) b6⟩
end Go.Proofs.YtboloaglakehkaaDoor
