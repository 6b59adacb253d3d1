/-
  Layer 16: how a Reader is read: take, takeBits.
-/
import Derived.Test.YtkmacepodomdmaaDoorFa
namespace Go.Proofs.YtkmacepodomdmaaDoor
open Go.RowKit
set_option maxRecDepth 100000
set_option linter.unusedVariables false
set_option linter.unusedSimpArgs false

theorem Fr.trans {w w1 w2 : World} {g : Nat} (h : Fr w w1 g none) (h2 : Fr w1 w2 g none) : Fr w w2 g none :=
  ⟨h2.os.trans h.os, h2.tape.trans h.tape, h2.output.trans h.output, Nat.le_trans h.size h2.size, fun k hk hg _ => (h2.block k (Nat.lt_of_lt_of_le hk h.size) hg (by simp)).trans (h.block k hk hg (by simp))⟩
theorem Fr.of {w w' : World} (h : Below w.heap.size w w') (g : Nat) : Fr w w' g none := ⟨h.os, h.tape, h.output, h.size, fun k hk _ _ => h.block k hk⟩
theorem Fr.blk {w w' : World} {g k : Nat} {t : TypeId} {cs : Array Value} (h : Fr w w' g none) (hb : Blk w k t cs) (hk : k ≠ g) : Blk w' k t cs := (h.block k hb.lt hk (by simp)).trans hb
theorem Fr.own {w w' : World} {g base : Nat} {e : TypeId} {A : Option Addr} {n c : Nat} {xs : List Value} (h : Fr w w' g none) (ho : Own w base e A n c xs) (hg : g < base) : Own w' base e A n c xs :=
  ho.keep fun k hk => h.block k (ho.block k hk).2 (by have := (ho.block k hk).1; omega) (by simp)
theorem Rd.lower {w : World} {B B' : Nat} {A : Option Addr} {n : Nat} {xs : List Value} (h : Rd w B A n xs) (hb : ∀ x, A = some x → x.block < B') : Rd w B' A n xs :=
  ⟨h.len, fun hn => by
    obtain ⟨b, off, e, _, hc⟩ := h.at_ hn
    exact ⟨b, off, e, hb _ e, hc⟩⟩
/-- A Reader at block g with these bits left, which lie below B. -/
def RdB (w : World) (g B : Nat) (xs : List Nat) : Prop := ∃ A n c, Rr w g A n c xs ∧ ∀ x, A = some x → x.block < B
theorem RdB.lt {w : World} {g B : Nat} {xs : List Nat} (h : RdB w g B xs) : g < w.heap.size := by
  obtain ⟨A, n, c, hr, _⟩ := h
  exact hr.box.lt
/-- Nothing but blocks from B' on has changed: the Reader is as it was. -/
theorem RdB.below {w w' : World} {g B B' : Nat} {xs : List Nat} (h : RdB w g B xs) (hb : Below B' w w') (hB : B ≤ B') (hg : g < B') : RdB w' g B xs := by
  obtain ⟨A, n, c, hr, hx⟩ := h
  have hbox : Box w' _ g A n c := (hb.block g hg).trans hr.box
  refine ⟨A, n, c, ⟨hbox, ?_, hr.nc, hr.cm⟩, hx⟩
  have h1 : Rd w B' A n (U8 xs) := hr.rd.lower (fun x hA => Nat.lt_of_lt_of_le (hx x hA) hB)
  have h2 := h1.below hb
  refine ⟨h2.len, fun hn => ?_⟩
  obtain ⟨b, off, e, _, hc⟩ := h2.at_ hn
  obtain ⟨b2, off2, e2, hlt, _⟩ := hr.rd.at_ hn
  rw [e] at e2
  injection e2 with e2
  injection e2 with e3 _
  subst e3
  exact ⟨b, off, e, Nat.lt_of_lt_of_le hlt hb.size, hc⟩
theorem takeB (g B wd : Nat) (xs : List Nat) (w : World) (h : RdB w g B xs) (hb : ∀ x ∈ xs, x ≤ 1) (h1 : 1 ≤ wd) (h2 : wd ≤ 32) (hl : wd ≤ xs.length) :
    Calls Tryd.prog 119 #[.pointer (some ⟨g, 0, none⟩), .int .i64 (wd : Int)] w fun e w' => e = .returned (.tuple #[.int .i64 (num (xs.take wd) : Nat), .int .i64 0]) ∧ Fr w w' g none ∧ RdB w' g B (xs.drop wd) := by
  obtain ⟨A, n, c, hr, hx⟩ := h
  have hn := hr.rd.len8
  obtain ⟨b, off, rfl, _, _⟩ := hr.rd.at_ (by omega)
  refine (takeOk g b off n c wd xs w hr.box hr.rd hb hr.nc hr.cm h1 h2 (by omega)).mono ?_
  rintro e w' ⟨he, hf, hb'⟩
  have hc := hr.nc
  have hm := hr.cm
  refine ⟨he, hf, _, _, _, ⟨hb', rd_drop (hr.rd.keepFr hr.box hf) hr.nc (by omega), by omega, by omega⟩, fun x e => ?_⟩
  injection e with e
  have := hx _ rfl
  subst e
  split <;> exact this
theorem takeNoB (g B wd : Nat) (xs : List Nat) (w : World) (h : RdB w g B xs) (h1 : 1 ≤ wd) (h2 : wd ≤ 32) (hl : xs.length < wd) :
    Calls Tryd.prog 119 #[.pointer (some ⟨g, 0, none⟩), .int .i64 (wd : Int)] w fun e w' => e = .returned (.tuple #[.int .i64 0, .int .i64 2]) ∧ w = w' := by
  obtain ⟨A, n, c, hr, hx⟩ := h
  have hn := hr.rd.len8
  exact takeShort g A n c wd w hr.box h1 h2 (by omega)
theorem num_take_lt (xs : List Nat) (hb : ∀ x ∈ xs, x ≤ 1) (wd : Nat) : num (xs.take wd) < 2 ^ wd := by
  have h := num_lt (xs.take wd) (fun x hx => hb x (List.mem_of_mem_take hx))
  refine Nat.lt_of_lt_of_le h (Nat.pow_le_pow_right (by omega) ?_)
  rw [List.length_take]; omega
set_option maxHeartbeats 400000 in
/-- frame.take. -/
theorem ftakeC (g B wd : Nat) (xs : List Nat) (w : World) (h : RdB w g B xs) (hb : ∀ x ∈ xs, x ≤ 1) (h1 : 1 ≤ wd) (h2 : wd ≤ 32) (hl : wd ≤ xs.length) :
    Calls Tryd.prog 150 #[.pointer (some ⟨g, 0, none⟩), .int .i64 (wd : Int)] w fun e w' => e = .returned (.int .i64 (num (xs.take wd) : Nat)) ∧ Fr w w' g none ∧ RdB w' g B (xs.drop wd) := by
  have C := Lib.hid (takeB g B wd xs w h hb h1 h2 hl)
  generalize num (xs.take wd) = y at *
  go_enter Tryd.func150, Tryd.ntmps150
  go_wp2_with (go_at_call 119; refine C.out.mono ?_; rintro e w' ⟨rfl, hf, hr⟩)
  go_ret
  exact ⟨rfl, hf, hr⟩
theorem take1 (xs : List Nat) (h : 0 < xs.length) : num (xs.take 1) = xs.getD 0 0 := by
  match xs, h with
  | x :: xs, _ => simp [num]
theorem fill_step (xs : List Nat) (n i : Nat) (hi : i < n) (hx : i < xs.length) : (xs.take i ++ List.replicate (n - i) 0).set i (xs.getD i 0) = xs.take (i + 1) ++ List.replicate (n - (i + 1)) 0 := by
  have hl : (xs.take i).length = i := by rw [List.length_take]; omega
  rw [List.set_append_right _ _ (by omega), hl, Nat.sub_self, show n - i = (n - (i + 1)) + 1 by omega, List.replicate_succ, List.set_cons_zero, List.take_succ_eq_append_getElem (by omega), Bm.getD_lt _ _ _ (by omega), List.append_assoc]
  rfl
/-- What takeBits gives: the bits, or that there are too few. -/
def TbOut (w : World) (g B n : Nat) (xs : List Nat) (e : Ending) (w' : World) : Prop :=
  Fr w w' g none ∧ ((n ≤ xs.length ∧ ∃ A m c, e = .returned (.tuple #[.slice A m c, .nilIface]) ∧ Own w' w.heap.size 5 A m c (U8 (xs.take n)) ∧ RdB w' g B (xs.drop n)) ∨
    (xs.length < n ∧ e = .returned (.tuple #[.slice none 0 0, .iface 136 (.int .i64 2)])))
set_option maxHeartbeats 1000000 in
/-- frame.takeBits. -/
theorem takeBitsC (g B n : Nat) (xs : List Nat) (w : World) (h : RdB w g B xs) (hb : ∀ x ∈ xs, x ≤ 1) (hn : n ≤ 65536) (hB : B ≤ w.heap.size) :
    Calls Tryd.prog 151 #[.pointer (some ⟨g, 0, none⟩), .int .i64 (n : Int)] w (TbOut w g B n xs) := by
  obtain ⟨i0, hi0, hz0, hz1, hz2⟩ := info_parts info5
  have hgl : g < w.heap.size := h.lt
  go_enter Tryd.func151, Tryd.ntmps151
  go_upto_region 3 with (at_make; refine wpList_make_full _ rfl _ _ 22 rfl w.heap.size 5 i0 (.int .u8 0) 1 Tryd.underlying22 hi0 hz0 hz1 .i64 .i64 _ _ n rfl rfl (by first | rfl | omega) (by first | rfl | omega) (by rw [hz2]; omega) (by unfold maxLen; omega) (Nat.le_refl _) ?_; intro w1 hown1 hgrow1)
  have bel1 : Below w.heap.size w w1 := (Below.refl _ _).grown hgrow1 (Nat.le_refl _) (fun k h => by cases h)
  have own1 : Own w1 w.heap.size 5 (some ⟨w.heap.size, 0, none⟩) n n (U8 (List.replicate n 0)) := by
    rw [made8] at hown1
    exact ⟨hown1⟩
  have R1 := h.below bel1 hB hgl
  clear hown1 hgrow1 hi0 hz0 hz1 hz2
  go_loopw [14] (fun i wr => ∃ k : Nat, k ≤ n ∧ k ≤ xs.length ∧ i = .int .i64 (k : Int) ∧ Own wr w.heap.size 5 (some ⟨w.heap.size, 0, none⟩) n n (U8 (xs.take k ++ List.replicate (n - k) 0)) ∧ RdB wr g B (xs.drop k) ∧ Fr w wr g none) (fun i _ => n - (intOf i).toNat)
  case atStart => exact ⟨0, Nat.zero_le _, Nat.zero_le _, rfl, own1, R1, Fr.of bel1 g⟩
  case round =>
    clear own1 R1 bel1
    obtain ⟨k, hk, hkx, rfl, own, R, hfr⟩ := hrel
    by_cases hlt : k < n
    · by_cases hx : k < xs.length
      · have hdl : (xs.drop k).length = xs.length - k := List.length_drop
        have C := Lib.hid (takeB g B 1 (xs.drop k) wr R (fun x h => hb x (List.mem_of_mem_drop h)) (by omega) (by omega) (by omega))
        have e1 : num ((xs.drop k).take 1) = xs.getD k 0 := by
          rw [take1 _ (by omega), Bm.getD_lt _ _ _ (by omega), Bm.getD_lt _ _ _ hx, List.getElem_drop]
          congr 1
        rw [e1, List.drop_drop] at C
        have hx1 := Bm.bit_le xs hb k
        have HP := Lib.hid (fill_step xs n k hlt hx)
        obtain ⟨x, hxe⟩ : ∃ x, x = xs.getD k 0 := ⟨_, rfl⟩
        rw [← hxe] at C HP hx1
        have e2 : IntKind.u8.wrap (x : Int) = (x : Int) := IntWalk.u8_in _ (by omega)
        have HK := Lib.hid (show ∀ w' : World, Fr wr w' g none → Own w' w.heap.size 5 (some ⟨w.heap.size, 0, none⟩) n n (U8 (xs.take k ++ List.replicate (n - k) 0)) from fun w' hf => hf.own own hgl)
        clear e1 hxe hdl
        go_upto_region 8 with (go_at_call 119; refine C.out.mono ?_; rintro e w5 ⟨rfl, hf5, R5⟩)
        have own5 := HK.out w5 hf5
        obtain ⟨gs, hg, hg1, hg2, hgc, hgf, hgs⟩ := own5.slot k hlt
        have hg3 : w.heap.size = gs := by injection hg with hg; injection hg
        subst hg3
        have hsome : ∃ u, w5.cell? ⟨w.heap.size, k, none⟩ = some u := by
          rw [hgc, U8_get _ k (by simp; omega)]; exact ⟨_, rfl⟩
        obtain ⟨u, hu⟩ := hsome
        have hss := hgs (.int .u8 (x : Int))
        rw [U8_set, HP.out] at hss
        have hne : g ≠ w.heap.size := by omega
        clear hg hgs hgc
        go_wp2
        go_roundw
        case rel =>
          refine ⟨k + 1, by omega, by omega, by go_num, hss, ?_, ?_⟩
          · exact R5.below ((Below.refl _ _).setCell (Nat.le_refl w.heap.size) _) hB hgl
          · have h1 := hfr.trans hf5
            exact ⟨h1.os, h1.tape, h1.output, by simpa [World.setCell] using h1.size, fun j hj hjg _ => (Below.heap_setCell _ _ _ _ (by show j ≠ w.heap.size; omega)).trans (h1.block j hj hjg (by simp))⟩
        case measure => simp [intOf] <;> omega
      · have hdl : (xs.drop k).length = 0 := by rw [List.length_drop]; omega
        have C := Lib.hid (takeNoB g B 1 (xs.drop k) wr R (by omega) (by omega) (by omega))
        go_wp2_with (go_at_call 119; refine C.out.mono ?_; rintro e w5 ⟨rfl, rfl⟩)
        go_ret2
        exact ⟨hfr, .inr ⟨by omega, rfl⟩⟩
    · have hkn : k = n := by omega
      subst hkn
      rw [Nat.sub_self, List.replicate_zero, List.append_nil] at own
      go_wp2
      go_ret2
      exact ⟨hfr, .inl ⟨hkx, _, _, _, rfl, own, R⟩⟩
end Go.Proofs.YtkmacepodomdmaaDoor
