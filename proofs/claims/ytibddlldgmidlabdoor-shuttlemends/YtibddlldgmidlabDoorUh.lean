/-
  Through the layers 1 to 13: cut to five, bits.Turn, places of one.
-/
import Derived.Test.YtibddlldgmidlabDoorUz
import Derived.Test.YtibddlldgmidlabDoorRs
import Derived.Test.YtibddlldgmidlabDoorNb
import Derived.Test.YtibddlldgmidlabDoorQz
namespace Go.Proofs.YtibddlldgmidlabDoor
open Go.RowKit
set_option maxRecDepth 100000
set_option linter.unusedVariables false
set_option linter.unusedSimpArgs false

/-- Numbers from 0 on, as ints. -/
def ints1 (ps : List Nat) : List Int := ps.map fun (p : Nat) => (p : Int)
set_option maxHeartbeats 400000 in
/-- cut. -/
theorem cut5C (A : Option Addr) (n c : Nat) (bs : List Nat) (w : World) (hr : Rd w w.heap.size A n (U8 bs)) (hnc : n ≤ c) (hc : c ≤ 9223372036854775807) (hnone : A = none → n = 0 ∧ c = 0) :
    Calls Tryd.prog 29 #[.slice A n c, .int .i64 5] w (Made w (bs.take 5)) := by
  obtain ⟨i0, hi0, hz0, hz1, hz2⟩ := info_parts info5
  have hl := hr.len8
  obtain ⟨k, hk, hk2, hk3⟩ := min_if n 5
  obtain ⟨hm1, hm2⟩ := hk3 5 rfl
  clear hk3
  have hkt : bs.take 5 = bs.take k := by
    by_cases h : k = 5
    · rw [h]
    · rw [List.take_of_length_le (by omega), List.take_of_length_le (by omega)]
  rw [hkt]
  have r1 := hr.cut8 k hk2
  generalize bs.take k = ls at *
  have bel0 : Below w.heap.size w (w.alloc (.cells #[] 5)) := (Below.refl _ _).alloc (Nat.le_refl _) _
  have hn2 : A = none → k = 0 ∧ c = 0 := fun h => ⟨by have := (hnone h).1; omega, (hnone h).2⟩
  have o1 : Own (w.alloc (.cells #[] 5)) w.heap.size 5 (some ⟨w.heap.size, 0, none⟩) 0 0 [] := ⟨World.ownsRow_made w #[] 0 (Nat.le_refl _) (by unfold maxLen; omega) (by simp)⟩
  clear hkt hr hl hnone
  go_enter Tryd.func29, Tryd.ntmps29
  go_wp2_with (at_builtin; refine wpList_app _ rfl _ _ 22 rfl w.heap.size 5 i0 _ 1 Tryd.underlying22 hi0 hz0 hz1 hz2 rfl _ 0 0 [] rfl o1 w.heap.size A k c (U8 ls) rfl (r1.below bel0) hn2 (U8_one ls) (by omega) (by unfold maxLen; omega) bel0.size ?_; intro A5 c5 w5 hown5 hgrow5)
  go_ret
  exact ⟨A5, k, c5, rfl, hown5.to (Nat.zero_add k) (List.nil_append (U8 ls)), bel0.grown hgrow5 bel0.size (fun j hj => by simp [Value.ownBlock] at hj; omega)⟩
set_option maxHeartbeats 1000000 in
/-- bits.Turn. -/
theorem turnC (A A2 : Option Addr) (n c m c2 : Nat) (bs : List Nat) (zs : List Int) (w : World) (hr : Rd w w.heap.size A n (U8 bs)) (hnone : A = none → n = 0 ∧ c = 0) (hz : Rd w w.heap.size A2 m (I64 zs)) (hb : ∀ b ∈ bs, b < 256) (hn : n ≤ 65536) (hm : m ≤ 65536) :
    Calls Tryd.prog 34 #[.slice A n c, .slice A2 m c2] w (Made w (Bm.trn bs zs)) := by
  obtain ⟨i0, hi0, hz0, hz1, hz2⟩ := info_parts info5
  have HN := Lib.hid hr.len8
  have HM := Lib.hid hz.len64
  go_enter Tryd.func34, Tryd.ntmps34
  go_wp2_with (at_builtin; refine wpList_app _ rfl _ _ 22 rfl w.heap.size 5 i0 _ 1 Tryd.underlying22 hi0 hz0 hz1 hz2 rfl none 0 0 [] rfl (Own.nil _ _ _) _ _ _ _ (U8 bs) rfl hr hnone (U8_one bs) (by omega) (by unfold maxLen; omega) (Nat.le_refl _) ?_; intro A5 c5 w5 hown5 hgrow5)
  have hbel5 : Below w.heap.size w w5 := (Below.refl _ _).grown hgrow5 (Nat.le_refl _) (fun k h => by cases h)
  clear hz0 hz1 hz2 hi0 hgrow5
  have hown6 : Own w5 w.heap.size 5 A5 n c5 (U8 (Bm.trn bs [])) := hown5.to (by omega) (by rw [Bm.trn_nil]; rfl)
  clear hown5
  go_loopw [12] (fun i wr => ∃ k : Nat, k ≤ m ∧ i = .int .i64 k ∧ Own wr w.heap.size 5 A5 n c5 (U8 (Bm.trn bs (zs.take k))) ∧ Below w.heap.size w wr) (fun i _ => m - (intOf i).toNat)
  case atStart => exact ⟨0, Nat.zero_le _, rfl, hown6, hbel5⟩
  case round =>
    clear hown6 hbel5
    obtain ⟨k, hk, rfl, hown, hbel⟩ := hrel
    by_cases hlt : k < m
    · obtain ⟨b, off, rfl, hlt2, hcell⟩ := (hz.below hbel).cell64 k hlt
      have HI := Lib.hid (Bm.trn_in bs zs k (by rw [← HM.out]; exact hlt))
      have HO := Lib.hid (Bm.trn_out bs zs k (by rw [← HM.out]; exact hlt))
      obtain ⟨z, hze⟩ : ∃ z, z = zs.getD k 0 := ⟨_, rfl⟩
      rw [← hze] at hcell HI HO
      clear hze
      by_cases h0 : 0 ≤ z
      · by_cases h1 : z < n
        · obtain ⟨p, rfl⟩ := Int.eq_ofNat_of_zero_le h0
          have hp : p < n := by omega
          have hx := Bm.byte_lt _ (lt256 hb (zs.take k)) p
          obtain ⟨g, rfl, hg1, hg2, hgc, hgf, hgs⟩ := hown.slot p hp
          rw [U8_get _ p (by rw [Bm.trn_length, ← HN.out]; exact hp)] at hgc
          have HI2 := Lib.hid (HI.out p (by rw [← HN.out]; exact hp) rfl)
          obtain ⟨x, hxe⟩ : ∃ x, x = (Bm.trn bs (zs.take k)).getD p 0 := ⟨_, rfl⟩
          rw [← hxe] at hx hgc HI2
          clear hxe HI HO
          have hX : bits BinOp.xor IntKind.u8 (x : Int) 1 = ((x ^^^ 1 : Nat) : Int) := u8_xor_nat x 1 hx (by omega)
          have HS := Lib.hid (hgs (.int .u8 ((x ^^^ 1 : Nat) : Int)))
          clear hgs
          have t1 : decide (0 ≤ (p : Int)) = true := by simp
          have t2 : decide ((p : Int) < (n : Int)) = true := by simp; omega
          go_wp2
          go_roundw
          case rel =>
            refine ⟨k + 1, by omega, by go_num, ?_, hbel.setCell hg1 _⟩
            rw [HI2.out, ← U8_set]
            exact HS.out
          case measure => simp [intOf] <;> omega
        · have t1 : decide (0 ≤ z) = true := by simp; omega
          have t2 : decide (z < (n : Int)) = false := by simp; omega
          go_wp2
          go_roundw
          case rel => exact ⟨k + 1, by omega, by go_num, by rw [HO.out (.inr (by rw [← HN.out]; omega))]; exact hown, hbel⟩
          case measure => simp [intOf] <;> omega
      · have t1 : decide (0 ≤ z) = false := by simp; omega
        go_wp2
        go_roundw
        case rel => exact ⟨k + 1, by omega, by go_num, by rw [HO.out (.inl (by omega))]; exact hown, hbel⟩
        case measure => simp [intOf] <;> omega
    · go_wp2
      go_ret
      refine ⟨A5, n, c5, rfl, hown.to rfl ?_, hbel⟩
      rw [List.take_of_length_le (by rw [← HM.out]; omega)]
/-- What places gives. -/
def Places1 (w : World) (N : Nat) (e : Ending) (w' : World) : Prop :=
  ∃ A n c ps, e = .returned (.slice A n c) ∧ Own w' w.heap.size 3 A n c (I64 (ints1 ps)) ∧ Hid (ps.length ≤ 1 ∧ ∀ p ∈ ps, p < N) ∧ Below w.heap.size w w'

set_option maxHeartbeats 400000 in
/-- places, at most one. -/
theorem places1C (A : Option Addr) (m c N : Nat) (zs : List Int) (w : World) (hr : Rd w w.heap.size A m (I64 zs)) (hm : m ≤ 9223372036854775807) (hN : 0 < N) (hN2 : N ≤ 1000) :
    Calls Tryd.prog 35 #[.slice A m c, .int .i64 1, .int .i64 (N : Int)] w (Places1 w N) := by
  have HN := Lib.hid hr.len64
  go_enter Tryd.func35, Tryd.ntmps35
  go_wp2
  go_loopw [7, 8] (fun l i wr => ∃ k : Nat, k ≤ m ∧ k ≤ 1 ∧ i = .int .i64 k ∧ ∃ A1 c1 ps, l = .slice A1 k c1 ∧ Own wr w.heap.size 3 A1 k c1 (I64 (ints1 ps)) ∧ Hid (ps.length = k ∧ ∀ p ∈ ps, p < N) ∧ Below w.heap.size w wr) (fun _ i _ => 1 - (intOf i).toNat)
  case atStart => exact ⟨0, Nat.zero_le _, Nat.zero_le _, rfl, none, 0, [], rfl, Own.nil _ _ _, ⟨rfl, by simp⟩, Below.refl _ _⟩
  case round =>
    obtain ⟨k, hk, hk3, rfl, A1, c1, ps, rfl, hown, HP, hbel⟩ := hrel
    have hsz := hbel.size
    by_cases hlt : k < m
    · by_cases hlt1 : k < 1
      · obtain ⟨b, off, rfl, hlt2, hcell⟩ := (hr.below hbel).cell64 k hlt
        generalize zs.getD k 0 = z at *
        obtain ⟨u, hu, hu2⟩ := wrap_u64 z
        obtain ⟨p, hp, hp2⟩ : ∃ p : Nat, p < N ∧ (u : Int) % (N : Int) = (p : Int) := ⟨u % N, Nat.mod_lt _ hN, by omega⟩
        have t1 : decide ((k : Int) < (m : Int)) = true := by simp; omega
        have t2 : decide ((k : Int) < 1) = true := by simp; omega
        have t3 : decide (k < m) = true := by simp; omega
        have t4 : decide (k < 1) = true := by simp; omega
        go_wp2_with (at_builtin; refine app64 _ rfl _ _ rfl w.heap.size _ _ _ _ (p : Int) rfl hown rfl (by omega) hsz ?_; intro A3 c3 w3 hown3 hgrow3)
        go_roundw
        case rel =>
          refine ⟨k + 1, by omega, by omega, by go_num, A3, c3, ps ++ [p], rfl, ?_, ⟨by rw [List.length_append, HP.out.1]; rfl, ?_⟩, hbel.grown hgrow3 hsz (fun j hj => (hown.block j hj).1)⟩
          · have e : ints1 (ps ++ [p]) = ints1 ps ++ [(p : Int)] := by simp [ints1]
            rw [e]; exact hown3
          · intro q hq
            rcases List.mem_append.1 hq with h | h
            · exact HP.out.2 q h
            · simp at h; omega
        case measure => simp [intOf] <;> omega
      · have t1 : decide ((k : Int) < (m : Int)) = true := by simp; omega
        have t2 : decide ((k : Int) < 1) = false := by simp; omega
        have t3 : decide (k < m) = true := by simp; omega
        have t4 : decide (k < 1) = false := by simp; omega
        go_wp2
        go_ret
        exact ⟨A1, k, c1, ps, rfl, hown, ⟨by rw [HP.out.1]; exact hk3, HP.out.2⟩, hbel⟩
    · have t1 : decide ((k : Int) < (m : Int)) = false := by simp; omega
      have t3 : decide (k < m) = false := by simp; omega
      go_wp2
      go_ret
      exact ⟨A1, k, c1, ps, rfl, hown, ⟨by rw [HP.out.1]; exact hk3, HP.out.2⟩, hbel⟩
/-- A count of what is so at one place at most. -/
theorem cnt_one {p : Nat → Bool} {q : Nat} : ∀ k, (∀ i, i < k → p i = true → i = q) → Bm.cnt p k ≤ if q < k then 1 else 0
  | 0, _ => by simp [Bm.cnt]
  | k + 1, h => by
    have ih := cnt_one k (fun i hi hp => h i (by omega) hp)
    show Bm.cnt p k + _ ≤ _
    cases hp : p k with
    | false =>
      simp
      refine Nat.le_trans ih ?_
      split <;> split <;> omega
    | true =>
      have e := h k (by omega) hp
      subst e
      rw [if_neg (by omega)] at ih
      rw [if_pos (Nat.lt_succ_self _)]
      simp
      omega
theorem ap_turn (l : List Nat) (ps : List Nat) (h1 : ps.length ≤ 1) (h2 : ∀ p ∈ ps, p < l.length) : Bm.ap (Bm.trn l (ints1 ps)) l ≤ 1 := by
  unfold Bm.ap
  match ps, h1 with
  | [], _ =>
    show Bm.cnt _ _ ≤ 1
    rw [show ints1 [] = [] from rfl, Bm.trn_nil]
    have := cnt_one (p := fun i => l.getD i 0 != l.getD i 0) (q := 0) l.length (fun i _ hp => by simp at hp)
    refine Nat.le_trans this ?_
    split <;> omega
  | [q], _ =>
    have hq := h2 q (by simp)
    have e := Bm.trn_in l (ints1 [q]) 0 (by simp [ints1]) q hq rfl
    rw [show (ints1 [q]).take (0 + 1) = ints1 [q] from rfl, List.take_zero, Bm.trn_nil] at e
    rw [e]
    have := cnt_one (p := fun i => (l.set q (l.getD q 0 ^^^ 1)).getD i 0 != l.getD i 0) (q := q) (l.set q (l.getD q 0 ^^^ 1)).length (fun i hi hp => by
      rw [List.length_set] at hi
      rw [Bm.set_getD l q _ i hq] at hp
      by_cases hiq : i = q
      · exact hiq
      · simp at hp
        exact hp.1.symm)
    refine Nat.le_trans this ?_
    split <;> omega
theorem ap_self (l : List Nat) : Bm.ap l l = 0 := by
  have := ap_turn l [] (by simp) (by simp)
  unfold Bm.ap
  have h := cnt_one (p := fun i => l.getD i 0 != l.getD i 0) (q := l.length) l.length (fun i _ hp => by simp at hp)
  rw [if_neg (Nat.lt_irrefl _)] at h
  omega
theorem BufS.upd {w w' : World} {gB n g : Nat} {row : List (Nat × List Nat)} {S : Value} {t : TypeId} {cs : Array Value} (h : BufS w gB n row S) (hu : Upd w w' g t cs) (h1 : g ≠ gB) (h2 : S.ownBlock ≠ some g) : BufS w' gB n row S :=
  ⟨hu.blk h.blk (Ne.symm h1), by
    rcases h.sums with hs | ⟨gs, hs, h3, h4⟩
    · exact .inl hs
    · exact .inr ⟨gs, hs, h3, hu.blk h4 (fun e => h2 (by rw [hs, ← e]; rfl))⟩⟩
end Go.Proofs.YtibddlldgmidlabDoor
