/-
  Layer 17: isLen, look, open.
-/
import Derived.Test.YtcmoedhpedlalaaDoorNa
import Derived.Test.YtcmoedhpedlalaaDoorYa
import Derived.Test.YtcmoedhpedlalaaDoorXa
namespace Go.Proofs.YtcmoedhpedlalaaDoor
open Go.RowKit
set_option maxRecDepth 100000
set_option linter.unusedVariables false
set_option linter.unusedSimpArgs false

set_option maxHeartbeats 400000 in
/-- harq.isLen. -/
theorem hIsLen (n : Int) (w : World) : Calls Tryd.prog 54 #[.int .i64 n] w fun e w' => e = .returned (.bool (decide (0 ≤ n ∧ n ≤ 64))) ∧ w = w' := by
  by_cases h1 : 0 ≤ n
  · by_cases h2 : n ≤ 64
    · have d1 : decide (0 ≤ n ∧ n ≤ 64) = true := by simp [h1, h2]
      rw [d1]
      go_enter Tryd.func54, Tryd.ntmps54
      go_wp2
      go_ret
      exact ⟨rfl, rfl⟩
    · have d1 : decide (0 ≤ n ∧ n ≤ 64) = false := by simp [h2]
      rw [d1]
      go_enter Tryd.func54, Tryd.ntmps54
      go_wp2
      go_ret
      exact ⟨rfl, rfl⟩
  · have d1 : decide (0 ≤ n ∧ n ≤ 64) = false := by simp [h1]
    rw [d1]
    go_enter Tryd.func54, Tryd.ntmps54
    go_wp2
    go_ret
    exact ⟨rfl, rfl⟩
set_option maxHeartbeats 400000 in
/-- frame.Bits of a length that may be. -/
theorem fBitsH (n : Nat) (w : World) (hn : n ≤ 64) : Calls Tryd.prog 86 #[.int .i64 (n : Int)] w fun e w' => e = .returned (.int .i64 ((8 * (n + 4) + 6 : Nat) : Int)) ∧ w = w' := by
  have C : Hid (Calls Tryd.prog 114 #[.int .i64 (n : Int)] w fun e w' => e = .returned (.bool true) ∧ w = w') := by
    unfold Hid
    have d1 : decide ((n : Int) ≤ 64) = true := by simp <;> omega
    go_enter Tryd.func114, Tryd.ntmps114
    go_wp2
    go_ret
    exact ⟨rfl, rfl⟩
  have C2 := vBits (8 * (n + 4)) w (by omega)
  rw [show ((8 * (n + 4) : Nat) : Int) = 8 * ((n : Int) + 4) by omega] at C2
  replace C2 := Lib.hid C2
  go_enter Tryd.func86, Tryd.ntmps86
  go_wp2_with (first | (go_at_call 114; refine C.out.mono ?_; rintro e w' ⟨rfl, rfl⟩) | (go_at_call 78; refine C2.out.mono ?_; rintro e w' ⟨rfl, rfl⟩))
  go_ret
  exact ⟨rfl, rfl⟩
/-- What look gives. -/
def lookX (n v : Int) (k : Nat) (bs : List Nat) : Int := if ¬ (0 ≤ n ∧ n ≤ 64) then 7 else if v < 0 ∨ 4 ≤ v then 1 else if Bm.isB bs = false then 5 else if (k : Int) ≠ 8 * (n + 4) + 6 then 13 else 0
set_option maxHeartbeats 400000 in
/-- harq.look. -/
theorem lookH (n v : Int) (A : Option Addr) (k c : Nat) (bs : List Nat) (w : World) (hr : Rd w w.heap.size A k (U8 bs)) (hb : ∀ b ∈ bs, b < 256) (hk : k ≤ 65536) :
    Calls Tryd.prog 51 #[.int .i64 n, .int .i64 v, .slice A k c] w fun e w' => e = .returned (.int .i64 (lookX n v k bs)) ∧ w = w' := by
  have C1 := Lib.hid (hIsLen n w)
  by_cases h1 : 0 ≤ n ∧ n ≤ 64
  · rw [decide_eq_true h1] at C1
    obtain ⟨m, rfl⟩ : ∃ m : Nat, n = (m : Int) := ⟨n.toNat, by omega⟩
    have hm : m ≤ 64 := by omega
    have C2 := Lib.hid (right A k c bs w hr hb hk)
    have C3 := Lib.hid (fBitsH m w hm)
    have HX : Hid (lookX (m : Int) v k bs = if v < 0 ∨ 4 ≤ v then 1 else if Bm.isB bs = false then 5 else if (k : Int) ≠ 8 * ((m : Int) + 4) + 6 then 13 else 0) := by
      unfold Hid lookX; rw [if_neg (by omega)]
    obtain ⟨t, ht⟩ : ∃ t, t = 8 * (m + 4) + 6 := ⟨_, rfl⟩
    have HE : Hid (8 * ((m : Int) + 4) + 6 = (t : Int)) := by unfold Hid; omega
    rw [HE.out] at HX
    rw [← ht] at C3
    have htb : t ≤ 2000 := by omega
    generalize lookX (m : Int) v k bs = X at *
    clear ht h1
    generalize Bm.isB bs = q at *
    by_cases hv1 : v < 0
    · have hX := HX.out
      rw [if_pos (.inl hv1)] at hX
      subst hX
      go_enter Tryd.func51, Tryd.ntmps51
      go_wp2_with (first | (go_at_call 54; refine C1.out.mono ?_; rintro e w' ⟨rfl, rfl⟩))
      go_ret
      exact ⟨rfl, rfl⟩
    · by_cases hv2 : 4 ≤ v
      · have hX := HX.out
        rw [if_pos (.inr hv2)] at hX
        subst hX
        go_enter Tryd.func51, Tryd.ntmps51
        go_wp2_with (first | (go_at_call 54; refine C1.out.mono ?_; rintro e w' ⟨rfl, rfl⟩))
        go_ret
        exact ⟨rfl, rfl⟩
      · have hX := HX.out
        rw [if_neg (by omega)] at hX
        cases q with
        | false =>
          rw [if_pos rfl] at hX
          subst hX
          go_enter Tryd.func51, Tryd.ntmps51
          go_wp2_with (first | (go_at_call 54; refine C1.out.mono ?_; rintro e w' ⟨rfl, rfl⟩) | (go_at_call 79; refine C2.out.mono ?_; rintro e w' ⟨rfl, rfl⟩))
          go_ret
          exact ⟨rfl, rfl⟩
        | true =>
          rw [if_neg (by simp)] at hX
          by_cases hkt : k = t
          · subst hkt
            rw [if_neg (by simp)] at hX
            subst hX
            have n0 : ((k : Int) != (k : Int)) = false := by simp
            go_enter Tryd.func51, Tryd.ntmps51
            go_wp2_with (first | (go_at_call 54; refine C1.out.mono ?_; rintro e w' ⟨rfl, rfl⟩) | (go_at_call 79; refine C2.out.mono ?_; rintro e w' ⟨rfl, rfl⟩) | (go_at_call 86; refine C3.out.mono ?_; rintro e w' ⟨rfl, rfl⟩))
            go_ret
            exact ⟨rfl, rfl⟩
          · rw [if_pos (by omega)] at hX
            subst hX
            have n0 : ((k : Int) != (t : Int)) = true := by simp <;> omega
            go_enter Tryd.func51, Tryd.ntmps51
            go_wp2_with (first | (go_at_call 54; refine C1.out.mono ?_; rintro e w' ⟨rfl, rfl⟩) | (go_at_call 79; refine C2.out.mono ?_; rintro e w' ⟨rfl, rfl⟩) | (go_at_call 86; refine C3.out.mono ?_; rintro e w' ⟨rfl, rfl⟩))
            go_ret
            exact ⟨rfl, rfl⟩
  · rw [decide_eq_false h1] at C1
    have HX : lookX n v k bs = 7 := by unfold lookX; rw [if_pos h1]
    rw [HX]
    clear HX h1
    go_enter Tryd.func51, Tryd.ntmps51
    go_wp2_with (first | (go_at_call 54; refine C1.out.mono ?_; rintro e w' ⟨rfl, rfl⟩))
    go_ret
    exact ⟨rfl, rfl⟩
theorem toBytes_lt (l : List Nat) (hl : ∀ x ∈ l, x ≤ 1) : ∀ b ∈ Bm.toBytes l, b < 256 := by
  intro b hb
  unfold Bm.toBytes at hb
  rw [List.mem_map] at hb
  obtain ⟨j, _, rfl⟩ := hb
  exact Bm.hb_lt l hl _
/-- The message of which bits tell, if its sum is right. -/
def opn (l : List Nat) : Option (List Nat) := if Crc.ok32 (Bm.toBytes l) = true then some ((Bm.toBytes l).take ((Bm.toBytes l).length - 4)) else none
/-- What open and read give. -/
def ReadO (w : World) (r : Option (List Nat)) (e : Ending) (w' : World) : Prop := ((∃ m, r = some m ∧ ∃ A n c, e = .returned (.tuple #[.slice A n c, .bool true]) ∧ Own w' w.heap.size 5 A n c (U8 m)) ∨ (r = none ∧ e = .returned (.tuple #[.slice none 0 0, .bool false]))) ∧ Below w.heap.size w w'
theorem ReadO.then_ {w w1 w' : World} {r : Option (List Nat)} {e : Ending} (h : ReadO w1 r e w') (b : Below w.heap.size w w1) : ReadO w r e w' := by
  obtain ⟨h, b2⟩ := h
  refine ⟨?_, Below.then_ b b2⟩
  rcases h with ⟨m, h1, A, n, c, h2, h3⟩ | h
  · exact .inl ⟨m, h1, A, n, c, h2, h3.down b.size⟩
  · exact .inr h
set_option maxHeartbeats 400000 in
/-- harq.open. -/
theorem openH (A : Option Addr) (n c : Nat) (l : List Nat) (w : World) (hr : Rd w w.heap.size A n (U8 l)) (hl : ∀ x ∈ l, x ≤ 1) (hn : n ≤ 65536) :
    Calls Tryd.prog 87 #[.slice A n c] w (ReadO w (opn l)) := by
  have C1 := Lib.hid (bytesYes A n c l w hr hl hn)
  have hT : (Bm.toBytes l).length ≤ 65536 := by
    have := hr.len8
    have h2 := Bm.toBytes_length l
    omega
  have hlt := toBytes_lt l hl
  generalize hB : Bm.toBytes l = B at *
  have HO : Hid (opn l = if Crc.ok32 B = true then some (B.take (B.length - 4)) else none) := by unfold Hid opn; rw [hB]
  generalize opn l = r at *
  have CY := Lib.hid (fun (A : Option Addr) (n c : Nat) (w : World) (hr : Rd w w.heap.size A n (U8 B)) (hnc : n ≤ c) (hn : n ≤ 65536) (hc : c ≤ 9223372036854775807) (hok : Crc.ok32 B = true) => openYes A n c B w hr hlt hnc hn hc hok)
  have CN := Lib.hid (fun (A : Option Addr) (n c : Nat) (w : World) (hr : Rd w w.heap.size A n (U8 B)) (hnc : n ≤ c) (hn : n ≤ 65536) (hc : c ≤ 9223372036854775807) (hok : Crc.ok32 B = false) => openNo A n c B w hr hlt hnc hn hc hok)
  clear hB hlt hl hr
  have HT := Lib.hid hT
  clear hT
  go_enter Tryd.func87, Tryd.ntmps87
  go_upto_region 2 with (go_at_call 115; refine C1.out.mono ?_; rintro e w1 ⟨A1, n1, c1, rfl, own1, b1⟩)
  obtain ⟨hc1, hc2⟩ := own1.bounds
  have hc3 : c1 ≤ 9223372036854775807 := by unfold maxLen at hc2; omega
  have HL := Lib.hid own1.rd.len8
  have hn1 : n1 ≤ 65536 := by have := HL.out; have := HT.out; omega
  cases hok : Crc.ok32 B with
  | true =>
    have HR := HO.out
    rw [if_pos hok, ← HL.out] at HR
    have HR2 := Lib.hid HR
    have K := Lib.hid (CY.out A1 n1 c1 w1 own1.rd hc1 hn1 hc3 hok)
    clear HR hok
    go_wp2_with (go_at_call 116; refine K.out.mono ?_; rintro e w2 ⟨A2, n2, c2, rfl, own2, b2⟩)
    go_ret2
    exact ⟨.inl ⟨_, HR2.out, A2, n2, c2, rfl, own2.down b1.size⟩, Below.then_ b1 b2⟩
  | false =>
    have HR := HO.out
    rw [if_neg (by rw [hok]; decide)] at HR
    have HR2 := Lib.hid HR
    have K := Lib.hid (CN.out A1 n1 c1 w1 own1.rd hc1 hn1 hc3 hok)
    clear HR hok
    go_wp2_with (go_at_call 116; refine K.out.mono ?_; rintro e w2 ⟨rfl, m, rfl⟩)
    go_ret2
    exact ⟨.inr ⟨HR2.out, rfl⟩, Below.then_ b1 (below_drawn m)⟩
end Go.Proofs.YtcmoedhpedlalaaDoor
