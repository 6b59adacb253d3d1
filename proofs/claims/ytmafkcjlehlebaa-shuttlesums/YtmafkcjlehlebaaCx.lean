/-
  Contracts of the small functions of the statement through layers 1 to 5.
-/
import Derived.Test.YtmafkcjlehlebaaCb
import Derived.Test.YtmafkcjlehlebaaCw
namespace Go.Proofs.Ytmafkcjlehlebaa
open Go.RowKit
set_option linter.unusedVariables false

set_option maxHeartbeats 400000 in
/-- cut, to thirty. -/
theorem cutC (A : Option Addr) (n c : Nat) (bs : List Nat) (w : World) (hr : Rd w w.heap.size A n (U8 bs)) (hnc : n ≤ c) (hc : c ≤ 9223372036854775807) (hnone : A = none → n = 0 ∧ c = 0) :
    Calls Try.prog 24 #[.slice A n c, .int .i64 30] w (Made w (bs.take 30)) := by
  obtain ⟨i0, hi0, hz0, hz1, hz2⟩ := info_parts info5
  have hl := hr.len8
  obtain ⟨k, hk, hk2, hk3⟩ := min_if n 30
  obtain ⟨hm1, hm2⟩ := hk3 30 rfl
  clear hk3
  have hkt : bs.take 30 = bs.take k := by
    by_cases h : k = 30
    · rw [h]
    · rw [List.take_of_length_le (by omega), List.take_of_length_le (by omega)]
  rw [hkt]
  have r1 := hr.cut8 k hk2
  generalize bs.take k = ls at *
  have bel0 : Below w.heap.size w (w.alloc (.cells #[] 5)) := (Below.refl _ _).alloc (Nat.le_refl _) _
  have hn2 : A = none → k = 0 ∧ c = 0 := fun h => ⟨by have := (hnone h).1; omega, (hnone h).2⟩
  have o1 : Own (w.alloc (.cells #[] 5)) w.heap.size 5 (some ⟨w.heap.size, 0, none⟩) 0 0 [] := ⟨World.ownsRow_made w #[] 0 (Nat.le_refl _) (by unfold maxLen; omega) (by simp)⟩
  clear hkt hr hl hnone
  go_enter Try.func24, Try.ntmps24
  go_wp2_with (at_builtin; refine wpList_app _ rfl _ _ 22 rfl w.heap.size 5 i0 _ 1 Try.underlying22 hi0 hz0 hz1 hz2 rfl _ 0 0 [] rfl o1 w.heap.size A k c (U8 ls) rfl (r1.below bel0) hn2 (U8_one ls) (by omega) (by unfold maxLen; omega) bel0.size ?_; intro A5 c5 w5 hown5 hgrow5)
  go_ret
  exact ⟨A5, k, c5, rfl, hown5.to (Nat.zero_add k) (List.nil_append (U8 ls)), bel0.grown hgrow5 bel0.size (fun j hj => by simp [Value.ownBlock] at hj; omega)⟩

theorem wrap_u64 (a : Int) : ∃ u : Nat, u < 18446744073709551616 ∧ IntKind.u64.wrap a = (u : Int) := by
  have h : IntKind.u64.wrap a = a % 18446744073709551616 := IntKind.wrap_u64 a
  refine ⟨(a % 18446744073709551616).toNat, by omega, ?_⟩
  rw [h]; omega

/-- What places gives. -/
def Places (w : World) (N : Nat) (e : Ending) (w' : World) : Prop :=
  ∃ A n c ps, e = .returned (.slice A n c) ∧ Own w' w.heap.size 3 A n c (I64 (Crc.ints ps)) ∧ Hid (ps.length ≤ 3 ∧ ∀ p ∈ ps, p < N) ∧ Below w.heap.size w w'

set_option maxHeartbeats 400000 in
/-- places, at most three. -/
theorem placesC (A : Option Addr) (m c N : Nat) (zs : List Int) (w : World) (hr : Rd w w.heap.size A m (I64 zs)) (hm : m ≤ 9223372036854775807) (hN : 0 < N) (hN2 : N ≤ 1000) :
    Calls Try.prog 29 #[.slice A m c, .int .i64 3, .int .i64 (N : Int)] w (Places w N) := by
  have HN := Lib.hid hr.len64
  go_enter Try.func29, Try.ntmps29
  go_wp2
  go_loopw [7, 8] (fun l i wr => ∃ k : Nat, k ≤ m ∧ k ≤ 3 ∧ i = .int .i64 k ∧ ∃ A1 c1 ps, l = .slice A1 k c1 ∧ Own wr w.heap.size 3 A1 k c1 (I64 (Crc.ints ps)) ∧ Hid (ps.length = k ∧ ∀ p ∈ ps, p < N) ∧ Below w.heap.size w wr) (fun _ i _ => 3 - (intOf i).toNat)
  case atStart => exact ⟨0, Nat.zero_le _, Nat.zero_le _, rfl, none, 0, [], rfl, Own.nil _ _ _, ⟨rfl, by simp⟩, Below.refl _ _⟩
  case round =>
    obtain ⟨k, hk, hk3, rfl, A1, c1, ps, rfl, hown, HP, hbel⟩ := hrel
    have hsz := hbel.size
    by_cases hlt : k < m
    · by_cases hlt1 : k < 3
      · obtain ⟨b, off, rfl, hlt2, hcell⟩ := (hr.below hbel).cell64 k hlt
        generalize zs.getD k 0 = z at *
        obtain ⟨u, hu, hu2⟩ := wrap_u64 z
        obtain ⟨p, hp, hp2⟩ : ∃ p : Nat, p < N ∧ (u : Int) % (N : Int) = (p : Int) := ⟨u % N, Nat.mod_lt _ hN, by omega⟩
        have t1 : decide ((k : Int) < (m : Int)) = true := by simp; omega
        have t2 : decide ((k : Int) < 3) = true := by simp; omega
        have t3 : decide (k < m) = true := by simp; omega
        have t4 : decide (k < 3) = true := by simp; omega
        go_wp2_with (at_builtin; refine app64 _ rfl _ _ rfl w.heap.size _ _ _ _ (p : Int) rfl hown rfl (by omega) hsz ?_; intro A3 c3 w3 hown3 hgrow3)
        go_roundw
        case rel =>
          refine ⟨k + 1, by omega, by omega, by go_num, A3, c3, ps ++ [p], rfl, ?_, ⟨by rw [List.length_append, HP.out.1]; rfl, ?_⟩, hbel.grown hgrow3 hsz (fun j hj => (hown.block j hj).1)⟩
          · have e : Crc.ints (ps ++ [p]) = Crc.ints ps ++ [(p : Int)] := by simp [Crc.ints]
            rw [e]; exact hown3
          · intro q hq
            rcases List.mem_append.1 hq with h | h
            · exact HP.out.2 q h
            · simp at h; omega
        case measure => simp [intOf] <;> omega
      · have t1 : decide ((k : Int) < (m : Int)) = true := by simp; omega
        have t2 : decide ((k : Int) < 3) = false := by simp; omega
        have t3 : decide (k < m) = true := by simp; omega
        have t4 : decide (k < 3) = false := by simp; omega
        go_wp2
        go_ret
        exact ⟨A1, k, c1, ps, rfl, hown, ⟨by rw [HP.out.1]; exact hk3, HP.out.2⟩, hbel⟩
    · have t1 : decide ((k : Int) < (m : Int)) = false := by simp; omega
      have t3 : decide (k < m) = false := by simp; omega
      go_wp2
      go_ret
      exact ⟨A1, k, c1, ps, rfl, hown, ⟨by rw [HP.out.1]; exact hk3, HP.out.2⟩, hbel⟩
end Go.Proofs.Ytmafkcjlehlebaa
