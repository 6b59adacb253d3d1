/-
  The walks of Crc16Adds and Crc32Adds.
-/
import Derived.Test.YtmafkcjlehlebaaCb
import Derived.StillTailTactics
import Derived.Deep.RegionHeld3
namespace Go.Proofs.Ytmafkcjlehlebaa
open Go.RowKit
set_option linter.unusedVariables false

/-- Three texts together. -/
def z3 (a b c : List Nat) : List Nat := Crc.zx (Crc.zx a b) c
theorem z3_length (a b c : List Nat) (n : Nat) (ha : n = a.length) (hb : n = b.length) (hc : n = c.length) : (z3 a b c).length = n := by
  simp [z3, Crc.zx]; omega
theorem z3_take (a b c : List Nat) (n k : Nat) (ha : n = a.length) (hb : n = b.length) (hc : n = c.length) (hk : k < n) :
    (z3 a b c).take (k + 1) = (z3 a b c).take k ++ [a.getD k 0 ^^^ b.getD k 0 ^^^ c.getD k 0] := by
  have hl := z3_length a b c n ha hb hc
  rw [List.take_succ_eq_append_getElem (by omega), Bm.getD_lt _ _ _ (by omega), Bm.getD_lt _ _ _ (by omega), Bm.getD_lt _ _ _ (by omega)]
  simp [z3, Crc.zx]
theorem run_z3 {f : Nat → Nat} (hf : Crc.Lin f) (m s : Nat) (a b c : List Nat) (h1 : a.length = b.length) (h2 : a.length = c.length) :
    Crc.run f (2 ^ m) s (z3 a b c) = Crc.run f (2 ^ m) s a ^^^ Crc.run f (2 ^ m) s b ^^^ Crc.run f (2 ^ m) s c := by
  have e : s = (s ^^^ s) ^^^ s := by rw [Nat.xor_self, Nat.zero_xor]
  conv => lhs; rw [e]
  unfold z3
  rw [Crc.run_zx hf m _ _ _ _ (by simp [Crc.zx]; omega), Crc.run_zx hf m _ _ _ _ h1]
theorem r16_z3 (a b c : List Nat) (h1 : a.length = b.length) (h2 : a.length = c.length) : Crc.r16 (z3 a b c) = Crc.r16 a ^^^ Crc.r16 b ^^^ Crc.r16 c := run_z3 Crc.s16_lin 8 65535 a b c h1 h2
theorem c32_z3 (a b c : List Nat) (h1 : a.length = b.length) (h2 : a.length = c.length) : Crc.c32 (z3 a b c) = Crc.c32 a ^^^ Crc.c32 b ^^^ Crc.c32 c := by
  have h : Crc.r32 (z3 a b c) = Crc.r32 a ^^^ Crc.r32 b ^^^ Crc.r32 c := run_z3 Crc.s32_lin 0 4294967295 a b c h1 h2
  unfold Crc.c32
  rw [h, Crc.xor_swap 4294967295 (Crc.r32 a) 4294967295 (Crc.r32 b), Nat.xor_self, Nat.zero_xor, ← Nat.xor_assoc, ← Nat.xor_assoc, Nat.xor_comm 4294967295, Nat.xor_assoc (Crc.r32 a) 4294967295, Nat.xor_comm 4294967295, ← Nat.xor_assoc, Nat.xor_assoc (Crc.r32 a ^^^ Crc.r32 b)]

theorem xor3_lt {N a b c : Nat} (ha : a < 2 ^ N) (hb : b < 2 ^ N) (hc : c < 2 ^ N) : a ^^^ b ^^^ c < 2 ^ N := Nat.xor_lt_two_pow (Nat.xor_lt_two_pow ha hb) hc
theorem z3_lt (a b c : List Nat) (ha : ∀ x ∈ a, x < 256) (hb : ∀ x ∈ b, x < 256) (hc : ∀ x ∈ c, x < 256) : ∀ x ∈ z3 a b c, x < 256 := by
  have zx_lt : ∀ (a b : List Nat), (∀ x ∈ a, x < 256) → (∀ x ∈ b, x < 256) → ∀ x ∈ Crc.zx a b, x < 256 := by
    intro a
    induction a with
    | nil => intro b _ _ x h; simp [Crc.zx] at h
    | cons y a ih =>
      intro b h1 h2 x h
      cases b with
      | nil => simp [Crc.zx] at h
      | cons z b =>
        simp only [Crc.zx, List.zipWith_cons_cons, List.mem_cons] at h
        rcases h with rfl | h
        · exact Nat.xor_lt_two_pow (n := 8) (h1 y List.mem_cons_self) (h2 z List.mem_cons_self)
        · exact ih b (fun u hu => h1 u (List.mem_cons_of_mem _ hu)) (fun u hu => h2 u (List.mem_cons_of_mem _ hu)) x h
  exact zx_lt _ _ (zx_lt a b ha hb) hc

theorem min4 (n1 n2 n3 K : Nat) : ∃ k : Nat, k ≤ K ∧ k ≤ n1 ∧ k ≤ n2 ∧ k ≤ n3 ∧ ∀ z : Int, z = (K : Int) → ∀ (ts : Array TypeId) (t : TypeId) (W : World),
    (Builtin.min_ ts t #[.int .i64 (n1 : Int), .int .i64 (n2 : Int), .int .i64 (n3 : Int), .int .i64 z]).run Try.prog W = .ok (.int .i64 (k : Int)) W := by
  refine ⟨min (min (min n1 n2) n3) K, by omega, by omega, by omega, by omega, fun z hz ts t W => ?_⟩
  subst hz
  have e1 : (if (n2 : Int) < (n1 : Int) then (n2 : Int) else (n1 : Int)) = ((min n1 n2 : Nat) : Int) := by split <;> omega
  have e2 : ∀ m : Nat, (if (n3 : Int) < (m : Int) then (n3 : Int) else (m : Int)) = ((min m n3 : Nat) : Int) := by intro m; split <;> omega
  have e3 : ∀ m : Nat, (if (K : Int) < (m : Int) then (K : Int) else (m : Int)) = ((min m K : Nat) : Int) := by intro m; split <;> omega
  have h : (Builtin.min_ ts t #[.int .i64 (n1 : Int), .int .i64 (n2 : Int), .int .i64 (n3 : Int), .int .i64 (K : Int)]) = pure (.int .i64 (if (K : Int) < (if (n3 : Int) < (if (n2 : Int) < (n1 : Int) then (n2 : Int) else (n1 : Int)) then (n3 : Int) else (if (n2 : Int) < (n1 : Int) then (n2 : Int) else (n1 : Int))) then (K : Int) else (if (n3 : Int) < (if (n2 : Int) < (n1 : Int) then (n2 : Int) else (n1 : Int)) then (n3 : Int) else (if (n2 : Int) < (n1 : Int) then (n2 : Int) else (n1 : Int))))) := by
    simp only [Builtin.min_, List.foldlM_cons, List.foldlM_nil, Builtin.min2, pure_bind]
  rw [h, e1, e2, e3]
  rfl

set_option maxHeartbeats 1000000 in
/-- Crc16Adds. -/
theorem walk8 (A1 A2 A3 : Option Addr) (n1 n2 n3 c1 c2 c3 : Nat) (xs ys zs : List Nat) (w : World) (h1 : Rd w w.heap.size A1 n1 (U8 xs)) (h2 : Rd w w.heap.size A2 n2 (U8 ys)) (h3 : Rd w w.heap.size A3 n3 (U8 zs))
    (b1 : ∀ b ∈ xs, b < 256) (b2 : ∀ b ∈ ys, b < 256) (b3 : ∀ b ∈ zs, b < 256) (l1 : n1 ≤ c1) (l2 : n2 ≤ c2) (l3 : n3 ≤ c3) (m1 : c1 ≤ 9223372036854775807) (m2 : c2 ≤ 9223372036854775807) (m3 : c3 ≤ 9223372036854775807) :
    Calls Try.prog 8 #[.slice A1 n1 c1, .slice A2 n2 c2, .slice A3 n3 c3] w fun e w' => e = .returned (.bool true) ∧ Below w.heap.size w w' := by
  obtain ⟨n, hn, hn1, hn2, hn3, hn4⟩ := min4 n1 n2 n3 100
  have hm := hn4 100 rfl
  clear hn4
  have r1 := h1.cut8 n hn1
  have r2 := h2.cut8 n hn2
  have r3 := h3.cut8 n hn3
  have B1 := Lib.hid (take256 b1 n)
  have B2 := Lib.hid (take256 b2 n)
  have B3 := Lib.hid (take256 b3 n)
  generalize xs.take n = us at *
  generalize ys.take n = vs at *
  generalize zs.take n = ws at *
  have L1 := Lib.hid r1.len8
  have L2 := Lib.hid r2.len8
  have L3 := Lib.hid r3.len8
  have HT := Lib.hid (fun k hk => z3_take us vs ws n k L1.out L2.out L3.out hk)
  clear h1 h2 h3 b1 b2 b3
  go_enter Try.func8, Try.ntmps8
  go_wp2
  clear hm
  go_loopw [8, 9] (fun l i wr => ∃ k : Nat, k ≤ n ∧ i = .int .i64 k ∧ ∃ A4 c4, l = .slice A4 k c4 ∧ Own wr w.heap.size 5 A4 k c4 (U8 ((z3 us vs ws).take k)) ∧ Below w.heap.size w wr) (fun _ i _ => n - (intOf i).toNat)
  case atStart => exact ⟨0, Nat.zero_le _, rfl, none, 0, rfl, Own.nil _ _ _, Below.refl _ _⟩
  case round =>
    rename_i wr _
    obtain ⟨k, hk, rfl, A4, c4, rfl, hown, hbel⟩ := hrel
    have hsz := hbel.size
    by_cases hlt : k < n
    · obtain ⟨p1, o1, rfl, q1, g1⟩ := (r1.below hbel).cell8 k hlt
      obtain ⟨p2, o2, rfl, q2, g2⟩ := (r2.below hbel).cell8 k hlt
      obtain ⟨p3, o3, rfl, q3, g3⟩ := (r3.below hbel).cell8 k hlt
      have HS := Lib.hid (HT.out k hlt)
      have x1 := Bm.byte_lt us B1.out k
      have x2 := Bm.byte_lt vs B2.out k
      have x3 := Bm.byte_lt ws B3.out k
      generalize us.getD k 0 = x at *
      generalize vs.getD k 0 = y at *
      generalize ws.getD k 0 = z at *
      have hxy : x ^^^ y < 256 := Nat.xor_lt_two_pow (n := 8) x1 x2
      have e1 := u8_xor_nat x y x1 x2
      obtain ⟨u, hu⟩ : ∃ u, u = x ^^^ y := ⟨_, rfl⟩
      rw [← hu] at e1 hxy HS
      have e2 := u8_xor_nat u z hxy x3
      have s1 : ((k : Nat) : Int) < (n1 : Int) := by omega
      have s2 : ((k : Nat) : Int) < (n2 : Int) := by omega
      have s3 : ((k : Nat) : Int) < (n3 : Int) := by omega
      clear hu
      go_wp2_with fail
      have ownd : Own wr.drew w.heap.size 5 A4 k c4 (U8 ((z3 us vs ws).take k)) := ⟨hown.row.drew⟩
      go_region_law ((refine step_app8 wr.drew (by rfl) _ _ (by rfl) w.heap.size A4 k c4 _ (u ^^^ z) _ (by first | rfl | omega) (by rfl) ownd (by rfl) (by omega) (by simp; omega) ?_; intro A5 c5 w5 hown5 hgrow5 hat5))
      all_goals
        go_wp2
        go_roundw
        case rel =>
          refine ⟨k + 1, by omega, by go_num, A5, c5, rfl, ?_, ?_⟩
          · rw [HS.out]; exact hown5
          · exact (hbel.drew).grown hgrow5 (by simp; omega) (fun j hj => (hown.block j hj).1)
        case measure => simp [intOf] <;> omega
    · have hkn : k = n := by omega
      obtain rfl := hkn
      have ha : (z3 us vs ws).take k = z3 us vs ws := List.take_of_length_le (by rw [z3_length us vs ws k L1.out L2.out L3.out]; omega)
      rw [ha] at hown
      clear ha
      have HB := Lib.hid (z3_lt us vs ws B1.out B2.out B3.out)
      have HR := Lib.hid (r16_z3 us vs ws (by rw [← L1.out, ← L2.out]) (by rw [← L1.out, ← L3.out]))
      have C0 := Lib.hid (fun (W : World) (hB : Below wr.heap.size wr W) => sum16 A4 k c4 (z3 us vs ws) W (hown.rdOf hB) HB.out (by omega))
      have C1 := Lib.hid (fun (W : World) (hB : Below wr.heap.size wr W) => sum16 A1 k c1 us W ((r1.below (hbel.trans (hB.mono hsz))).up (Nat.le_trans hsz hB.size)) B1.out (by omega))
      have C2 := Lib.hid (fun (W : World) (hB : Below wr.heap.size wr W) => sum16 A2 k c2 vs W ((r2.below (hbel.trans (hB.mono hsz))).up (Nat.le_trans hsz hB.size)) B2.out (by omega))
      have C3 := Lib.hid (fun (W : World) (hB : Below wr.heap.size wr W) => sum16 A3 k c3 ws W ((r3.below (hbel.trans (hB.mono hsz))).up (Nat.le_trans hsz hB.size)) B3.out (by omega))
      rw [HR.out] at C0
      have y1 := Crc.r16_lt us B1.out
      have y2 := Crc.r16_lt vs B2.out
      have y3 := Crc.r16_lt ws B3.out
      generalize Crc.r16 us = s1 at *
      generalize Crc.r16 vs = s2 at *
      generalize Crc.r16 ws = s3 at *
      have y4 : s1 ^^^ s2 < 65536 := Nat.xor_lt_two_pow (n := 16) y1 y2
      have e1 := u16_xor_nat s1 s2 y1 y2
      obtain ⟨s4, hs4⟩ : ∃ u, u = s1 ^^^ s2 := ⟨_, rfl⟩
      rw [← hs4] at y4 e1 C0
      have e2 := u16_xor_nat s4 s3 y4 y3
      obtain ⟨s5, hs5⟩ : ∃ u, u = s4 ^^^ s3 := ⟨_, rfl⟩
      rw [← hs5] at e2 C0
      clear hs4 hs5 HR HB r1 r2 r3 hown HT
      have z0 : (0 : Int) ≤ (k : Int) := by omega
      have z1 : (k : Int) ≤ (c1 : Int) := by omega
      have z2 : (k : Int) ≤ (c2 : Int) := by omega
      have z3' : (k : Int) ≤ (c3 : Int) := by omega
      go_wp2_with fail
      go_region_held3 (fun W => Below wr.heap.size wr W)
        (first
          | assumption
          | exact (Below.refl _ _).drew
          | exact Below.then_ ‹Below wr.heap.size wr _› ‹_›)
        (first
          | (go_at_call 17; refine (sums16 _).mono ?_; rintro e wt ⟨rfl, bet⟩)
          | (go_at_call 18; ((with_reducible refine (C0.out _ (by assumption)).mono ?_); rintro e wt ⟨rfl, rfl⟩))
          | (go_at_call 18; ((with_reducible refine (C1.out _ (by assumption)).mono ?_); rintro e wt ⟨rfl, rfl⟩))
          | (go_at_call 18; ((with_reducible refine (C2.out _ (by assumption)).mono ?_); rintro e wt ⟨rfl, rfl⟩))
          | (go_at_call 18; ((with_reducible refine (C3.out _ (by assumption)).mono ?_); rintro e wt ⟨rfl, rfl⟩)))
      go_wp2
      go_ret
      exact ⟨rfl, Below.then_ hbel (by assumption)⟩
set_option maxHeartbeats 1000000 in
/-- Crc32Adds. -/
theorem walk5 (A1 A2 A3 : Option Addr) (n1 n2 n3 c1 c2 c3 : Nat) (xs ys zs : List Nat) (w : World) (h1 : Rd w w.heap.size A1 n1 (U8 xs)) (h2 : Rd w w.heap.size A2 n2 (U8 ys)) (h3 : Rd w w.heap.size A3 n3 (U8 zs))
    (b1 : ∀ b ∈ xs, b < 256) (b2 : ∀ b ∈ ys, b < 256) (b3 : ∀ b ∈ zs, b < 256) (l1 : n1 ≤ c1) (l2 : n2 ≤ c2) (l3 : n3 ≤ c3) (m1 : c1 ≤ 9223372036854775807) (m2 : c2 ≤ 9223372036854775807) (m3 : c3 ≤ 9223372036854775807) :
    Calls Try.prog 5 #[.slice A1 n1 c1, .slice A2 n2 c2, .slice A3 n3 c3] w fun e w' => e = .returned (.bool true) ∧ Below w.heap.size w w' := by
  obtain ⟨n, hn, hn1, hn2, hn3, hn4⟩ := min4 n1 n2 n3 100
  have hm := hn4 100 rfl
  clear hn4
  have r1 := h1.cut8 n hn1
  have r2 := h2.cut8 n hn2
  have r3 := h3.cut8 n hn3
  have B1 := Lib.hid (take256 b1 n)
  have B2 := Lib.hid (take256 b2 n)
  have B3 := Lib.hid (take256 b3 n)
  generalize xs.take n = us at *
  generalize ys.take n = vs at *
  generalize zs.take n = ws at *
  have L1 := Lib.hid r1.len8
  have L2 := Lib.hid r2.len8
  have L3 := Lib.hid r3.len8
  have HT := Lib.hid (fun k hk => z3_take us vs ws n k L1.out L2.out L3.out hk)
  clear h1 h2 h3 b1 b2 b3
  go_enter Try.func5, Try.ntmps5
  go_wp2
  clear hm
  go_loopw [8, 9] (fun l i wr => ∃ k : Nat, k ≤ n ∧ i = .int .i64 k ∧ ∃ A4 c4, l = .slice A4 k c4 ∧ Own wr w.heap.size 5 A4 k c4 (U8 ((z3 us vs ws).take k)) ∧ Below w.heap.size w wr) (fun _ i _ => n - (intOf i).toNat)
  case atStart => exact ⟨0, Nat.zero_le _, rfl, none, 0, rfl, Own.nil _ _ _, Below.refl _ _⟩
  case round =>
    rename_i wr _
    obtain ⟨k, hk, rfl, A4, c4, rfl, hown, hbel⟩ := hrel
    have hsz := hbel.size
    by_cases hlt : k < n
    · obtain ⟨p1, o1, rfl, q1, g1⟩ := (r1.below hbel).cell8 k hlt
      obtain ⟨p2, o2, rfl, q2, g2⟩ := (r2.below hbel).cell8 k hlt
      obtain ⟨p3, o3, rfl, q3, g3⟩ := (r3.below hbel).cell8 k hlt
      have HS := Lib.hid (HT.out k hlt)
      have x1 := Bm.byte_lt us B1.out k
      have x2 := Bm.byte_lt vs B2.out k
      have x3 := Bm.byte_lt ws B3.out k
      generalize us.getD k 0 = x at *
      generalize vs.getD k 0 = y at *
      generalize ws.getD k 0 = z at *
      have hxy : x ^^^ y < 256 := Nat.xor_lt_two_pow (n := 8) x1 x2
      have e1 := u8_xor_nat x y x1 x2
      obtain ⟨u, hu⟩ : ∃ u, u = x ^^^ y := ⟨_, rfl⟩
      rw [← hu] at e1 hxy HS
      have e2 := u8_xor_nat u z hxy x3
      have s1 : ((k : Nat) : Int) < (n1 : Int) := by omega
      have s2 : ((k : Nat) : Int) < (n2 : Int) := by omega
      have s3 : ((k : Nat) : Int) < (n3 : Int) := by omega
      clear hu
      go_wp2_with fail
      have ownd : Own wr.drew w.heap.size 5 A4 k c4 (U8 ((z3 us vs ws).take k)) := ⟨hown.row.drew⟩
      go_region_law ((refine step_app8 wr.drew (by rfl) _ _ (by rfl) w.heap.size A4 k c4 _ (u ^^^ z) _ (by first | rfl | omega) (by rfl) ownd (by rfl) (by omega) (by simp; omega) ?_; intro A5 c5 w5 hown5 hgrow5 hat5))
      all_goals
        go_wp2
        go_roundw
        case rel =>
          refine ⟨k + 1, by omega, by go_num, A5, c5, rfl, ?_, ?_⟩
          · rw [HS.out]; exact hown5
          · exact (hbel.drew).grown hgrow5 (by simp; omega) (fun j hj => (hown.block j hj).1)
        case measure => simp [intOf] <;> omega
    · have hkn : k = n := by omega
      obtain rfl := hkn
      have ha : (z3 us vs ws).take k = z3 us vs ws := List.take_of_length_le (by rw [z3_length us vs ws k L1.out L2.out L3.out]; omega)
      rw [ha] at hown
      clear ha
      have HB := Lib.hid (z3_lt us vs ws B1.out B2.out B3.out)
      have HR := Lib.hid (c32_z3 us vs ws (by rw [← L1.out, ← L2.out]) (by rw [← L1.out, ← L3.out]))
      have C0 := Lib.hid (fun (W : World) (hB : Below wr.heap.size wr W) => sum32 A4 k c4 (z3 us vs ws) W (hown.rdOf hB) HB.out (by omega))
      have C1 := Lib.hid (fun (W : World) (hB : Below wr.heap.size wr W) => sum32 A1 k c1 us W ((r1.below (hbel.trans (hB.mono hsz))).up (Nat.le_trans hsz hB.size)) B1.out (by omega))
      have C2 := Lib.hid (fun (W : World) (hB : Below wr.heap.size wr W) => sum32 A2 k c2 vs W ((r2.below (hbel.trans (hB.mono hsz))).up (Nat.le_trans hsz hB.size)) B2.out (by omega))
      have C3 := Lib.hid (fun (W : World) (hB : Below wr.heap.size wr W) => sum32 A3 k c3 ws W ((r3.below (hbel.trans (hB.mono hsz))).up (Nat.le_trans hsz hB.size)) B3.out (by omega))
      rw [HR.out] at C0
      have y1 := Crc.c32_lt us B1.out
      have y2 := Crc.c32_lt vs B2.out
      have y3 := Crc.c32_lt ws B3.out
      generalize Crc.c32 us = s1 at *
      generalize Crc.c32 vs = s2 at *
      generalize Crc.c32 ws = s3 at *
      have y4 : s1 ^^^ s2 < 4294967296 := Nat.xor_lt_two_pow (n := 32) y1 y2
      have e1 := u32_xor_nat s1 s2 y1 y2
      obtain ⟨s4, hs4⟩ : ∃ u, u = s1 ^^^ s2 := ⟨_, rfl⟩
      rw [← hs4] at y4 e1 C0
      have e2 := u32_xor_nat s4 s3 y4 y3
      obtain ⟨s5, hs5⟩ : ∃ u, u = s4 ^^^ s3 := ⟨_, rfl⟩
      rw [← hs5] at e2 C0
      clear hs4 hs5 HR HB r1 r2 r3 hown HT
      have z0 : (0 : Int) ≤ (k : Int) := by omega
      have z1 : (k : Int) ≤ (c1 : Int) := by omega
      have z2 : (k : Int) ≤ (c2 : Int) := by omega
      have z3' : (k : Int) ≤ (c3 : Int) := by omega
      go_wp2_with fail
      go_region_held3 (fun W => Below wr.heap.size wr W)
        (first
          | assumption
          | exact (Below.refl _ _).drew
          | exact Below.then_ ‹Below wr.heap.size wr _› ‹_›)
        (first
          | (go_at_call 13; refine (sums32 _).mono ?_; rintro e wt ⟨rfl, bet⟩)
          | (go_at_call 14; ((with_reducible refine (C0.out _ (by assumption)).mono ?_); rintro e wt ⟨rfl, rfl⟩))
          | (go_at_call 14; ((with_reducible refine (C1.out _ (by assumption)).mono ?_); rintro e wt ⟨rfl, rfl⟩))
          | (go_at_call 14; ((with_reducible refine (C2.out _ (by assumption)).mono ?_); rintro e wt ⟨rfl, rfl⟩))
          | (go_at_call 14; ((with_reducible refine (C3.out _ (by assumption)).mono ?_); rintro e wt ⟨rfl, rfl⟩)))
      go_wp2
      go_ret
      exact ⟨rfl, Below.then_ hbel (by assumption)⟩
end Go.Proofs.Ytmafkcjlehlebaa
