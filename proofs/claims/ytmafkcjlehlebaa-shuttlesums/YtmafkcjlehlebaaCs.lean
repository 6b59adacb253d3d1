/-
  Plain mathematics for the statement through layers 1 to 5: the sum of 16 bits as the rest of a polynomial; three turned bits and the sum of 32 bits. No program is named.
-/
import Derived.Test.YtmafkcjlehlebaaCo
import Derived.Test.YtmafkcjlehlebaaRm
namespace Go.Proofs.Ytmafkcjlehlebaa.Crc
set_option linter.unusedVariables false

theorem bl_p : Poly.bl 69665 = 17 := Poly.bl_of 69665 16 (by decide) (by decide)
theorem st16 (r x : Nat) (hr : r < 65536) (hx : x ≤ 1) : Poly.st 69665 r x = s16 r ^^^ x := by
  unfold Poly.st s16
  rw [bl_p, show x % 2 = x by omega]
  simp only [Nat.reduceSub, Nat.reducePow]
  by_cases h : 32768 ≤ r
  · rw [if_pos (by omega), if_pos (by omega), show 2 * r % 65536 = 2 * r - 65536 by omega]
    have e1 : 2 * r + x = 2 ^ 16 ^^^ ((2 * r - 65536) + x) := by
      rw [pow_xor 16 _ (by omega)]; omega
    have e2 : (2 * r - 65536) + x = (2 * r - 65536) ^^^ x := by
      have := Poly.two_add (r - 32768) x hx
      rw [show 2 * (r - 32768) = 2 * r - 65536 by omega] at this
      exact this
    have e3 : 69665 = 2 ^ 16 ^^^ 4129 := by decide
    rw [e1, e3, xor_swap, Nat.xor_self, Nat.zero_xor, e2, Nat.xor_assoc, Nat.xor_assoc, Nat.xor_comm x]
  · rw [if_neg (by omega), if_neg (by omega), show 2 * r % 65536 = 2 * r by omega]
    exact Poly.two_add r x hx
theorem st_bits8 (r x : Nat) (hr : r < 65536) (hx : x < 256) : ∀ k, k ≤ 8 → ((Bm.bits8 x).take k).foldl (Poly.st 69665) r = it s16 k r ^^^ x / 2 ^ (8 - k)
  | 0, _ => by
    show r = r ^^^ x / 256
    rw [Nat.div_eq_of_lt hx, Nat.xor_zero]
  | k + 1, h => by
    rw [Bm.bits8_take x k (by omega), List.foldl_append, st_bits8 r x hr hx k (by omega)]
    show Poly.st 69665 _ _ = _
    have h1 : x / 2 ^ (8 - k) < 256 := Nat.lt_of_le_of_lt (Nat.div_le_self _ _) hx
    have h2 : it s16 k r < 65536 := it_lt 65536 (fun a _ => s16_lt a) k r hr
    have h3 : it s16 k r ^^^ x / 2 ^ (8 - k) < 65536 := Nat.xor_lt_two_pow (n := 16) h2 (by omega)
    rw [st16 _ _ h3 (by omega), s16_lin, ← it_succ s16 k, Nat.xor_assoc]
    congr 1
    have e : s16 (x / 2 ^ (8 - k)) = 2 * (x / 2 ^ (8 - k)) := by
      generalize x / 2 ^ (8 - k) = z at *
      unfold s16; rw [if_neg (by omega)]; omega
    have e2 : x / 2 ^ (8 - k) = x / 2 ^ (7 - k) / 2 := by
      rw [Nat.div_div_eq_div_mul, ← Nat.pow_succ, show (7 - k).succ = 8 - k by omega]
    rw [e, ← Poly.two_add _ _ (by omega), e2, show 8 - (k + 1) = 7 - k by omega]
    omega
/-- The rest takes a byte. -/
def q8 (r x : Nat) : Nat := it s16 8 r ^^^ x
theorem st_byte (r x : Nat) (hr : r < 65536) (hx : x < 256) : (Bm.bits8 x).foldl (Poly.st 69665) r = q8 r x := by
  have := st_bits8 r x hr hx 8 (Nat.le_refl _)
  rw [Bm.bits8_all] at this
  rw [this]; simp [q8]
theorem q8_lt (r x : Nat) (hr : r < 65536) (hx : x < 256) : q8 r x < 65536 := Nat.xor_lt_two_pow (n := 16) (it_lt 65536 (fun a _ => s16_lt a) 8 r hr) (by omega)
def sb (r : Nat) (l : List Nat) : Nat := l.foldl q8 r
theorem st_bytes : ∀ (l : List Nat) (r : Nat), r < 65536 → (∀ x ∈ l, x < 256) → (Bm.ofBytes l).foldl (Poly.st 69665) r = sb r l
  | [], r, _, _ => rfl
  | x :: l, r, hr, hl => by
    have hx := hl x List.mem_cons_self
    show (Bm.bits8 x ++ Bm.ofBytes l).foldl _ _ = sb (q8 r x) l
    rw [List.foldl_append, st_byte r x hr hx, st_bytes l _ (q8_lt r x hr hx) (fun y hy => hl y (List.mem_cons_of_mem _ hy))]
theorem sb_left : ∀ (l : List Nat) (r t : Nat), sb (r ^^^ t) l = sb r l ^^^ it s16 (8 * l.length) t
  | [], r, t => rfl
  | x :: l, r, t => by
    show sb (q8 (r ^^^ t) x) l = sb (q8 r x) l ^^^ _
    have e : q8 (r ^^^ t) x = q8 r x ^^^ it s16 8 t := by
      unfold q8
      rw [s16_lin.it 8, Nat.xor_assoc, Nat.xor_assoc, Nat.xor_comm x]
    rw [e, sb_left l, List.length_cons, Nat.mul_add, Nat.mul_one, Nat.add_comm (8 * l.length), it_add]
theorem sb_run : ∀ (l : List Nat) (r : Nat), (∀ x ∈ l, x < 256) → it s16 16 (sb r l) = run s16 256 (it s16 16 r) l
  | [], r, _ => rfl
  | x :: l, r, hl => by
    show it s16 16 (sb (q8 r x) l) = run s16 256 (tk s16 256 (it s16 16 r) x) l
    rw [sb_run l _ (fun y hy => hl y (List.mem_cons_of_mem _ hy))]
    congr 1
    unfold q8 tk
    rw [s16_lin.it 16, ← it_add, s16_lin.it 8, ← up8_16 x (hl x List.mem_cons_self), ← it_add, ← it_add]
theorem sb_tail (l : List Nat) (hl : ∀ x ∈ l, x < 256) : sb 0 (l ++ [0, 0]) = run s16 256 0 l := by
  have e : sb 0 (l ++ [0, 0]) = it s16 16 (sb 0 l) := by
    unfold sb
    rw [List.foldl_append]
    show q8 (q8 _ 0) 0 = _
    unfold q8
    rw [Nat.xor_zero, Nat.xor_zero, ← it_add]
  rw [e, sb_run l 0 hl, (s16_lin.it 16).zero]

theorem bits8_not : ∀ x, x < 256 → (Bm.bits8 x).map (· ^^^ 1) = Bm.bits8 (x ^^^ 255) := by decide +kernel
theorem trn_first (a b : List Nat) (k : Nat) (ha : a.length = k) : Bm.trn (a ++ b) (Bm.allTo k) = a.map (· ^^^ 1) ++ b := by
  apply Bm.ext_getD (by rw [Bm.trn_length, List.length_append, List.length_append, List.length_map])
  intro j hj
  rw [Bm.trn_length] at hj
  rw [Bm.trn_getD _ _ j hj, Bm.tgl_allTo]
  by_cases h : j < k
  · rw [if_pos h, Bm.getD_left _ _ _ _ (by omega), Bm.getD_left _ _ _ _ (by rw [List.length_map]; omega), Bm.getD_lt _ _ _ (by omega), Bm.getD_lt _ _ _ (by rw [List.length_map]; omega)]
    simp
  · rw [if_neg h, Bm.getD_right _ _ _ _ (by omega), Bm.getD_right _ _ _ _ (by rw [List.length_map]; omega), List.length_map]
/-- The sum of 16 bits is the rest. -/
theorem rest16 (bs : List Nat) (hb : ∀ x ∈ bs, x < 256) : Poly.restL 69665 (Bm.trn (Bm.ofBytes (bs ++ [0, 0])) (Bm.allTo 16)) = r16 bs := by
  obtain ⟨x, y, rest, hM⟩ : ∃ x y rest, bs ++ [0, 0] = x :: y :: rest := by
    match bs with
    | [] => exact ⟨0, 0, [], rfl⟩
    | [a] => exact ⟨a, 0, [0], rfl⟩
    | a :: b :: l => exact ⟨a, b, l ++ [0, 0], rfl⟩
  have hlen : rest.length = bs.length := by
    have := congrArg List.length hM
    simp at this; omega
  have hall : ∀ z ∈ x :: y :: rest, z < 256 := by
    intro z hz
    rw [← hM] at hz
    rcases List.mem_append.1 hz with h | h
    · exact hb z h
    · simp at h; omega
  have hx := hall x List.mem_cons_self
  have hy := hall y (List.mem_cons_of_mem _ List.mem_cons_self)
  have hrest : ∀ z ∈ rest, z < 256 := fun z hz => hall z (List.mem_cons_of_mem _ (List.mem_cons_of_mem _ hz))
  have e1 : Bm.trn (Bm.ofBytes (x :: y :: rest)) (Bm.allTo 16) = Bm.ofBytes ((x ^^^ 255) :: (y ^^^ 255) :: rest) := by
    have : Bm.ofBytes (x :: y :: rest) = (Bm.bits8 x ++ Bm.bits8 y) ++ Bm.ofBytes rest := by simp [Bm.ofBytes]
    rw [this, trn_first _ _ 16 rfl, List.map_append, bits8_not x hx, bits8_not y hy]
    simp [Bm.ofBytes]
  have hx2 : x ^^^ 255 < 256 := Nat.xor_lt_two_pow (n := 8) hx (by decide)
  have hy2 : y ^^^ 255 < 256 := Nat.xor_lt_two_pow (n := 8) hy (by decide)
  have e2 : sb 0 ((x ^^^ 255) :: (y ^^^ 255) :: rest) = sb 0 (x :: y :: rest) ^^^ it s16 (8 * rest.length) 65535 := by
    show sb (q8 (q8 0 (x ^^^ 255)) (y ^^^ 255)) rest = sb (q8 (q8 0 x) y) rest ^^^ _
    rw [← sb_left]
    congr 1
    unfold q8
    rw [(s16_lin.it 8).zero, Nat.zero_xor, Nat.zero_xor, s16_lin.it 8, xor_swap]
    congr 1
  rw [hM, e1]
  unfold Poly.restL
  rw [st_bytes _ 0 (by decide) (by intro z hz; simp at hz; exact hz.elim (fun h => by rw [h]; exact hx2) (fun h => h.elim (fun h => by rw [h]; exact hy2) (hrest z))), e2, ← hM, sb_tail bs hb, hlen]
  have := run_left s16_lin 256 bs 0 65535
  rw [Nat.zero_xor] at this
  exact this.symm

/-- One bit's way through the register. -/
def gg (m : Nat) : Nat := it s32 m 1
/-- The first so many of them, from one on. -/
def gl : Nat → Nat → List Nat
  | 0, _ => []
  | n + 1, a => a :: gl n (s32 a)
theorem gl_length : ∀ n a, (gl n a).length = n
  | 0, _ => rfl
  | n + 1, a => by simp [gl, gl_length n]
theorem gl_getD : ∀ n a i, i < n → (gl n a).getD i 0 = it s32 i a
  | n + 1, a, 0, _ => rfl
  | n + 1, a, i + 1, h => by
    show (gl n (s32 a)).getD i 0 = _
    rw [gl_getD n (s32 a) i (by omega)]; rfl
def pw : List Nat → Bool
  | [] => true
  | x :: l => l.all (fun y => !(Nat.beq (Nat.xor x y) 1)) && pw l
theorem pw_spec : ∀ (l : List Nat), pw l = true → ∀ i j, i < j → j < l.length → l.getD i 0 ^^^ l.getD j 0 ≠ 1
  | [], _, i, j, _, h => by simp at h
  | x :: l, h, 0, j + 1, _, hj => by
    simp only [pw, Bool.and_eq_true, List.all_eq_true] at h
    have hj2 : j < l.length := by simpa using hj
    have := h.1 (l.getD j 0) (by rw [Bm.getD_lt _ _ _ hj2]; exact List.getElem_mem hj2)
    intro hc
    have e : Nat.beq (Nat.xor x (l.getD j 0)) 1 = true := by
      have : Nat.xor x (l.getD j 0) = 1 := hc
      rw [this]; rfl
    rw [e] at this
    cases this
  | x :: l, h, i + 1, j + 1, hij, hj => by
    simp only [pw, Bool.and_eq_true] at h
    exact pw_spec l h.2 i j (by omega) (by simpa using hj)
def nw (l : List Nat) : Bool := l.all fun x => !(Nat.beq x 1)
theorem nw_spec (l : List Nat) (h : nw l = true) (i : Nat) (hi : i < l.length) : l.getD i 0 ≠ 1 := by
  simp only [nw, List.all_eq_true] at h
  have := h (l.getD i 0) (by rw [Bm.getD_lt _ _ _ hi]; exact List.getElem_mem hi)
  intro hc
  rw [hc] at this
  cases this
theorem pw_ok : pw (gl 239 (s32 1)) = true := by decide +kernel
theorem nw_ok : nw (gl 239 (s32 1)) = true := by decide +kernel
theorem gg_zero (m : Nat) : gg m ≠ 0 := fun h => absurd (it32_zero m 1 (by decide) h) (by decide)
theorem gg_two (a b : Nat) (h1 : a < b) (h2 : b ≤ 240) (h0 : 1 ≤ a) : gg a ^^^ gg b ≠ 0 := by
  intro h
  obtain ⟨d, rfl⟩ : ∃ d, b = a + (d + 1) := ⟨b - a - 1, by omega⟩
  have e : gg (a + (d + 1)) = it s32 a (gg (d + 1)) := by
    unfold gg; rw [Nat.add_comm a, it_add]
  have e2 : gg (d + 1) = it s32 d (s32 1) := rfl
  rw [e] at h
  unfold gg at h
  rw [← s32_lin.it a] at h
  have h3 := Poly.xor_eq_zero _ _ (it32_zero a _ (Nat.xor_lt_two_pow (n := 32) (by decide) (it_lt _ s32_lt _ _ (by decide))) h)
  have := nw_spec _ nw_ok d (by rw [gl_length]; omega)
  rw [gl_getD _ _ _ (by omega)] at this
  exact this h3.symm
theorem gg_three (a b c : Nat) (h0 : 1 ≤ a) (h1 : a < b) (h2 : b < c) (h3 : c ≤ 240) : gg a ^^^ gg b ^^^ gg c ≠ 0 := by
  intro h
  obtain ⟨d, rfl⟩ : ∃ d, b = a + (d + 1) := ⟨b - a - 1, by omega⟩
  obtain ⟨f, rfl⟩ : ∃ f, c = a + (f + 1) := ⟨c - a - 1, by omega⟩
  have e : ∀ d, gg (a + (d + 1)) = it s32 a (it s32 d (s32 1)) := by
    intro d; unfold gg; rw [Nat.add_comm a, it_add]; rfl
  rw [e, e] at h
  unfold gg at h
  rw [← s32_lin.it a, ← s32_lin.it a] at h
  have hs : s32 1 < 4294967296 := by decide
  have h4 := it32_zero a _ (Nat.xor_lt_two_pow (n := 32) (Nat.xor_lt_two_pow (n := 32) (by decide) (it_lt _ s32_lt _ _ hs)) (it_lt _ s32_lt _ _ hs)) h
  have := pw_spec _ pw_ok d f (by omega) (by rw [gl_length]; omega)
  rw [gl_getD _ _ _ (by omega), gl_getD _ _ _ (by omega)] at this
  apply this
  have h5 := Poly.xor_eq_zero _ _ (by rw [Nat.xor_assoc] at h4; exact h4)
  exact h5.symm
end Go.Proofs.Ytmafkcjlehlebaa.Crc
