/-
  []byte as a string; the first test of layer 1's statements.
-/
import Derived.Test.YtcddbcknjcedfaaBc
namespace Go.Proofs.Ytcddbcknjcedfaa
open Go.RowKit
set_option linter.unusedVariables false

/-- Bytes as a string. -/
def str (bs : List Nat) : ByteArray := strOfNums (bs.map fun (b : Nat) => (b : Int))

theorem Own.conv {w : World} {base : Nat} {A : Option Addr} {n c : Nat} {bs : List Nat} (h : Own w base 5 A n c (U8 bs)) (W : World) (hb : Below w.heap.size w W) :
    (convert 22 9 (.slice A n c)).run Try.prog W = .ok (.string (str bs)) W := by
  have hl : n = bs.length := by have := h.len; rw [U8_length] at this; exact this.symm
  rcases h.row.2 with ⟨hv, h0⟩ | ⟨g, cap, cur, hv, hbg, hg, rest⟩
  · injection hv with h1 h2 h3
    subst h1
    have hbs : bs = [] := List.eq_nil_of_length_eq_zero (by omega)
    subst hbs
    exact run_convert_bytes_nil W 22 5 Try.underlying22 Try.underlying5 n c 9 Try.underlying9
  · injection hv with h1 h2 h3
    subst h1
    refine run_convert_bytes_arg W 22 5 Try.underlying22 Try.underlying5 g 0 n c _ (by simp [hl]) (fun i hi => ?_) 9 Try.underlying9
    have hlt : g < w.heap.size := (Array.getElem?_eq_some_iff.1 hg).1
    rw [hb.cell (p := ⟨g, 0 + i, none⟩) hlt]
    have := h.row.cells (g := g) rfl i _ (U8_get bs i (by omega))
    rw [Addr.add_lit] at this
    rw [this]
    simp [List.getD, show i < bs.length by omega]

theorem tells_str : ((str (Bm.ofBytes [160])).toList == [1, 0, 1, 0, 0, 0, 0, 0]) = true := by decide +kernel

theorem rd_one (w : World) (b : Nat) (z : Int) (hz : z = (b : Int)) : Rd (w.alloc (.cells #[.int .u8 z] 5)) (w.alloc (.cells #[.int .u8 z] 5)).heap.size (some ⟨w.heap.size, 0, none⟩) 1 (U8 [b]) := by
  subst hz
  exact (rd_new w 5 _).up (by simp)

set_option maxHeartbeats 400000 in
theorem tells (w : World) : Calls Try.prog 17 #[] w fun e w' => e = .returned (.bool true) ∧ Below w.heap.size w w' := by
  have c1 := fun w : World => bytesNo _ 1 1 [2] _ (rd_one w 2 2 rfl) (by simp) (by omega) (by decide)
  have c2 : ∀ (W : World) (g : Nat), W.heap.size = g → Calls Try.prog 15 #[.slice (some ⟨g, 0, none⟩) 1 1] (W.alloc (.cells #[.int .u8 160] 5)) (Made (W.alloc (.cells #[.int .u8 160] 5)) (Bm.ofBytes [160])) := by
    intro W g hg
    subst hg
    exact bitsOf _ 1 1 [160] _ (rd_one W 160 160 rfl) (by simp) (by omega)
  have C1 := Lib.hid c1
  have C2 := Lib.hid c2
  clear c1 c2
  have hs := tells_str
  obtain ⟨s, hse⟩ : ∃ s, s = str (Bm.ofBytes [160]) := ⟨_, rfl⟩
  have HSE := Lib.hid hse
  rw [← hse] at hs
  clear hse
  go_enter Try.func17, Try.ntmps17
  go_wp2_with fail
  refine (C1.out _).mono ?_
  rintro e w' ⟨rfl, rfl⟩
  go_wp2_with fail
  refine (C2.out _ (w.heap.size + 1) (by simp)).mono ?_
  rintro e w' ⟨A, n, c, rfl, hown, hbel⟩
  have hcv := hown.conv w' (Below.refl _ _)
  rw [← HSE.out] at hcv
  go_wp2_with fail
  go_ret
  refine ⟨rfl, ?_⟩
  exact ((((Below.refl _ _).alloc (Nat.le_refl _) _).alloc (by simp) _).trans (hbel.mono (by simp; omega)))
end Go.Proofs.Ytcddbcknjcedfaa
