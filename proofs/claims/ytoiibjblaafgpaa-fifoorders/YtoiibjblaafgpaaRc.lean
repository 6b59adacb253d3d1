/-
  Any bytes that are read, as a string.
-/
import Derived.Test.YtoiibjblaafgpaaMem
namespace Go.Proofs.Ytoiibjblaafgpaa
open Go.RowKit
set_option maxRecDepth 100000
set_option linter.unusedVariables false

theorem Rd.conv {w : World} {A : Option Addr} {n c : Nat} {bs : List Nat} (h : Rd w w.heap.size A n (U8 bs)) (hnone : A = none → n = 0) (W : World) (hb : Below w.heap.size w W) :
    (convert 26 9 (.slice A n c)).run Try.prog W = .ok (.string (str bs)) W := by
  have hl := h.len8
  cases A with
  | none =>
    have h0 := hnone rfl
    subst h0
    have hbs : bs = [] := List.eq_nil_of_length_eq_zero hl.symm
    subst hbs
    exact run_convert_bytes_nil W 26 5 Try.underlying26 Try.underlying5 0 c 9 Try.underlying9
  | some x =>
    by_cases hn : 0 < n
    · obtain ⟨b, off, e, hlt, hc⟩ := h.at_ hn
      injection e with e
      subst e
      refine run_convert_bytes_arg W 26 5 Try.underlying26 Try.underlying5 b off n c _ (by simp [hl]) (fun i hi => ?_) 9 Try.underlying9
      rw [hb.cell (p := ⟨b, off + i, none⟩) hlt, hc i _ (U8_get bs i (by omega))]
      simp [List.getD, show i < bs.length by omega]
    · obtain rfl : n = 0 := by omega
      have hbs : bs = [] := List.eq_nil_of_length_eq_zero hl.symm
      subst hbs
      exact run_convert_bytes_back (P := Try.prog) W 26 9 5 x c [] Try.underlying26 Try.underlying5 Try.underlying9 (fun j hj => absurd hj (by simp))

end Go.Proofs.Ytoiibjblaafgpaa
