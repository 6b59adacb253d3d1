/-
  Contracts of the reference of layer 1: Turn, Apart.
-/
import Derived.Test.YtknfpdlomgllhaaMem
import Derived.Test.YtknfpdlomgllhaaBn
namespace Go.Proofs.Ytknfpdlomgllhaa
open Go.RowKit
set_option maxRecDepth 100000
set_option linter.unusedVariables false
theorem lt256 {bs : List Nat} (h : ∀ b ∈ bs, b < 256) (at_ : List Int) : ∀ b ∈ Bm.trn bs at_, b < 256 := Bm.trn_lt 8 (by omega) bs at_ h
end Go.Proofs.Ytknfpdlomgllhaa
