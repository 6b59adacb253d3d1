/-
  The walk of FrameCut.
-/
import Derived.Test.YtkmacepodomdmaaDoorFu
import Derived.Test.YtkmacepodomdmaaDoorFt
namespace Go.Proofs.YtkmacepodomdmaaDoor
open Go.RowKit
set_option maxRecDepth 100000
set_option linter.unusedVariables false
set_option linter.unusedSimpArgs false

end Go.Proofs.YtkmacepodomdmaaDoor
