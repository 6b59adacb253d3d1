/-
  The library's sort, as the wheel wants it.
-/
import Derived.Test.YtkmacepodomdmaaOi
import Derived.Test.YtkmacepodomdmaaJn
namespace Go.Proofs.Ytkmacepodomdmaa
theorem sortOk : SortOk := fun base n c A e l w h hn => sort16 base n c A e l w h hn
end Go.Proofs.Ytkmacepodomdmaa
