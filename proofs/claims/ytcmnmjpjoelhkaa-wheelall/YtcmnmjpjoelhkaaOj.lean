/-
  The library's sort, as the wheel wants it.
-/
import Derived.Test.YtcmnmjpjoelhkaaOi
import Derived.Test.YtcmnmjpjoelhkaaJn
namespace Go.Proofs.Ytcmnmjpjoelhkaa
theorem sortOk : SortOk := fun base n c A e l w h hn => sort16 base n c A e l w h hn
end Go.Proofs.Ytcmnmjpjoelhkaa
