/-
  Contracts: what is in a deque.
-/
import Derived.Test.YtdejgkjckhkihaaGreatDqQ
import Derived.Test.YtdejgkjckhkihaaGreatLd
import Derived.Test.YtdejgkjckhkihaaGreatMem3
import Derived.IntWalk
namespace Go.Proofs.YtdejgkjckhkihaaGreat
set_option maxRecDepth 100000
set_option linter.unusedSimpArgs false
set_option linter.unusedVariables false
open Go.ChangeShapes Go.WideShapes Go.ChangeAt Go.RowKit

end Go.Proofs.YtdejgkjckhkihaaGreat
