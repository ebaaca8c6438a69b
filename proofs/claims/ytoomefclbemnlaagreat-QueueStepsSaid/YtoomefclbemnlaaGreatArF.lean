/-
  Contracts: an arena's Free.
-/
import Derived.Test.YtoomefclbemnlaaGreatArI
import Derived.Test.YtoomefclbemnlaaGreatLd
import Derived.Test.YtoomefclbemnlaaGreatOnce
import Derived.Test.YtoomefclbemnlaaGreatFresh
namespace Go.Proofs.YtoomefclbemnlaaGreat
set_option maxRecDepth 100000
set_option linter.unusedSimpArgs false
set_option linter.unusedVariables false
open Go.ChangeShapes Go.WideShapes Go.ChangeAt Go.RowKit


end Go.Proofs.YtoomefclbemnlaaGreat
