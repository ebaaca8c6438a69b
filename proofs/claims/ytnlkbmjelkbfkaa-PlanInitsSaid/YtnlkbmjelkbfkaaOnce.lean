import Derived.Test.YtnlkbmjelkbfkaaOps
import Derived.Test.YtnlkbmjelkbfkaaLook
import Derived.Test.YtnlkbmjelkbfkaaAcs
import Derived.LoopTactic
/-
  Contracts: rows of nodes that workers have; whether each is had once (once of layer 6's statements).
-/
namespace Go.Proofs.Ytnlkbmjelkbfkaa
set_option maxRecDepth 100000
set_option linter.unusedSimpArgs false
set_option linter.unusedVariables false
open Go.ChangeShapes Go.WideShapes Go.ChangeAt Go.RowKit

/-- Nodes, as cells. -/
def nodes (l : List Nat) : List Value := ints .i64 (l.map fun x : Nat => (x : Int))

end Go.Proofs.Ytnlkbmjelkbfkaa
