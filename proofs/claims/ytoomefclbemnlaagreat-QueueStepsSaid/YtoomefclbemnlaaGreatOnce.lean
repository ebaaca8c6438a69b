/-
  Contracts: rows of nodes that workers have; whether each is had once (once of layer 6's statements).
-/
import Derived.Test.YtoomefclbemnlaaGreatOps
import Derived.Test.YtoomefclbemnlaaGreatLook
import Derived.Test.YtoomefclbemnlaaGreatAcs
import Derived.LoopTactic
namespace Go.Proofs.YtoomefclbemnlaaGreat
set_option maxRecDepth 100000
set_option linter.unusedSimpArgs false
set_option linter.unusedVariables false
open Go.ChangeShapes Go.WideShapes Go.ChangeAt Go.RowKit

/-- Nodes, as cells. -/
def nodes (l : List Nat) : List Value := ints .i64 (l.map fun x : Nat => (x : Int))
theorem nodes_length (l : List Nat) : (nodes l).length = l.length := by simp [nodes, ints]
theorem nodes_at {l : List Nat} {j : Nat} (h : j < l.length) : (nodes l)[j]? = some (.int .i64 (l.getD j 0 : Nat)) := by
  simp [nodes, ints, h]
theorem nodes_append (a b : List Nat) : nodes (a ++ b) = nodes a ++ nodes b := by simp [nodes, ints]

theorem elemInt' : Elem Tryz.prog 3 (.int .i64 0) 1 8 := ⟨by kernel_rfl, rfl, by decide, by decide⟩

end Go.Proofs.YtoomefclbemnlaaGreat
