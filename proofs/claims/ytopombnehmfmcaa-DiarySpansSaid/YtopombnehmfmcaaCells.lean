import Derived.Test.YtopombnehmfmcaaRows
import Derived.Test.YtopombnehmfmcaaKeep
import Derived.Test.YtopombnehmfmcaaMath
import Derived.LoopTactic
import Derived.StillTailTactics
import Derived.OwnWalk
import Derived.Outline
/-
  Contracts: the package cells, and the reference's Do.
-/
namespace Go.Proofs.Ytopombnehmfmcaa
set_option maxRecDepth 100000
set_option linter.unusedSimpArgs false
set_option linter.unusedVariables false
open Go.ChangeShapes Go.WideShapes Go.ChangeAt Go.RowKit

namespace C
/-- An access: its kind, its cell, A and B. -/
structure Acc where
  k : Int
  c : Int
  a : Int
  b : Int
@[reducible] def Acc.val (x : Acc) : Value := .agg #[.int .i64 x.k, .int .i64 x.c, .int .u64 x.a, .int .u64 x.b]
def Acc.ok (x : Acc) : Prop := M.U x.a ∧ M.U x.b
def code (us : List Int) (x : Acc) : Int := if x.k < 1 ∨ 7 < x.k then 2 else if x.c < 0 ∨ (us.length : Int) ≤ x.c then 3 else 0
end C

end Go.Proofs.Ytopombnehmfmcaa
