import Derived.Test.YtnlkbmjelkbfkaaMach
import Derived.Test.YtnlkbmjelkbfkaaMath
/-
  The machine of a yard's walks: Sleep, Leave, Search, Found, Choose; and the numbers behind it.
-/
namespace Go.Proofs.Ytnlkbmjelkbfkaa
set_option maxRecDepth 100000
set_option linter.unusedSimpArgs false
set_option linter.unusedVariables false
open Go

/-- A Sleep (1), Leave (2), Search (3), Found (4) or Choose (5). -/
structure IdS where
  at_ : Int
  n : Int
  kind : Int
  who : Int
  known : Bool
  x : Int
  over : Option Rs
def idRight (at_ n : Int) : Prop := 1 ≤ n ∧ n ≤ 16 ∧ 0 ≤ at_ ∧ at_ < 65536
instance (a n : Int) : Decidable (idRight a n) := by unfold idRight; infer_instance
namespace M
end M
end Go.Proofs.Ytnlkbmjelkbfkaa
