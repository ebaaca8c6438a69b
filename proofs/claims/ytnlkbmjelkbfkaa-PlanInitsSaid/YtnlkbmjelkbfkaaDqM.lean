import Derived.Test.YtnlkbmjelkbfkaaMach
import Derived.Test.YtnlkbmjelkbfkaaAcs
/-
  The machine of a deque's Push, Pop and Steal; numbers that go round.
-/
namespace Go.Proofs.Ytnlkbmjelkbfkaa
set_option maxRecDepth 100000
set_option linter.unusedSimpArgs false
set_option linter.unusedVariables false
open Go

/-- Whether there can be such a deque. -/
def dqRight (at_ size : Int) : Prop := (size = 2 ∨ size = 4 ∨ size = 8 ∨ size = 16 ∨ size = 32 ∨ size = 64 ∨ size = 128 ∨ size = 256) ∧ 0 ≤ at_ ∧ at_ < 65536 - size - 1
instance (at_ size : Int) : Decidable (dqRight at_ size) := by unfold dqRight; infer_instance
end Go.Proofs.Ytnlkbmjelkbfkaa
