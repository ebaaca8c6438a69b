import Derived.Test.YtnlkbmjelkbfkaaMach
import Derived.Test.YtnlkbmjelkbfkaaWalk
import Derived.Test.YtnlkbmjelkbfkaaFresh
import Derived.Test.YtnlkbmjelkbfkaaDraw
import Derived.LaidEql
import Derived.Test.YtnlkbmjelkbfkaaCells
import Derived.Test.YtnlkbmjelkbfkaaKeep
import Derived.ChangeSlices
import Derived.OpenShut
import Derived.Lib.SmallJoins
import Derived.Deep.Slices
import Derived.Deep.Fields
import Derived.ChangeSame
import Derived.Test.YtnlkbmjelkbfkaaDqM
import Derived.StillTailTactics
/-
  Contracts: a deque's Right, Push, Pop and Steal.
-/
namespace Go.Proofs.Ytnlkbmjelkbfkaa
set_option maxRecDepth 100000
set_option linter.unusedSimpArgs false
set_option linter.unusedVariables false
open Go.ChangeShapes Go.WideShapes Go.ChangeAt Go.RowKit

/-- What the test by bits tells of the numbers from 2 to 256. -/
def dqBits (n : Nat) : Bool := decide (n < 2) || ((bits BinOp.and IntKind.i64 (n : Int) ((n : Int) - 1) == 0) == (n == 2 || n == 4 || n == 8 || n == 16 || n == 32 || n == 64 || n == 128 || n == 256))
theorem dqBits_all : (List.range 257).all dqBits = true := by kernel_rfl
theorem dqBits_at (size : Int) (h1 : 2 ≤ size) (h2 : size ≤ 256) : bits BinOp.and IntKind.i64 size (size - 1) = 0 ↔ (size = 2 ∨ size = 4 ∨ size = 8 ∨ size = 16 ∨ size = 32 ∨ size = 64 ∨ size = 128 ∨ size = 256) := by
  obtain ⟨n, rfl⟩ := Int.eq_ofNat_of_zero_le (show 0 ≤ size by omega)
  have h := List.all_eq_true.1 dqBits_all n (List.mem_range.2 (by omega))
  unfold dqBits at h
  rw [Bool.or_eq_true, decide_eq_true_eq] at h
  rcases h with h | h
  · omega
  · rw [beq_iff_eq] at h
    constructor
    · intro h0
      rw [h0] at h
      simp at h
      omega
    · intro h0
      have : (n == 2 || n == 4 || n == 8 || n == 16 || n == 32 || n == 64 || n == 128 || n == 256) = true := by simp; omega
      rw [this] at h
      simpa using h

end Go.Proofs.Ytnlkbmjelkbfkaa
