import Derived.Test.YtnlkbmjelkbfkaaLoom
import Derived.Test.YtnlkbmjelkbfkaaDraw
import Derived.Test.YtnlkbmjelkbfkaaMem
/-
  Contracts: what a pick does.
-/
namespace Go.Proofs.Ytnlkbmjelkbfkaa
set_option maxRecDepth 100000
set_option linter.unusedSimpArgs false
set_option linter.unusedVariables false
open Go.ChangeShapes Go.WideShapes Go.ChangeAt Go.RowKit

theorem Mem.drew {w : World} {m b : Nat} {us : List Int} (h : Mem w m b us) : Mem w.drew m b us := h.keeps (Keeps.refl [] w).drew (by simp) (by simp)
end Go.Proofs.Ytnlkbmjelkbfkaa

/-
  Contracts: Start, Parked, Pick.
-/
namespace Go.Proofs.Ytnlkbmjelkbfkaa
set_option maxRecDepth 100000
set_option linter.unusedSimpArgs false
set_option linter.unusedVariables false
open Go.ChangeShapes Go.WideShapes Go.ChangeAt Go.RowKit

end Go.Proofs.Ytnlkbmjelkbfkaa

/-
  Contracts: Alone.
-/
namespace Go.Proofs.Ytnlkbmjelkbfkaa
set_option maxRecDepth 100000
set_option linter.unusedSimpArgs false
set_option linter.unusedVariables false
open Go.ChangeShapes Go.WideShapes Go.ChangeAt Go.RowKit

end Go.Proofs.Ytnlkbmjelkbfkaa
