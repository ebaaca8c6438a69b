/-
  An arena that came in.
-/
import Derived.Test.YtekpfhlaohcgeaaGreatOpen
import Derived.Test.YtekpfhlaohcgeaaGreatAcc
import Derived.ChangeSame
import Derived.ChangeArms
namespace Go.Proofs.YtekpfhlaohcgeaaGreat
set_option maxRecDepth 100000
set_option linter.unusedSimpArgs false
set_option linter.unusedVariables false
open Go.ChangeShapes Go.WideShapes Go.ChangeAt Go.RowKit Go.Deep

end Go.Proofs.YtekpfhlaohcgeaaGreat
