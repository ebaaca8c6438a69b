import Derived.Laws.BitsAllLaws
import Derived.Below
import Derived.OpenShut
import Derived.WalkKit
import Derived.Lib.TrailingZeros
/-
  Plain arithmetic of words: pairs, fields, bits. No program.
-/
namespace Go.Proofs.Ytopombnehmfmcaa.M
set_option maxRecDepth 100000
set_option linter.unusedSimpArgs false
set_option linter.unusedVariables false
open Go Go.RowKit

/-- A word of 64 bits, as an Int. -/
def U (u : Int) : Prop := 0 ≤ u ∧ u < 18446744073709551616
theorem U.lt {u : Int} (h : U u) : u < 18446744073709551616 := h.2
theorem U.wf {u : Int} (h : (Lit.int .u64 u).wf = true) : U u := by
  have := bounds_u64 h
  unfold U; omega

/-- The places of all bits that are 1, rising. -/
def places (u : Nat) : List Nat := (List.range 64).filter (fun i => u.testBit i)
end Go.Proofs.Ytopombnehmfmcaa.M
