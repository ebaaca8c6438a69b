/-
  The machine of a parker's walks: Prepare, GiveUp, Wait, Call.
-/
import Derived.Test.YtgononhihpkagaaMach
import Derived.Test.YtgononhihpkagaaMath
namespace Go.Proofs.Ytgononhihpkagaa
set_option maxRecDepth 100000
set_option linter.unusedSimpArgs false
set_option linter.unusedVariables false
open Go

/-- A Prepare (1), GiveUp (2), Wait (3) or Call (4); the steps of a Wait: 1 Load, 2 Wait, 3 And. -/
structure PkS where
  at_ : Int
  kind : Int
  key : Int
  step : Int
  x : Int
  waited : Int
  over : Option Rs
def pkLess (s : PkS) : C.Acc := ⟨6, s.at_, 18446744073709551614, 0⟩
def pkWant (s : PkS) : C.Acc :=
  if s.kind = 1 then ⟨5, s.at_, 1, 0⟩ else if s.kind = 2 then pkLess s else if s.kind = 4 then ⟨4, s.at_, 4294967296, 0⟩
  else if s.step = 1 then ⟨1, s.at_, 0, 0⟩ else if s.step = 2 then ⟨7, s.at_, s.x, 0⟩ else pkLess s
def pkEnd (s : PkS) (v : Int) : PkS := { s with over := some ⟨0, v, []⟩ }
def pkGive (s : PkS) (v : Int) : PkS :=
  if s.kind = 1 ∨ s.kind = 2 then pkEnd s (v / 4294967296) else if s.kind = 4 then pkEnd s (v % 2)
  else if s.step = 1 then (if v / 4294967296 = s.key then { s with x := v, step := 2, waited := 1 } else { s with x := v, step := 3 })
  else if s.step = 2 then { s with step := 1 } else pkEnd s s.waited
def pkM : Mach PkS where
  want s := if s.over.isSome then none else some (pkWant s)
  res s := s.over
  held _ := []
  give s v _ := if s.over.isSome then s else pkGive s v
def pkRight (at_ : Int) : Prop := 0 ≤ at_ ∧ at_ < 65536
instance (a : Int) : Decidable (pkRight a) := by unfold pkRight; infer_instance
def pkNew (at_ kind key : Int) : PkS := ⟨at_, kind, key, 1, 0, 0, if pkRight at_ then none else some ⟨2, 0, []⟩⟩
def pkKind (k : Int) : Prop := k = 1 ∨ k = 2 ∨ k = 3 ∨ k = 4
def pkOk (s : PkS) : Prop := pkRight s.at_ ∧ pkKind s.kind ∧ 0 ≤ s.key ∧ s.key < 4294967296 ∧ M.U s.x ∧ M.U s.waited
end Go.Proofs.Ytgononhihpkagaa
