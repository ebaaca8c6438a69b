import Derived.Test.YtopombnehmfmcaaRows
import Derived.Test.YtopombnehmfmcaaKeep
import Derived.Test.YtopombnehmfmcaaCells
import Derived.Test.YtopombnehmfmcaaOps
import Derived.LoopTactic
import Derived.StillTailTactics
import Derived.OwnWalk
import Derived.WalkSpells
import Derived.RegionTactic
import Derived.Deep.RegionHeld3
import Derived.Defers
import Derived.Recover
import Derived.Laws.EntriesVeiled
import Derived.Outline
/-
  Contracts: the package walk, at walks that went into no other one.
-/
namespace Go.Proofs.Ytopombnehmfmcaa
set_option maxRecDepth 100000
set_option linter.unusedSimpArgs false
set_option linter.unusedVariables false
open Go.ChangeShapes Go.WideShapes Go.ChangeAt Go.RowKit

/-- What stands in a walk's block. -/
structure WSt where
  tasks : Value
  x : C.Acc
  nxt : Value
  sub : Option Addr
  after : Value
  outer : Value
  under : Int
  over : Bool
  code : Int
  v : Int
  l : Value
@[reducible] def WSt.cells (s : WSt) : List Value := [s.tasks, .int .i64 s.x.k, .int .i64 s.x.c, .int .u64 s.x.a, .int .u64 s.x.b, s.nxt, .pointer s.sub, s.after, s.outer, .int .i64 s.under, .bool s.over, .int .i64 s.code, .int .u64 s.v, s.l]

theorem Keeps.set {S : List Nat} {a w : World} (h : Keeps S a w) {m : Nat} (hm : m ∈ S) (o : Nat) (u : Value) : Keeps S a (w.setCell ⟨m, o, none⟩ u) := h.setCell (fun _ => hm) u

end Go.Proofs.Ytopombnehmfmcaa

/-
  Contracts: what can be seen of a walk that went into no other one; New, Give, Break, Hold.
-/
namespace Go.Proofs.Ytopombnehmfmcaa
set_option maxRecDepth 100000
set_option linter.unusedSimpArgs false
set_option linter.unusedVariables false
open Go.ChangeShapes Go.WideShapes Go.ChangeAt Go.RowKit

end Go.Proofs.Ytopombnehmfmcaa

/-
  Contracts: Give, Break and New at walks that went into no other one.
-/
namespace Go.Proofs.Ytopombnehmfmcaa
set_option maxRecDepth 100000
set_option linter.unusedSimpArgs false
set_option linter.unusedVariables false
open Go.ChangeShapes Go.WideShapes Go.ChangeAt Go.RowKit

@[reducible] def WSt.zero : WSt := ⟨.slice none 0 0, ⟨0, 0, 0, 0⟩, .nilFunc, none, .nilFunc, .slice none 0 0, 0, false, 0, 0, .slice none 0 0⟩
end Go.Proofs.Ytopombnehmfmcaa
