import Derived.Test.YtnlkbmjelkbfkaaRows
import Derived.Test.YtnlkbmjelkbfkaaKeep
import Derived.Test.YtnlkbmjelkbfkaaCells
import Derived.Test.YtnlkbmjelkbfkaaOps
import Derived.LoopTactic
import Derived.StillTailTactics
import Derived.OwnWalk
import Derived.WalkSpells
import Derived.RegionTactic
import Derived.Deep.RegionHeld3
import Derived.Defers
import Derived.Recover
import Derived.Laws.EntriesVeiled
import Derived.Outline
/-
  Contracts: the package walk, at walks that went into no other one.
-/
namespace Go.Proofs.Ytnlkbmjelkbfkaa
set_option maxRecDepth 100000
set_option linter.unusedSimpArgs false
set_option linter.unusedVariables false
open Go.ChangeShapes Go.WideShapes Go.ChangeAt Go.RowKit

/-- What stands in a walk's block. -/
structure WSt where
  tasks : Value
  x : C.Acc
  nxt : Value
  sub : Option Addr
  after : Value
  outer : Value
  under : Int
  over : Bool
  code : Int
  v : Int
  l : Value
@[reducible] def WSt.cells (s : WSt) : List Value := [s.tasks, .int .i64 s.x.k, .int .i64 s.x.c, .int .u64 s.x.a, .int .u64 s.x.b, s.nxt, .pointer s.sub, s.after, s.outer, .int .i64 s.under, .bool s.over, .int .i64 s.code, .int .u64 s.v, s.l]

theorem Keeps.set {S : List Nat} {a w : World} (h : Keeps S a w) {m : Nat} (hm : m ∈ S) (o : Nat) (u : Value) : Keeps S a (w.setCell ⟨m, o, none⟩ u) := h.setCell (fun _ => hm) u

theorem owns_keeps {w w' : World} {S : List Nat} {B size n : Nat} {e : TypeId} {v : Value} {xs : List Value} (h : w.ownsRow B e size v n xs) (hk : Keeps S w w') (hS : ∀ g, v.ownBlock = some g → g ∉ S) : w'.ownsRow B e size v n xs := by
  have hlt := h.lt
  refine ⟨h.1, ?_⟩
  rcases h.2 with h | ⟨g, cap, cur, hv, hb, hg, rest⟩
  · exact .inl h
  · subst hv
    exact .inr ⟨g, cap, cur, rfl, hb, (hk.block g (hlt g rfl).2 (hS g rfl)).trans hg, rest⟩

/-- A slice whose block isn't touched. -/
theorem Sl.but {S : List Nat} {w w' : World} {size n : Nat} {v : Value} {xs : List Value} (h : Sl w size v n xs) (hk : Keeps S w w') (hn : ∀ g, v.ownBlock = Option.some g → g ∉ S) : Sl w' size v n xs := by
  refine ⟨h.1, ?_⟩
  rcases h.2 with h | ⟨b, off, cap, hv, hs, hc⟩
  · exact .inl h
  · subst hv
    exact .inr ⟨b, off, cap, rfl, Nat.lt_of_lt_of_le hs hk.size, fun j u hu => (hk.cell (p := ⟨b, off + j, none⟩) hs (hn b rfl)).trans (hc j u hu)⟩

end Go.Proofs.Ytnlkbmjelkbfkaa

/-
  Contracts: what can be seen of a walk that went into no other one; New, Give, Break, Hold.
-/
namespace Go.Proofs.Ytnlkbmjelkbfkaa
set_option maxRecDepth 100000
set_option linter.unusedSimpArgs false
set_option linter.unusedVariables false
open Go.ChangeShapes Go.WideShapes Go.ChangeAt Go.RowKit

end Go.Proofs.Ytnlkbmjelkbfkaa

/-
  Contracts: Give, Break and New at walks that went into no other one.
-/
namespace Go.Proofs.Ytnlkbmjelkbfkaa
set_option maxRecDepth 100000
set_option linter.unusedSimpArgs false
set_option linter.unusedVariables false
open Go.ChangeShapes Go.WideShapes Go.ChangeAt Go.RowKit

@[reducible] def WSt.zero : WSt := ⟨.slice none 0 0, ⟨0, 0, 0, 0⟩, .nilFunc, none, .nilFunc, .slice none 0 0, 0, false, 0, 0, .slice none 0 0⟩
end Go.Proofs.Ytnlkbmjelkbfkaa
