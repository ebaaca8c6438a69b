import Derived.Test.YtjfgpplnlepnoaaGreatMem
import Derived.Test.YtjfgpplnlepnoaaGreatFresh
/-
  A load changes nothing; rows and boxes whose blocks are as they were.
-/
namespace Go.Proofs.YtjfgpplnlepnoaaGreat
set_option maxRecDepth 100000
set_option linter.unusedSimpArgs false
set_option linter.unusedVariables false
open Go.ChangeShapes Go.WideShapes Go.ChangeAt Go.RowKit

theorem Row.block {w w' : World} {b : Nat} {e : TypeId} {xs : List Value} (h : Row w b e xs) (hb : w'.heap[b]? = w.heap[b]?) : Row w' b e xs := by
  obtain ⟨cur, h1, h2⟩ := h
  exact ⟨cur, hb.trans h1, h2⟩
theorem Box.block {w w' : World} {b : Nat} {C : Array Value} (h : Box w b C) (hs : w.heap.size ≤ w'.heap.size) (hb : w'.heap[b]? = w.heap[b]?) : Box w' b C :=
  ⟨Nat.lt_of_lt_of_le h.lt hs, fun i => (World.cell?_of_block (w := w) (a := ⟨b, i, none⟩) hb).trans (h.cells i)⟩
end Go.Proofs.YtjfgpplnlepnoaaGreat
