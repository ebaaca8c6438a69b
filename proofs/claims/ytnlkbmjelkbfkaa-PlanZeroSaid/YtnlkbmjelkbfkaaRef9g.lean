import Derived.Test.YtnlkbmjelkbfkaaQuW
import Derived.Deep.RegionHeld3
import Derived.Test.YtnlkbmjelkbfkaaOnce
import Derived.Test.YtnlkbmjelkbfkaaFresh
import Derived.IntWalk
import Derived.Test.YtnlkbmjelkbfkaaWord
import Derived.Test.YtnlkbmjelkbfkaaSeen
import Derived.Test.YtnlkbmjelkbfkaaArM
import Derived.Deep.CutRange
import Derived.LoopTactic
import Derived.Test.YtnlkbmjelkbfkaaDraw
import Derived.Test.YtnlkbmjelkbfkaaKeep
/-
  The document's frame of a queue's Put and Take: its cells; what its small functions do.
-/
namespace Go.Proofs.Ytnlkbmjelkbfkaa
set_option maxRecDepth 100000
set_option linter.unusedSimpArgs false
set_option linter.unusedVariables false
open Go.ChangeShapes Go.WideShapes Go.ChangeAt Go.RowKit

/-- Stores into one row, one behind the other, and draws. -/
inductive Did (p : Nat) (w : World) : World → List (Nat × Value) → Prop
  | refl : Did p w w []
  | set {w' : World} {l : List (Nat × Value)} {i : Nat} {v : Value} : Did p w w' l → Did p w (w'.setCell ⟨p, i, none⟩ v) (l ++ [(i, v)])
  | drew {w' : World} {l : List (Nat × Value)} : Did p w w' l → Did p w w'.drew l
  | drewN {w' : World} {l : List (Nat × Value)} {m : Nat} : Did p w w' l → Did p w (w'.drewN m) l
  | alloc {w' : World} {l : List (Nat × Value)} {o : Obj} : Did p w w' l → Did p w (w'.alloc o) l
def putsL (xs : List Value) (l : List (Nat × Value)) : List Value := l.foldl (fun xs iv => xs.set iv.1 iv.2) xs
theorem Did.fin {p : Nat} {w w' : World} {l : List (Nat × Value)} {e : TypeId} {xs ys : List Value} (h : Did p w w' l) (hr : Row w p e xs) (he : putsL xs l = ys) : Row w' p e ys ∧ Keeps [p] w w' := by
  subst he
  induction h with
  | refl => exact ⟨hr, Keeps.refl _ _⟩
  | set _ ih =>
    refine ⟨?_, ih.2.set (by simp) _ _⟩
    unfold putsL
    rw [List.foldl_append]
    exact ih.1.set _ _
  | drew _ ih => exact ⟨ih.1.keeps (Keeps.refl [] _).drew (by simp), ih.2.drew⟩
  | drewN _ ih => exact ⟨ih.1.keeps (Keeps.of_drewN _ _) (by simp), ih.2.drewN⟩
  | alloc _ ih => exact ⟨ih.1.keeps ((Keeps.refl [] _).alloc _) (by simp), ih.2.alloc _⟩

theorem Did.keeps {p : Nat} {w w' : World} {l : List (Nat × Value)} (h : Did p w w' l) : Keeps [p] w w' := by
  induction h with
  | refl => exact Keeps.refl _ _
  | set _ ih => exact ih.set (by simp) _ _
  | drew _ ih => exact ih.drew
  | drewN _ ih => exact ih.drewN
  | alloc _ ih => exact ih.alloc _
theorem Did.row {p : Nat} {w w' : World} {l : List (Nat × Value)} {e : TypeId} {xs ys : List Value} (h : Did p w w' l) (hr : Row w p e xs) (he : putsL xs l = ys) : Row w' p e ys := (h.fin hr he).1
theorem Did.size {p : Nat} {w w' : World} {l : List (Nat × Value)} (h : Did p w w' l) : w.heap.size ≤ w'.heap.size := h.keeps.size
theorem Did.at {p : Nat} {w w' : World} {l : List (Nat × Value)} {e : TypeId} {xs : List Value} {j : Nat} {u : Value} (h : Did p w w' l) (hr : Row w p e xs) (hu : (putsL xs l)[j]? = some u) : w'.cell? ⟨p, j, none⟩ = some u :=
  (h.fin hr rfl).1.cell hu

end Go.Proofs.Ytnlkbmjelkbfkaa

/-
  Give of the document's frame of a queue, where it isn't in the arena: case by case. (Written by wip/tools/r9gen.py.)
-/
namespace Go.Proofs.Ytnlkbmjelkbfkaa
set_option maxRecDepth 100000
set_option linter.unusedSimpArgs false
set_option linter.unusedVariables false
open Go.ChangeShapes Go.WideShapes Go.ChangeAt Go.RowKit

end Go.Proofs.Ytnlkbmjelkbfkaa

/-
  Give of the document's frame of a queue, where it is in the arena.
-/
namespace Go.Proofs.Ytnlkbmjelkbfkaa
set_option maxRecDepth 100000
set_option linter.unusedSimpArgs false
set_option linter.unusedVariables false
open Go.ChangeShapes Go.WideShapes Go.ChangeAt Go.RowKit

end Go.Proofs.Ytnlkbmjelkbfkaa
