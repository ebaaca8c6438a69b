import Derived.Test.YtnlkbmjelkbfkaaMach
import Derived.Test.YtnlkbmjelkbfkaaMem
/-
  Contracts: a loom, whose workers each have a walk that goes as a machine goes.
-/
namespace Go.Proofs.Ytnlkbmjelkbfkaa
set_option maxRecDepth 100000
set_option linter.unusedSimpArgs false
set_option linter.unusedVariables false
open Go.ChangeShapes Go.WideShapes Go.ChangeAt Go.RowKit

/-- The blocks of D are as they were. -/
structure Held (D : Nat → Prop) (w w' : World) : Prop where
  os : w'.os = w.os
  tape : w'.tape = w.tape
  output : w'.output = w.output
  size : w.heap.size ≤ w'.heap.size
  block : ∀ k, D k → w'.heap[k]? = w.heap[k]?
theorem Held.trans {D : Nat → Prop} {a b c : World} (h : Held D a b) (k : Held D b c) : Held D a c :=
  ⟨k.os.trans h.os, k.tape.trans h.tape, k.output.trans h.output, Nat.le_trans h.size k.size, fun i hi => (k.block i hi).trans (h.block i hi)⟩
theorem Held.refl (D : Nat → Prop) (w : World) : Held D w w := ⟨rfl, rfl, rfl, Nat.le_refl _, fun _ _ => rfl⟩
theorem Held.below {B : Nat} {w w' : World} (h : Held (· < B) w w') : Below B w w' := ⟨h.os, h.tape, h.output, h.size, h.block⟩
theorem Below.held {B : Nat} {w w' : World} (h : Below B w w') : Held (· < B) w w' := ⟨h.os, h.tape, h.output, h.size, h.block⟩
theorem Keeps.held {S : List Nat} {D : Nat → Prop} {w w' : World} (h : Keeps S w w') (hd : ∀ k, D k → k < w.heap.size) (hs : ∀ k ∈ S, ¬ D k) : Held D w w' :=
  ⟨h.os, h.tape, h.output, h.size, fun k hk => h.block k (hd k hk) fun hm => hs k hm hk⟩
theorem Held.cell {D : Nat → Prop} {w w' : World} (h : Held D w w') {p : Addr} (hp : D p.block) : w'.cell? p = w.cell? p := World.cell?_of_block (w := w) (h.block p.block hp)
end Go.Proofs.Ytnlkbmjelkbfkaa

/-
  Contracts: the calls of a loom that change nothing of it; New and Start.
-/
namespace Go.Proofs.Ytnlkbmjelkbfkaa
set_option maxRecDepth 100000
set_option linter.unusedSimpArgs false
set_option linter.unusedVariables false
open Go.ChangeShapes Go.WideShapes Go.ChangeAt Go.RowKit

end Go.Proofs.Ytnlkbmjelkbfkaa

/-
  Contracts: Held of a loom that isn't there.
-/
namespace Go.Proofs.Ytnlkbmjelkbfkaa
set_option maxRecDepth 100000
set_option linter.unusedSimpArgs false
set_option linter.unusedVariables false
open Go.ChangeShapes Go.WideShapes Go.ChangeAt Go.RowKit
end Go.Proofs.Ytnlkbmjelkbfkaa
