import Derived.Test.YtnlkbmjelkbfkaaRef12b
import Derived.Test.YtnlkbmjelkbfkaaAny2
import Derived.Test.YtnlkbmjelkbfkaaIdQ
/-
  Two struct values, asked of two calls at once: y, l := p.Yard(), p.Line().
-/
namespace Go.Proofs.Ytnlkbmjelkbfkaa
set_option maxRecDepth 100000
set_option linter.unusedSimpArgs false
set_option linter.unusedVariables false
open Go.ChangeShapes Go.WideShapes Go.ChangeAt Go.RowKit

/-- A store into a new block. -/
theorem Keeps.setNew {w0 w : World} {b i : Nat} {u : Value} (h : Keeps [] w0 w) (hb : w0.heap.size ≤ b) : Keeps [] w0 (w.setCell ⟨b, i, none⟩ u) :=
  h.step (S := [b]) ((Keeps.refl [b] w).set (List.mem_singleton.2 rfl) _ _) (fun k hk => by rw [List.mem_singleton.1 hk]; exact hb)
/-- What was made ahead of a call is there behind it. -/
theorem kept_one {Z w' : World} {C : Array Value} {e : TypeId} (k : Keeps [] (Z.alloc (.cells C e)) w') : Row w' Z.heap.size e C.toList := (Row.new Z C e).keeps k (by simp)
theorem kept_one_drew {Z w' : World} {C : Array Value} {e : TypeId} (k : Keeps [] ((Z.alloc (.cells C e)).drew) w') : Row w' Z.heap.size e C.toList := kept_one k.undrew
theorem kept_two {Z w' : World} {C C' : Array Value} {e e' : TypeId} (k : Keeps [] ((Z.alloc (.cells C e)).alloc (.cells C' e')) w') : Row w' Z.heap.size e C.toList ∧ Row w' (Z.heap.size + 1) e' C'.toList :=
  ⟨((Row.new Z C e).alloc _).keeps k (by simp), by simpa using kept_one k⟩
theorem kept_two_drew {Z w' : World} {C C' : Array Value} {e e' : TypeId} (k : Keeps [] (((Z.alloc (.cells C e)).alloc (.cells C' e')).drew) w') : Row w' Z.heap.size e C.toList ∧ Row w' (Z.heap.size + 1) e' C'.toList := kept_two k.undrew
end Go.Proofs.Ytnlkbmjelkbfkaa
