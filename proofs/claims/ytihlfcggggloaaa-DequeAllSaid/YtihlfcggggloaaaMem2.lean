/-
  Contracts: All, Fill, Copy and Same of package cells; the reference's Do.
-/
import Derived.Test.YtihlfcggggloaaaMem
import Derived.Test.YtihlfcggggloaaaSame
import Derived.Laws.CopyOwn
namespace Go.Proofs.Ytihlfcggggloaaa
set_option maxRecDepth 100000
open Go.ChangeShapes Go.WideShapes Go.ChangeAt Go.RowKit

theorem C.deed3_yes {was a : Int} (b : Int) (h : was = a) : C.deed 3 was a b = (b, true) := by simp [C.deed, h]
theorem C.deed3_no {was a : Int} (b : Int) (h : was ≠ a) : C.deed 3 was a b = (was, false) := by simp [C.deed, h]
theorem set_self {us : List Int} {i : Nat} {was : Int} (hi : i < us.length) (h : us.getD i 0 = was) : us.set i was = us := by
  rw [List.getD, List.getElem?_eq_getElem hi] at h
  simp only [Option.getD_some] at h
  rw [← h, List.set_getElem_self]

end Go.Proofs.Ytihlfcggggloaaa
