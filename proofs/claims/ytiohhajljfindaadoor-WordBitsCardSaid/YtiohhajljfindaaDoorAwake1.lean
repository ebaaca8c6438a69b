/-
  The chapter's example of layer 1.
-/
import Derived.Test.YtiohhajljfindaaDoorWord
namespace Go.Proofs.YtiohhajljfindaaDoor
open Go.ChangeShapes Go.WideShapes Go.ChangeAt Go.RowKit

theorem awake1 (w : World) :
    Calls Tryd.prog 4 #[] w fun e w' => e = .returned (.bool true) ∧ ∃ m, w.drewN m = w' := by
  go_enter Tryd.func4, Tryd.ntmps4
  go_wp2_with fail
  refine (with_ok 0 4 4 9 _ (by unfold M.U; omega) (by unfold M.U; omega) (by decide) (by decide)).mono ?_
  rintro e w' ⟨rfl, m, rfl⟩
  rw [show ((M.withN (0 : Int).toNat (4 : Int).toNat (4 : Int).toNat (9 : Int).toNat : Nat) : Int) = 144 from by decide]
  go_wp2_with fail
  refine (ahead_any 1 4294967295 _ (by omega) (by omega) (by omega) (by omega)).mono ?_
  rintro e w' ⟨rfl, rfl⟩
  rw [show M.aheadI 1 4294967295 = 2 from by decide]
  go_wp2
  go_ret
  exact ⟨rfl, m, rfl⟩
end Go.Proofs.YtiohhajljfindaaDoor
