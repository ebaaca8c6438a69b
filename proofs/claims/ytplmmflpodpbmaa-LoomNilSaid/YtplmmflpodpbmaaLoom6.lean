/-
  Contracts: Held of a loom that isn't there.
-/
import Derived.Test.YtplmmflpodpbmaaLoom2
namespace Go.Proofs.Ytplmmflpodpbmaa
open Go.ChangeShapes Go.WideShapes Go.ChangeAt Go.RowKit
theorem loomHeld_nil (w : World) :
    Calls Try.prog 23 #[.pointer none] w fun e w' => e = .returned (.slice none 0 0) ∧ w = w' := by
  go_enter Try.func23, Try.ntmps23
  go_wp2_with (go_at_call 21; refine (workers_nil _).mono ?_; rintro e w' ⟨rfl, rfl⟩)
  go_wp2
  refine wp_loop_rounds 1 ?_
  rw [rounds_succ]
  go_wp2
  go_ret
  exact ⟨rfl, rfl⟩
end Go.Proofs.Ytplmmflpodpbmaa
