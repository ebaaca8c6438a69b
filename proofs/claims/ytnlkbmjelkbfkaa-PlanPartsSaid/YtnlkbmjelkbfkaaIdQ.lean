import Derived.Test.YtnlkbmjelkbfkaaMach
import Derived.Test.YtnlkbmjelkbfkaaCells
import Derived.Test.YtnlkbmjelkbfkaaKeep
import Derived.ChangeSlices
import Derived.OpenShut
import Derived.Lib.SmallJoins
import Derived.Deep.Slices
import Derived.Deep.Fields
import Derived.ChangeSame
import Derived.Test.YtnlkbmjelkbfkaaWord
import Derived.LoopTactic
import Derived.OwnWalk
import Derived.Test.YtnlkbmjelkbfkaaIdM
import Derived.Test.YtnlkbmjelkbfkaaDraw
import Derived.StillTailTactics
/-
  A yard's walks go as their machine; how they begin.
-/
namespace Go.Proofs.Ytnlkbmjelkbfkaa
set_option maxRecDepth 100000
set_option linter.unusedSimpArgs false
set_option linter.unusedVariables false
open Go.ChangeShapes Go.WideShapes Go.ChangeAt Go.RowKit

def idOk (s : IdS) : Prop := idRight s.at_ s.n ∧ (s.kind = 1 ∨ s.kind = 2 ∨ s.kind = 3 ∨ s.kind = 4 ∨ s.kind = 5) ∧ 0 ≤ s.who ∧ s.who < s.n ∧ M.U s.x
theorem idRight_any (at_ n : Int) (w : World) :
    Calls Try.prog 17 #[.agg #[.int .i64 at_, .int .i64 n]] w fun e w' => e = .returned (.bool (decide (idRight at_ n))) ∧ Keeps [] w w' := by
  obtain ⟨W1, hW1⟩ : ∃ W1, w.alloc (.cells #[.int .i64 at_, .int .i64 n] 38) = W1 := ⟨_, rfl⟩
  have hb : Box W1 w.heap.size #[.int .i64 at_, .int .i64 n] := by rw [← hW1]; exact Box.new _ _ _
  have hk1 : Keeps [] w W1 := by rw [← hW1]; exact (Keeps.refl _ _).alloc _
  have c0 := hb.cells 0
  have c1 := hb.cells 1
  have HK := Lib.hid hk1
  have hD : decide (idRight at_ n) = (decide (1 ≤ n) && decide (n ≤ 16) && decide (0 ≤ at_) && decide (at_ < 65536)) := by
    by_cases e1 : 1 ≤ n <;> by_cases e2 : n ≤ 16 <;> by_cases e3 : 0 ≤ at_ <;> by_cases e4 : at_ < 65536 <;> simp [idRight, e1, e2, e3, e4]
  rw [hD]
  clear hb hk1 hD
  have d1 : decide (1 ≤ n) = false ∨ decide (1 ≤ n) = true := by cases decide (1 ≤ n) <;> simp
  have d2 : decide (n ≤ 16) = false ∨ decide (n ≤ 16) = true := by cases decide (n ≤ 16) <;> simp
  have d3 : decide (0 ≤ at_) = false ∨ decide (0 ≤ at_) = true := by cases decide (0 ≤ at_) <;> simp
  have d4 : decide (at_ < 65536) = false ∨ decide (at_ < 65536) = true := by cases decide (at_ < 65536) <;> simp
  rcases d1 with d1 | d1 <;> rcases d2 with d2 | d2 <;> rcases d3 with d3 | d3 <;> rcases d4 with d4 | d4
  all_goals (
    have HD := Lib.hid (⟨d1, d2, d3, d4⟩ : _ ∧ _ ∧ _ ∧ _)
    go_enter Try.func17, Try.ntmps17
    go_wp2
    go_ret
    obtain ⟨d1, d2, d3, d4⟩ := HD.out
    refine ⟨?_, HK.out⟩
    rw [d1, d2, d3, d4]
    rfl)

end Go.Proofs.Ytnlkbmjelkbfkaa
