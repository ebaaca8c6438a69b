import Derived.Test.YtjbgkaleickknaaGreatRgW
import Derived.Test.YtjbgkaleickknaaGreatFresh
import Derived.IntWalk
/-
  Contracts: the document's answers of layer 8 that aren't a frame's: Right, All.
-/
namespace Go.Proofs.YtjbgkaleickknaaGreat
set_option maxRecDepth 100000
set_option linter.unusedSimpArgs false
set_option linter.unusedVariables false
open Go.ChangeShapes Go.WideShapes Go.ChangeAt Go.RowKit

set_option maxHeartbeats 12800000 in
theorem rRight8_any (at_ size : Int) (w : World) :
    Calls Tryz.prog 5 #[.int .i64 at_, .int .i64 size] w fun e w' => e = .returned (.bool (decide (dqRight at_ size))) ∧ w = w' := by
  by_cases hp : size = 2 ∨ size = 4 ∨ size = 8 ∨ size = 16 ∨ size = 32 ∨ size = 64 ∨ size = 128 ∨ size = 256
  · by_cases h1 : 0 ≤ at_
    · have d1 : decide (0 ≤ at_) = true := decide_eq_true h1
      by_cases h2 : at_ < 65536 - size - 1
      · have HD : Hid (decide (dqRight at_ size) = true) := Lib.hid (decide_eq_true ⟨hp, h1, h2⟩)
        rw [HD.out]
        rcases hp with rfl | rfl | rfl | rfl | rfl | rfl | rfl | rfl
        all_goals (
          have d2 := decide_eq_true h2
          simp only [Int.reduceSub] at d2 h2
          go_enter Tryz.func5, Tryz.ntmps5
          go_wp2
          refine wp_loop_rounds 9 ?_
          repeat (rw [rounds_succ]; go_wp2)
          go_ret
          exact ⟨rfl, rfl⟩)
      · have HD : Hid (decide (dqRight at_ size) = false) := Lib.hid (decide_eq_false fun h => h2 h.2.2)
        rw [HD.out]
        rcases hp with rfl | rfl | rfl | rfl | rfl | rfl | rfl | rfl
        all_goals (
          have d2 := decide_eq_false h2
          simp only [Int.reduceSub] at d2 h2
          go_enter Tryz.func5, Tryz.ntmps5
          go_wp2
          refine wp_loop_rounds 9 ?_
          repeat (rw [rounds_succ]; go_wp2)
          go_ret
          exact ⟨rfl, rfl⟩)
    · have d1 : decide (0 ≤ at_) = false := decide_eq_false h1
      have HD : Hid (decide (dqRight at_ size) = false) := Lib.hid (decide_eq_false fun h => h1 h.2.1)
      rw [HD.out]
      rcases hp with rfl | rfl | rfl | rfl | rfl | rfl | rfl | rfl
      all_goals (
        go_enter Tryz.func5, Tryz.ntmps5
        go_wp2
        refine wp_loop_rounds 9 ?_
        repeat (rw [rounds_succ]; go_wp2)
        go_ret
        exact ⟨rfl, rfl⟩)
  · have HD : Hid (decide (dqRight at_ size) = false) := Lib.hid (decide_eq_false fun h => hp h.1)
    rw [HD.out]
    simp only [not_or] at hp
    obtain ⟨p1, p2, p3, p4, p5, p6, p7, p8⟩ := hp
    have q1 : ((2 : Int) == size) = false := beq_eq_false_iff_ne.2 (Ne.symm p1)
    have q2 : ((4 : Int) == size) = false := beq_eq_false_iff_ne.2 (Ne.symm p2)
    have q3 : ((8 : Int) == size) = false := beq_eq_false_iff_ne.2 (Ne.symm p3)
    have q4 : ((16 : Int) == size) = false := beq_eq_false_iff_ne.2 (Ne.symm p4)
    have q5 : ((32 : Int) == size) = false := beq_eq_false_iff_ne.2 (Ne.symm p5)
    have q6 : ((64 : Int) == size) = false := beq_eq_false_iff_ne.2 (Ne.symm p6)
    have q7 : ((128 : Int) == size) = false := beq_eq_false_iff_ne.2 (Ne.symm p7)
    have q8 : ((256 : Int) == size) = false := beq_eq_false_iff_ne.2 (Ne.symm p8)
    go_enter Tryz.func5, Tryz.ntmps5
    go_wp2
    refine wp_loop_rounds 9 ?_
    repeat (rw [rounds_succ]; go_wp2)
    go_ret
    exact ⟨rfl, rfl⟩


end Go.Proofs.YtjbgkaleickknaaGreat
