/-
  Contracts: whether there can be a queue, and what is in it, as the document says.
-/
import Derived.Test.YtoomefclbemnlaaGreatQuF
import Derived.Test.YtoomefclbemnlaaGreatWord
import Derived.Test.YtoomefclbemnlaaGreatRef6
import Derived.IntWalk
namespace Go.Proofs.YtoomefclbemnlaaGreat
set_option maxRecDepth 100000
set_option linter.unusedSimpArgs false
set_option linter.unusedVariables false
open Go.ChangeShapes Go.WideShapes Go.ChangeAt Go.RowKit

theorem refRight9_any (at_ n : Int) (w : World) :
    Calls Tryz.prog 5 #[.int .i64 at_, .int .i64 n] w fun e w' => e = .returned (.bool (decide (quRight at_ n))) ∧ w = w' := by
  by_cases h1 : n < 2
  · have HD : Hid (decide (quRight at_ n) = false) := Lib.hid (decide_eq_false fun h => by have := h.1; omega)
    rw [HD.out]
    have d1 : decide ((2 : Int) ≤ n) = false := decide_eq_false (by omega)
    go_enter Tryz.func5, Tryz.ntmps5
    go_wp2
    go_ret
    exact ⟨rfl, rfl⟩
  have d1 : decide ((2 : Int) ≤ n) = true := decide_eq_true (by omega)
  by_cases h2 : 4096 < n
  · have HD : Hid (decide (quRight at_ n) = false) := Lib.hid (decide_eq_false fun h => by have := h.2.1; omega)
    rw [HD.out]
    have d2 : decide (n ≤ 4096) = false := decide_eq_false (by omega)
    go_enter Tryz.func5, Tryz.ntmps5
    go_wp2
    go_ret
    exact ⟨rfl, rfl⟩
  have d2 : decide (n ≤ 4096) = true := decide_eq_true (by omega)
  by_cases h3 : at_ < 0
  · have HD : Hid (decide (quRight at_ n) = false) := Lib.hid (decide_eq_false fun h => by have := h.2.2.1; omega)
    rw [HD.out]
    have d3 : decide (0 ≤ at_) = false := decide_eq_false (by omega)
    go_enter Tryz.func5, Tryz.ntmps5
    go_wp2
    go_ret
    exact ⟨rfl, rfl⟩
  have d3 : decide (0 ≤ at_) = true := decide_eq_true (by omega)
  have hn1 : 2 ≤ n := by omega
  have hn2 : n ≤ 4096 := by omega
  have ha : 0 ≤ at_ := by omega
  by_cases h4 : at_ < 65536 - 3 * n - 2
  · have HD : Hid (decide (quRight at_ n) = true) := Lib.hid (decide_eq_true ⟨hn1, hn2, ha, h4⟩)
    rw [HD.out]
    have d4 : decide (at_ < 65536 - 3 * n - 2) = true := decide_eq_true h4
    go_enter Tryz.func5, Tryz.ntmps5
    go_wp2
    go_ret
    exact ⟨rfl, rfl⟩
  · have HD : Hid (decide (quRight at_ n) = false) := Lib.hid (decide_eq_false fun h => h4 h.2.2.2)
    rw [HD.out]
    have d4 : decide (at_ < 65536 - 3 * n - 2) = false := decide_eq_false h4
    go_enter Tryz.func5, Tryz.ntmps5
    go_wp2
    go_ret
    exact ⟨rfl, rfl⟩

theorem refNode9_any (u : Int) (w : World) (hu : M.U u) :
    Calls Tryz.prog 128 #[.int .u64 u] w fun e w' => e = .returned (.int .i64 (quNode u)) ∧ w = w' := by
  have HL := Lib.hid (refLo_any u w hu.nn)
  obtain ⟨x, hx⟩ : ∃ x, u % 4294967296 = x := ⟨_, rfl⟩
  have h0 : 0 ≤ x := by omega
  have h1 : x < 4294967296 := by omega
  unfold quNode
  rw [hx] at HL ⊢
  clear hx
  go_enter Tryz.func128, Tryz.ntmps128
  go_wp2_with fail
  refine HL.out.mono ?_
  rintro e w1 ⟨rfl, rfl⟩
  go_wp2
  go_ret
  exact ⟨rfl, rfl⟩
end Go.Proofs.YtoomefclbemnlaaGreat

/-
  Contract: what is in a queue, as the document says.
-/
namespace Go.Proofs.YtoomefclbemnlaaGreat
set_option maxRecDepth 100000
set_option linter.unusedSimpArgs false
set_option linter.unusedVariables false
open Go.ChangeShapes Go.WideShapes Go.ChangeAt Go.RowKit

end Go.Proofs.YtoomefclbemnlaaGreat
