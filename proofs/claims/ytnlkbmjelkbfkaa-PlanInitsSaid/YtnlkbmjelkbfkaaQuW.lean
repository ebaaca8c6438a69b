import Derived.Test.YtnlkbmjelkbfkaaMach
import Derived.Test.YtnlkbmjelkbfkaaWalk
import Derived.Test.YtnlkbmjelkbfkaaFresh
import Derived.Test.YtnlkbmjelkbfkaaDraw
import Derived.LaidEql
import Derived.LoopTactic
import Derived.Test.YtnlkbmjelkbfkaaArM
import Derived.Test.YtnlkbmjelkbfkaaArQ
import Derived.Test.YtnlkbmjelkbfkaaCells
import Derived.Test.YtnlkbmjelkbfkaaKeep
import Derived.ChangeSlices
import Derived.OpenShut
import Derived.Lib.SmallJoins
import Derived.Deep.Slices
import Derived.Deep.Fields
import Derived.ChangeSame
import Derived.StillTailTactics
/-
  The machine of a queue's Put and Take.
-/
namespace Go.Proofs.Ytnlkbmjelkbfkaa
set_option maxRecDepth 100000
set_option linter.unusedSimpArgs false
set_option linter.unusedVariables false
open Go

def quRight (at_ n : Int) : Prop := 2 ≤ n ∧ n ≤ 4096 ∧ 0 ≤ at_ ∧ at_ < 65536 - 3 * n - 2
instance (at_ n : Int) : Decidable (quRight at_ n) := by unfold quRight; infer_instance
/-- The node of a pair. -/
def quNode (u : Int) : Int := u % 4294967296
/-- Is it none? -/
def quWrong (n u : Int) : Prop := quNode u < 1 ∨ n < quNode u
instance (n u : Int) : Decidable (quWrong n u) := by unfold quWrong; infer_instance
def quTask (at_ n i : Int) : Int := at_ + 2 + n + i
def quNext (at_ n i : Int) : Int := at_ + 2 + 2 * n + i
theorem quNode_nn (u : Int) : 0 ≤ quNode u ∧ quNode u < 4294967296 := by unfold quNode; omega
end Go.Proofs.Ytnlkbmjelkbfkaa

/-
  Contracts: a queue's cells; what its walks ask for.
-/
namespace Go.Proofs.Ytnlkbmjelkbfkaa
set_option maxRecDepth 100000
set_option linter.unusedSimpArgs false
set_option linter.unusedVariables false
open Go.ChangeShapes Go.WideShapes Go.ChangeAt Go.RowKit

theorem quTail_any (at_ n : Int) (w : World) (h0 : 0 ≤ at_) (h1 : at_ < 65536) :
    Calls Try.prog 38 #[.agg #[.int .i64 at_, .int .i64 n]] w fun e w' => e = .returned (.int .i64 (at_ + 1)) ∧ Keeps [] w w' := by
  go_enter Try.func38, Try.ntmps38
  go_wp2
  go_ret
  exact ⟨rfl, (Keeps.refl _ _).alloc _⟩
theorem quTask_any (at_ n i : Int) (w : World) (hr : quRight at_ n) (i0 : 0 ≤ i) (i1 : i ≤ 4294967296) :
    Calls Try.prog 39 #[.agg #[.int .i64 at_, .int .i64 n], .int .i64 i] w fun e w' => e = .returned (.int .i64 (quTask at_ n i)) ∧ Keeps [] w w' := by
  obtain ⟨a, b, c, d⟩ := hr
  have d' : at_ < 65536 := by omega
  clear d
  unfold quTask
  go_enter Try.func39, Try.ntmps39
  go_wp2
  go_ret
  exact ⟨rfl, (Keeps.refl _ _).alloc _⟩
theorem quNext_any (at_ n i : Int) (w : World) (hr : quRight at_ n) (i0 : 0 ≤ i) (i1 : i ≤ 4294967296) :
    Calls Try.prog 40 #[.agg #[.int .i64 at_, .int .i64 n], .int .i64 i] w fun e w' => e = .returned (.int .i64 (quNext at_ n i)) ∧ Keeps [] w w' := by
  obtain ⟨a, b, c, d⟩ := hr
  have d' : at_ < 65536 := by omega
  clear d
  unfold quNext
  go_enter Try.func40, Try.ntmps40
  go_wp2
  go_ret
  exact ⟨rfl, (Keeps.refl _ _).alloc _⟩
theorem quRight_any (at_ n : Int) (w : World) :
    Calls Try.prog 18 #[.agg #[.int .i64 at_, .int .i64 n]] w fun e w' => e = .returned (.bool (decide (quRight at_ n))) ∧ Keeps [] w w' := by
  by_cases h1 : 2 ≤ n
  case neg =>
    have HD : Hid (decide (quRight at_ n) = false) := Lib.hid (decide_eq_false fun h => h1 h.1)
    rw [HD.out]
    have d1 : decide ((2 : Int) ≤ n) = false := decide_eq_false h1
    go_enter Try.func18, Try.ntmps18
    go_wp2
    go_ret
    exact ⟨rfl, (Keeps.refl _ _).alloc _⟩
  by_cases h2 : n ≤ 4096
  case neg =>
    have HD : Hid (decide (quRight at_ n) = false) := Lib.hid (decide_eq_false fun h => h2 h.2.1)
    rw [HD.out]
    have d1 : decide ((2 : Int) ≤ n) = true := decide_eq_true h1
    have d2 : decide (n ≤ 4096) = false := decide_eq_false h2
    go_enter Try.func18, Try.ntmps18
    go_wp2
    go_ret
    exact ⟨rfl, (Keeps.refl _ _).alloc _⟩
  by_cases h3 : 0 ≤ at_
  case neg =>
    have HD : Hid (decide (quRight at_ n) = false) := Lib.hid (decide_eq_false fun h => h3 h.2.2.1)
    rw [HD.out]
    have d1 : decide ((2 : Int) ≤ n) = true := decide_eq_true h1
    have d2 : decide (n ≤ 4096) = true := decide_eq_true h2
    have d3 : decide (0 ≤ at_) = false := decide_eq_false h3
    go_enter Try.func18, Try.ntmps18
    go_wp2
    go_ret
    exact ⟨rfl, (Keeps.refl _ _).alloc _⟩
  obtain ⟨m, hm⟩ : ∃ m, 65536 - 3 * n - 2 = m := ⟨_, rfl⟩
  have d1 : decide ((2 : Int) ≤ n) = true := decide_eq_true h1
  have d2 : decide (n ≤ 4096) = true := decide_eq_true h2
  have d3 : decide (0 ≤ at_) = true := decide_eq_true h3
  by_cases h4 : at_ < 65536 - 3 * n - 2
  · have HD : Hid (decide (quRight at_ n) = true) := Lib.hid (decide_eq_true ⟨h1, h2, h3, h4⟩)
    rw [HD.out]
    have d4 : decide (at_ < m) = true := decide_eq_true (by omega)
    go_enter Try.func18, Try.ntmps18
    go_wp2
    go_ret
    exact ⟨rfl, (Keeps.refl _ _).alloc _⟩
  · have HD : Hid (decide (quRight at_ n) = false) := Lib.hid (decide_eq_false fun h => h4 h.2.2.2)
    rw [HD.out]
    have d4 : decide (at_ < m) = false := decide_eq_false (by omega)
    go_enter Try.func18, Try.ntmps18
    go_wp2
    go_ret
    exact ⟨rfl, (Keeps.refl _ _).alloc _⟩
theorem quArena_any (at_ n : Int) (w : World) (hr : quRight at_ n) :
    Calls Try.prog 41 #[.agg #[.int .i64 at_, .int .i64 n]] w fun e w' => e = .returned (.agg #[.int .i64 (at_ + 2), .int .i64 n]) ∧ Keeps [] w w' := by
  have HR := Lib.hid (fun W => quRight_any at_ n W)
  rw [decide_eq_true hr] at HR
  obtain ⟨a, b, c, d⟩ := hr
  have d' : at_ < 65536 := by omega
  obtain ⟨W2, hW2⟩ : ∃ W2, (w.alloc (.cells #[.int .i64 at_, .int .i64 n] 41)).alloc (.cells #[.int .i64 0, .int .i64 0] 66) = W2 := ⟨_, rfl⟩
  have hb : Box W2 w.heap.size #[.int .i64 at_, .int .i64 n] := by rw [← hW2]; exact (Box.new _ _ _).alloc _
  have hr2 : Row W2 (w.heap.size + 1) 66 [.int .i64 0, .int .i64 0] := by rw [← hW2]; have := Row.new (w.alloc (.cells #[.int .i64 at_, .int .i64 n] 41)) #[.int .i64 0, .int .i64 0] 66; simpa using this
  have hk1 : Keeps [] w W2 := by rw [← hW2]; exact ((Keeps.refl _ _).alloc _).alloc _
  have c0 := hb.cells 0
  have c1 := hb.cells 1
  have hz : (w.alloc (.cells #[.int .i64 at_, .int .i64 n] 41)).heap.size = w.heap.size + 1 := by simp
  have HB := Lib.hid hb
  have HK := Lib.hid hk1
  have HR2 := Lib.hid hr2
  clear hb hk1 d hr2
  go_enter Try.func41, Try.ntmps41
  go_wp2_with fail
  refine (HR.out W2).mono ?_
  rintro e w3 ⟨rfl, k3⟩
  have hb3 := HB.out.keeps k3 (by simp)
  have hr3 := HR2.out.keeps k3 (by simp)
  have d0 := hb3.cells 0
  have d1 := hb3.cells 1
  have e0 := hr3.cell (j := 0) rfl
  have e1 := hr3.cell (j := 1) rfl
  have g0 := hr3.frozen 0
  have g1 := hr3.frozen 1
  have hlt := hr3.lt
  have HK3 := Lib.hid (HK.out.trans k3)
  clear hb3 hr3 k3 c0 c1
  go_wp2
  refine bodyPost_ret (v := .agg #[.int .i64 (at_ + 2), .int .i64 n]) (by simp [results, Try.results41, go_sem, e0, e1, hlt]) rfl ⟨rfl, ?_⟩
  exact (HK3.out.step (S := [w.heap.size + 1]) (((Keeps.refl _ _).set (by simp) _ _).set (by simp) _ _) (by simp))

end Go.Proofs.Ytnlkbmjelkbfkaa

/-
  Contracts: a queue's walk that holds tasks, and lets go of them.
-/
namespace Go.Proofs.Ytnlkbmjelkbfkaa
set_option maxRecDepth 100000
set_option linter.unusedSimpArgs false
set_option linter.unusedVariables false
open Go.ChangeShapes Go.WideShapes Go.ChangeAt Go.RowKit

end Go.Proofs.Ytnlkbmjelkbfkaa
