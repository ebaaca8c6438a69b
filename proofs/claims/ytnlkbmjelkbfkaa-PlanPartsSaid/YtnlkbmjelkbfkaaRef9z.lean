import Derived.Test.YtnlkbmjelkbfkaaQuW
import Derived.Deep.RegionHeld3
import Derived.Test.YtnlkbmjelkbfkaaOnce
import Derived.Test.YtnlkbmjelkbfkaaFresh
import Derived.IntWalk
import Derived.Test.YtnlkbmjelkbfkaaRef9g
import Derived.Test.YtnlkbmjelkbfkaaSeen
import Derived.Test.YtnlkbmjelkbfkaaWord
import Derived.Test.YtnlkbmjelkbfkaaArM
import Derived.Deep.CutRange
import Derived.LoopTactic
import Derived.Test.YtnlkbmjelkbfkaaDraw
import Derived.Test.YtnlkbmjelkbfkaaKeep
import Derived.Deep.RegionLaw
import Derived.Test.YtnlkbmjelkbfkaaRef9a
/-
  The document's frame of a queue goes as the queue's machine: what it is told; how it is made.
-/
namespace Go.Proofs.Ytnlkbmjelkbfkaa
set_option maxRecDepth 100000
set_option linter.unusedSimpArgs false
set_option linter.unusedVariables false
open Go.ChangeShapes Go.WideShapes Go.ChangeAt Go.RowKit

end Go.Proofs.Ytnlkbmjelkbfkaa

/-
  The document's frame of a queue goes as the queue's machine: Give in all; how it is made; what is seen of it.
-/
namespace Go.Proofs.Ytnlkbmjelkbfkaa
set_option maxRecDepth 100000
set_option linter.unusedSimpArgs false
set_option linter.unusedVariables false
open Go.ChangeShapes Go.WideShapes Go.ChangeAt Go.RowKit

end Go.Proofs.Ytnlkbmjelkbfkaa

/-
  The document's frame of a queue is made.
-/
namespace Go.Proofs.Ytnlkbmjelkbfkaa
set_option maxRecDepth 100000
set_option linter.unusedSimpArgs false
set_option linter.unusedVariables false
open Go.ChangeShapes Go.WideShapes Go.ChangeAt Go.RowKit

theorem quCellsOf_any (at_ n : Int) (w : World) :
    Calls Try.prog 34 #[.agg #[.int .i64 at_, .int .i64 n]] w fun e w' => e = .returned (.int .i64 (if quRight at_ n then 3 * n + 3 else 0)) ∧ Keeps [] w w' := by
  have HR := Lib.hid (fun W => quRight_any at_ n W)
  obtain ⟨W1, hW1⟩ : ∃ W1, w.alloc (.cells #[.int .i64 at_, .int .i64 n] 41) = W1 := ⟨_, rfl⟩
  have bq : Box W1 w.heap.size #[.int .i64 at_, .int .i64 n] := by rw [← hW1]; exact Box.new _ _ _
  have k1 : Keeps [] w W1 := by rw [← hW1]; exact (Keeps.refl _ _).alloc _
  have c0 := bq.cells 0
  have c1 := bq.cells 1
  have HB := Lib.hid bq
  have HK := Lib.hid k1
  clear bq k1
  by_cases hr : quRight at_ n
  · rw [decide_eq_true hr] at HR
    rw [if_pos hr]
    obtain ⟨r1, r2, -, -⟩ := hr
    have w1 : IntKind.i64.wrap (3 * n) = 3 * n := IntWalk.i64_in _ (by omega)
    have w2 : IntKind.i64.wrap (3 * n + 3) = 3 * n + 3 := IntWalk.i64_in _ (by omega)
    clear r1 r2
    go_enter Try.func34, Try.ntmps34
    go_wp2_with fail
    refine (HR.out _).mono ?_
    rintro e w3 ⟨rfl, k3⟩
    have d1 := (HB.out.keeps k3 (by simp)).cells 1
    have HK3 := Lib.hid (HK.out.trans k3)
    clear k3 c0 c1
    go_wp2
    go_ret
    exact ⟨rfl, HK3.out⟩
  · rw [decide_eq_false hr] at HR
    rw [if_neg hr]
    clear hr
    go_enter Try.func34, Try.ntmps34
    go_wp2_with fail
    refine (HR.out _).mono ?_
    rintro e w3 ⟨rfl, k3⟩
    have HK3 := Lib.hid (HK.out.trans k3)
    clear k3 c0 c1
    go_wp2
    go_ret
    exact ⟨rfl, HK3.out⟩
end Go.Proofs.Ytnlkbmjelkbfkaa
