import Derived.Test.YtjbgkaleickknaaGreatRows
import Derived.Test.YtjbgkaleickknaaGreatMath
import Derived.Test.YtjbgkaleickknaaGreatKeep
import Derived.WalkKit
import Derived.ProofKit
import Derived.OpenShut
import Derived.Deep.QuietTactic
import Derived.BigQuiet
import Derived.Deep.RegionWith
/-
  Contracts of package word and of its reference.
-/
namespace Go.Proofs.YtjbgkaleickknaaGreat
set_option maxRecDepth 100000
set_option linter.unusedSimpArgs false
set_option linter.unusedVariables false
open Go.ChangeShapes Go.WideShapes Go.ChangeAt Go.RowKit

theorem pair_any (h l : Int) (w : World) (h0 : 0 ≤ h) (h1 : h < 4294967296) (l0 : 0 ≤ l) (l1 : l < 4294967296) :
    Calls Tryz.prog 83 #[.int .u32 h, .int .u32 l] w fun e w' => e = .returned (.int .u64 (h * 4294967296 + l)) ∧ w = w' := by
  go_enter Tryz.func83, Tryz.ntmps83
  go_wp2
  go_ret
  exact ⟨ret_int (M.or_pair h l h0 h1 l0 l1), rfl⟩

theorem refPair_any (h l : Int) (w : World) (h0 : 0 ≤ h) (h1 : h < 4294967296) (l0 : 0 ≤ l) (l1 : l < 4294967296) :
    Calls Tryz.prog 7 #[.int .u32 h, .int .u32 l] w fun e w' => e = .returned (.int .u64 (h * 4294967296 + l)) ∧ w = w' := by
  go_enter Tryz.func7, Tryz.ntmps7
  go_wp2
  go_ret
  exact ⟨rfl, rfl⟩

theorem split_any (u : Int) (w : World) (h0 : 0 ≤ u) (hu : M.U u) :
    Calls Tryz.prog 28 #[.int .u64 u] w fun e w' => e = .returned (.tuple #[.int .u32 (u / 4294967296), .int .u32 (u % 4294967296)]) ∧ w = w' := by
  go_enter Tryz.func28, Tryz.ntmps28
  go_wp2
  go_ret2
  exact ⟨ret_int2 (M.hi_mod u hu) rfl, rfl⟩

theorem ahead_any (a b : Int) (w : World) (a0 : 0 ≤ a) (a1 : a < 4294967296) (b0 : 0 ≤ b) (b1 : b < 4294967296) :
    Calls Tryz.prog 31 #[.int .u32 a, .int .u32 b] w fun e w' => e = .returned (.int .i64 (M.aheadI a b)) ∧ w = w' := by
  go_enter Tryz.func31, Tryz.ntmps31
  go_wp2
  go_ret
  exact ⟨ret_int (M.ahead_wrap a b), rfl⟩

end Go.Proofs.YtjbgkaleickknaaGreat
