/-
  Contracts of package word and of its reference.
-/
import Derived.Test.YtoomefclbemnlaaGreatRows
import Derived.Test.YtoomefclbemnlaaGreatMath
import Derived.Test.YtoomefclbemnlaaGreatKeep
import Derived.WalkKit
import Derived.ProofKit
import Derived.OpenShut
import Derived.Deep.QuietTactic
import Derived.BigQuiet
import Derived.Deep.RegionWith
namespace Go.Proofs.YtoomefclbemnlaaGreat
set_option maxRecDepth 100000
set_option linter.unusedSimpArgs false
set_option linter.unusedVariables false
open Go.ChangeShapes Go.WideShapes Go.ChangeAt Go.RowKit



theorem pair_any (h l : Int) (w : World) (h0 : 0 ≤ h) (h1 : h < 4294967296) (l0 : 0 ≤ l) (l1 : l < 4294967296) :
    Calls Tryz.prog 48 #[.int .u32 h, .int .u32 l] w fun e w' => e = .returned (.int .u64 (h * 4294967296 + l)) ∧ w = w' := by
  go_enter Tryz.func48, Tryz.ntmps48
  go_wp2
  go_ret
  exact ⟨ret_int (M.or_pair h l h0 h1 l0 l1), rfl⟩

theorem pair_back (u : Int) (w : World) (u0 : 0 ≤ u) (hu : M.U u) :
    Calls Tryz.prog 48 #[.int .u32 (u / 4294967296), .int .u32 (u % 4294967296)] w fun e w' => e = .returned (.int .u64 u) ∧ w = w' := by
  have u1 := hu.lt
  refine (pair_any _ _ _ (by omega) (by omega) (by omega) (by omega)).mono ?_
  rintro e w' ⟨rfl, rfl⟩
  exact ⟨ret_int (by omega), rfl⟩

theorem refPair_any (h l : Int) (w : World) (h0 : 0 ≤ h) (h1 : h < 4294967296) (l0 : 0 ≤ l) (l1 : l < 4294967296) :
    Calls Tryz.prog 151 #[.int .u32 h, .int .u32 l] w fun e w' => e = .returned (.int .u64 (h * 4294967296 + l)) ∧ w = w' := by
  go_enter Tryz.func151, Tryz.ntmps151
  go_wp2
  go_ret
  exact ⟨rfl, rfl⟩

theorem split_any (u : Int) (w : World) (h0 : 0 ≤ u) (hu : M.U u) :
    Calls Tryz.prog 105 #[.int .u64 u] w fun e w' => e = .returned (.tuple #[.int .u32 (u / 4294967296), .int .u32 (u % 4294967296)]) ∧ w = w' := by
  go_enter Tryz.func105, Tryz.ntmps105
  go_wp2
  go_ret2
  exact ⟨ret_int2 (M.hi_mod u hu) rfl, rfl⟩

theorem refHi_any (u : Int) (w : World) (h0 : 0 ≤ u) (hu : M.U u) :
    Calls Tryz.prog 152 #[.int .u64 u] w fun e w' => e = .returned (.int .u32 (u / 4294967296)) ∧ w = w' := by
  have hu1 := hu.lt
  go_enter Tryz.func152, Tryz.ntmps152
  go_wp2
  go_ret
  exact ⟨rfl, rfl⟩

theorem refLo_any (u : Int) (w : World) (h0 : 0 ≤ u) :
    Calls Tryz.prog 120 #[.int .u64 u] w fun e w' => e = .returned (.int .u32 (u % 4294967296)) ∧ w = w' := by
  go_enter Tryz.func120, Tryz.ntmps120
  go_wp2
  go_ret
  exact ⟨ret_int (by omega), rfl⟩













end Go.Proofs.YtoomefclbemnlaaGreat
