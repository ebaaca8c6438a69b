/-
  Contracts of package word and of its reference.
-/
import Derived.Test.YtamcfobgmpgbeaaDoorRows
import Derived.Test.YtamcfobgmpgbeaaDoorMath
import Derived.Test.YtamcfobgmpgbeaaDoorKeep
import Derived.WalkKit
import Derived.ProofKit
import Derived.OpenShut
import Derived.Deep.QuietTactic
import Derived.BigQuiet
import Derived.Deep.RegionWith
namespace Go.Proofs.YtamcfobgmpgbeaaDoor
set_option maxRecDepth 100000
set_option linter.unusedSimpArgs false
set_option linter.unusedVariables false
open Go.ChangeShapes Go.WideShapes Go.ChangeAt Go.RowKit

theorem isField_any (a n : Int) (w : World) :
    Calls Tryd.prog 74 #[.int .i64 a, .int .i64 n] w fun e w' => e = .returned (.bool (M.isF a n)) ∧ w = w' := by
  go_enter Tryd.func74, Tryd.ntmps74
  go_wp2
  all_goals (go_ret; refine ⟨?_, rfl⟩; first | exact M.isF_ret (by omega) | exact M.isF_no (by omega))


theorem pair_any (h l : Int) (w : World) (h0 : 0 ≤ h) (h1 : h < 4294967296) (l0 : 0 ≤ l) (l1 : l < 4294967296) :
    Calls Tryd.prog 82 #[.int .u32 h, .int .u32 l] w fun e w' => e = .returned (.int .u64 (h * 4294967296 + l)) ∧ w = w' := by
  go_enter Tryd.func82, Tryd.ntmps82
  go_wp2
  go_ret
  exact ⟨ret_int (M.or_pair h l h0 h1 l0 l1), rfl⟩

theorem pair_back (u : Int) (w : World) (u0 : 0 ≤ u) (hu : M.U u) :
    Calls Tryd.prog 82 #[.int .u32 (u / 4294967296), .int .u32 (u % 4294967296)] w fun e w' => e = .returned (.int .u64 u) ∧ w = w' := by
  have u1 := hu.lt
  refine (pair_any _ _ _ (by omega) (by omega) (by omega) (by omega)).mono ?_
  rintro e w' ⟨rfl, rfl⟩
  exact ⟨ret_int (by omega), rfl⟩


theorem split_any (u : Int) (w : World) (h0 : 0 ≤ u) (hu : M.U u) :
    Calls Tryd.prog 49 #[.int .u64 u] w fun e w' => e = .returned (.tuple #[.int .u32 (u / 4294967296), .int .u32 (u % 4294967296)]) ∧ w = w' := by
  go_enter Tryd.func49, Tryd.ntmps49
  go_wp2
  go_ret2
  exact ⟨ret_int2 (M.hi_mod u hu) rfl, rfl⟩

theorem refHi_any (u : Int) (w : World) (h0 : 0 ≤ u) (hu : M.U u) :
    Calls Tryd.prog 11 #[.int .u64 u] w fun e w' => e = .returned (.int .u32 (u / 4294967296)) ∧ w = w' := by
  have hu1 := hu.lt
  go_enter Tryd.func11, Tryd.ntmps11
  go_wp2
  go_ret
  exact ⟨rfl, rfl⟩

theorem refLo_any (u : Int) (w : World) (h0 : 0 ≤ u) :
    Calls Tryd.prog 29 #[.int .u64 u] w fun e w' => e = .returned (.int .u32 (u % 4294967296)) ∧ w = w' := by
  go_enter Tryd.func29, Tryd.ntmps29
  go_wp2
  go_ret
  exact ⟨ret_int (by omega), rfl⟩



theorem ones_any (n : Int) (w : World) (h0 : 1 ≤ n) (h1 : n ≤ 64) :
    Calls Tryd.prog 75 #[.int .i64 n] w fun e w' => e = .returned (.int .u64 ((2 ^ n.toNat - 1 : Nat) : Int)) ∧ w = w' := by
  go_enter Tryd.func75, Tryd.ntmps75
  go_wp2
  go_ret
  exact ⟨ret_int (M.ones_int n h0 h1), rfl⟩

theorem field_ok (u a n : Int) (w : World) (hu : M.U u) (hf : M.isF a n = true) :
    Calls Tryd.prog 52 #[.int .u64 u, .int .i64 a, .int .i64 n] w fun e w' => e = .returned (.tuple #[.int .u64 ((M.fieldN u.toNat a.toNat n.toNat : Nat) : Int), .int .i64 0]) ∧ ∃ m, w.drewN m = w' := by
  obtain ⟨n1, n2, a1, a2⟩ := M.isF_iff.1 hf
  have u0 := hu.nn
  go_enter Tryd.func52, Tryd.ntmps52
  go_wp2_with (go_at_call 74; refine (isField_any _ _ _).mono ?_; rintro e w' ⟨rfl, rfl⟩)
  go_quiet ((go_at_call 75; exact qs (ones_any _ _ n1 n2)))
  go_wp2
  go_ret2
  exact ⟨ret_int2 (M.and_field u a n hu hf) rfl, _, rfl⟩

theorem field_no (u a n : Int) (w : World) (hf : M.isF a n = false) :
    Calls Tryd.prog 52 #[.int .u64 u, .int .i64 a, .int .i64 n] w fun e w' => e = .returned (.tuple #[.int .u64 0, .int .i64 2]) ∧ w = w' := by
  go_enter Tryd.func52, Tryd.ntmps52
  go_wp2_with (go_at_call 74; refine (isField_any _ _ _).mono ?_; rintro e w' ⟨rfl, rfl⟩)
  go_ret2
  exact ⟨rfl, rfl⟩








end Go.Proofs.YtamcfobgmpgbeaaDoor
