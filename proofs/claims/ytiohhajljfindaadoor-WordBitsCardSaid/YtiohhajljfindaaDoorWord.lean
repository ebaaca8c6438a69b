/-
  Contracts of package word and of its reference.
-/
import Derived.Test.YtiohhajljfindaaDoorRows
import Derived.Test.YtiohhajljfindaaDoorMath
import Derived.Test.YtiohhajljfindaaDoorBase
import Derived.WalkKit
import Derived.ProofKit
import Derived.OpenShut
import Derived.Deep.QuietTactic
import Derived.BigQuiet
import Derived.Deep.RegionWith
namespace Go.Proofs.YtiohhajljfindaaDoor
open Go.ChangeShapes Go.WideShapes Go.ChangeAt Go.RowKit

theorem isField_any (a n : Int) (w : World) :
    Calls Tryd.prog 14 #[.int .i64 a, .int .i64 n] w fun e w' => e = .returned (.bool (M.isF a n)) ∧ w = w' := by
  go_enter Tryd.func14, Tryd.ntmps14
  go_wp2
  all_goals (go_ret; refine ⟨?_, rfl⟩; first | exact M.isF_ret (by omega) | exact M.isF_no (by omega))








theorem ahead_any (a b : Int) (w : World) (a0 : 0 ≤ a) (a1 : a < 4294967296) (b0 : 0 ≤ b) (b1 : b < 4294967296) :
    Calls Tryd.prog 10 #[.int .u32 a, .int .u32 b] w fun e w' => e = .returned (.int .i64 (M.aheadI a b)) ∧ w = w' := by
  go_enter Tryd.func10, Tryd.ntmps10
  go_wp2
  go_ret
  exact ⟨ret_int (M.ahead_wrap a b), rfl⟩


theorem ones_any (n : Int) (w : World) (h0 : 1 ≤ n) (h1 : n ≤ 64) :
    Calls Tryd.prog 15 #[.int .i64 n] w fun e w' => e = .returned (.int .u64 ((2 ^ n.toNat - 1 : Nat) : Int)) ∧ w = w' := by
  go_enter Tryd.func15, Tryd.ntmps15
  go_wp2
  go_ret
  exact ⟨ret_int (M.ones_int n h0 h1), rfl⟩



theorem with_ok (u a n v : Int) (w : World) (hu : M.U u) (hv : M.U v) (hf : M.isF a n = true) (hl : v.toNat < 2 ^ n.toNat) :
    Calls Tryd.prog 9 #[.int .u64 u, .int .i64 a, .int .i64 n, .int .u64 v] w fun e w' => e = .returned (.tuple #[.int .u64 ((M.withN u.toNat a.toNat n.toNat v.toNat : Nat) : Int), .int .i64 0]) ∧ ∃ m, w.drewN m = w' := by
  obtain ⟨n1, n2, a1, a2⟩ := M.isF_iff.1 hf
  have u0 := hu.nn
  have v0 := hv.nn
  have hl2 : v ≤ ((2 ^ n.toNat - 1 : Nat) : Int) := by omega
  go_enter Tryd.func9, Tryd.ntmps9
  go_wp2_with (first | (go_at_call 14; refine (isField_any _ _ _).mono ?_; rintro e w' ⟨rfl, rfl⟩) | (go_at_call 15; refine (ones_any _ _ n1 n2).mono ?_; rintro e w' ⟨rfl, rfl⟩))
  go_quiet ((go_at_call 15; exact qs (ones_any _ _ n1 n2)))
  go_wp2
  go_ret2
  exact ⟨ret_int2 (M.with_int u a n v hu hv hf hl) rfl, _, rfl⟩

theorem with_long (u a n v : Int) (w : World) (hv : M.U v) (hf : M.isF a n = true) (hl : ¬ v.toNat < 2 ^ n.toNat) :
    Calls Tryd.prog 9 #[.int .u64 u, .int .i64 a, .int .i64 n, .int .u64 v] w fun e w' => e = .returned (.tuple #[.int .u64 0, .int .i64 14]) ∧ w = w' := by
  obtain ⟨n1, n2, a1, a2⟩ := M.isF_iff.1 hf
  have v0 := hv.nn
  have hp := Nat.two_pow_pos n.toNat
  have hl2 : ((2 ^ n.toNat - 1 : Nat) : Int) < v := by omega
  go_enter Tryd.func9, Tryd.ntmps9
  go_wp2_with (first | (go_at_call 14; refine (isField_any _ _ _).mono ?_; rintro e w' ⟨rfl, rfl⟩) | (go_at_call 15; refine (ones_any _ _ n1 n2).mono ?_; rintro e w' ⟨rfl, rfl⟩))
  go_ret2
  exact ⟨rfl, rfl⟩

theorem with_no (u a n v : Int) (w : World) (hf : M.isF a n = false) :
    Calls Tryd.prog 9 #[.int .u64 u, .int .i64 a, .int .i64 n, .int .u64 v] w fun e w' => e = .returned (.tuple #[.int .u64 0, .int .i64 2]) ∧ w = w' := by
  go_enter Tryd.func9, Tryd.ntmps9
  go_wp2_with (go_at_call 14; refine (isField_any _ _ _).mono ?_; rintro e w' ⟨rfl, rfl⟩)
  go_ret2
  exact ⟨rfl, rfl⟩

theorem refBit_any (u a : Int) (w : World) (u0 : 0 ≤ u) (hu : M.U u) (a0 : 0 ≤ a) (a1 : a ≤ 9223372036854775807) :
    Calls Tryd.prog 13 #[.int .u64 u, .int .i64 a] w fun e w' => e = .returned (.int .u64 ((M.bitN u.toNat a.toNat : Nat) : Int)) ∧ w = w' := by
  go_enter Tryd.func13, Tryd.ntmps13
  go_wp2
  go_loop [0, 5] (fun x i => ∃ k : Nat, (k : Int) ≤ a ∧ i = .int .i64 k ∧ x = .int .u64 (u / 2 ^ k)) (fun _ i => (a - intOf i).toNat)
  case atStart => exact ⟨0, by omega, rfl, by rw [Int.pow_zero, Int.ediv_one]⟩
  case round =>
    obtain ⟨k, hk, rfl, rfl⟩ := hrel
    obtain ⟨q0, q1⟩ := M.div_U u k hu
    by_cases hlt : (k : Int) < a
    · go_wp2
      go_round
      case rel => exact ⟨k + 1, by omega, by go_num, by rw [M.div_stepI]⟩
      case measure => simp [intOf]; omega
    · have hka : a.toNat = k := by omega
      have HK : Hid (a.toNat = k) := hka
      clear hka
      go_wp2
      go_ret
      exact ⟨ret_int (by rw [HK, M.bitN_I u k u0]), rfl⟩

theorem refBit_at (u a : Int) (b : Nat) (w : World) (u0 : 0 ≤ u) (hu : M.U u) (a0 : 0 ≤ a) (a1 : a ≤ 9223372036854775807) (hb : Hid (M.bitN u.toNat a.toNat = b)) :
    Calls Tryd.prog 13 #[.int .u64 u, .int .i64 a] w fun e w' => e = .returned (.int .u64 (b : Int)) ∧ w = w' := by
  rw [← hb.out]; exact refBit_any u a w u0 hu a0 a1




end Go.Proofs.YtiohhajljfindaaDoor
