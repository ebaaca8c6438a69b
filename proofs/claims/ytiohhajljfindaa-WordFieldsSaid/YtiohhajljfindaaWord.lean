/-
  Contracts of package word and of its reference.
-/
import Derived.Test.YtiohhajljfindaaRows
import Derived.Test.YtiohhajljfindaaMath
import Derived.Test.YtiohhajljfindaaBase
import Derived.WalkKit
import Derived.ProofKit
import Derived.OpenShut
import Derived.Deep.QuietTactic
import Derived.BigQuiet
import Derived.Deep.RegionWith
namespace Go.Proofs.Ytiohhajljfindaa
open Go.ChangeShapes Go.WideShapes Go.ChangeAt Go.RowKit

theorem isField_any (a n : Int) (w : World) :
    Calls Try.prog 18 #[.int .i64 a, .int .i64 n] w fun e w' => e = .returned (.bool (M.isF a n)) ∧ w = w' := by
  go_enter Try.func18, Try.ntmps18
  go_wp2
  all_goals (go_ret; refine ⟨?_, rfl⟩; first | exact M.isF_ret (by omega) | exact M.isF_no (by omega))

theorem refMay_any (a n : Int) (w : World) :
    Calls Try.prog 20 #[.int .i64 a, .int .i64 n] w fun e w' => e = .returned (.bool (M.isF a n)) ∧ w = w' := by
  go_enter Try.func20, Try.ntmps20
  go_wp2
  all_goals (go_ret; refine ⟨?_, rfl⟩; first | exact M.isF_ret (by omega) | exact M.isF_no (by omega))

theorem pair_any (h l : Int) (w : World) (h0 : 0 ≤ h) (h1 : h < 4294967296) (l0 : 0 ≤ l) (l1 : l < 4294967296) :
    Calls Try.prog 7 #[.int .u32 h, .int .u32 l] w fun e w' => e = .returned (.int .u64 (h * 4294967296 + l)) ∧ w = w' := by
  go_enter Try.func7, Try.ntmps7
  go_wp2
  go_ret
  exact ⟨ret_int (M.or_pair h l h0 h1 l0 l1), rfl⟩

theorem pair_back (u : Int) (w : World) (u0 : 0 ≤ u) (hu : M.U u) :
    Calls Try.prog 7 #[.int .u32 (u / 4294967296), .int .u32 (u % 4294967296)] w fun e w' => e = .returned (.int .u64 u) ∧ w = w' := by
  have u1 := hu.lt
  refine (pair_any _ _ _ (by omega) (by omega) (by omega) (by omega)).mono ?_
  rintro e w' ⟨rfl, rfl⟩
  exact ⟨ret_int (by omega), rfl⟩

theorem refPair_any (h l : Int) (w : World) (h0 : 0 ≤ h) (h1 : h < 4294967296) (l0 : 0 ≤ l) (l1 : l < 4294967296) :
    Calls Try.prog 9 #[.int .u32 h, .int .u32 l] w fun e w' => e = .returned (.int .u64 (h * 4294967296 + l)) ∧ w = w' := by
  go_enter Try.func9, Try.ntmps9
  go_wp2
  go_ret
  exact ⟨rfl, rfl⟩

theorem split_any (u : Int) (w : World) (h0 : 0 ≤ u) (hu : M.U u) :
    Calls Try.prog 8 #[.int .u64 u] w fun e w' => e = .returned (.tuple #[.int .u32 (u / 4294967296), .int .u32 (u % 4294967296)]) ∧ w = w' := by
  go_enter Try.func8, Try.ntmps8
  go_wp2
  go_ret2
  exact ⟨ret_int2 (M.hi_mod u hu) rfl, rfl⟩

theorem refHi_any (u : Int) (w : World) (h0 : 0 ≤ u) (hu : M.U u) :
    Calls Try.prog 10 #[.int .u64 u] w fun e w' => e = .returned (.int .u32 (u / 4294967296)) ∧ w = w' := by
  have hu1 := hu.lt
  go_enter Try.func10, Try.ntmps10
  go_wp2
  go_ret
  exact ⟨rfl, rfl⟩

theorem refLo_any (u : Int) (w : World) (h0 : 0 ≤ u) :
    Calls Try.prog 11 #[.int .u64 u] w fun e w' => e = .returned (.int .u32 (u % 4294967296)) ∧ w = w' := by
  go_enter Try.func11, Try.ntmps11
  go_wp2
  go_ret
  exact ⟨ret_int (by omega), rfl⟩

theorem ahead_any (a b : Int) (w : World) (a0 : 0 ≤ a) (a1 : a < 4294967296) (b0 : 0 ≤ b) (b1 : b < 4294967296) :
    Calls Try.prog 12 #[.int .u32 a, .int .u32 b] w fun e w' => e = .returned (.int .i64 (M.aheadI a b)) ∧ w = w' := by
  go_enter Try.func12, Try.ntmps12
  go_wp2
  go_ret
  exact ⟨ret_int (M.ahead_wrap a b), rfl⟩

theorem refAhead_any (a b : Int) (w : World) (a0 : 0 ≤ a) (a1 : a < 4294967296) (b0 : 0 ≤ b) (b1 : b < 4294967296) :
    Calls Try.prog 13 #[.int .u32 a, .int .u32 b] w fun e w' => e = .returned (.int .i64 (M.aheadI a b)) ∧ w = w' := by
  go_enter Try.func13, Try.ntmps13
  go_wp2
  all_goals (try go_wp2)
  all_goals (go_ret; refine ⟨ret_int ?_, rfl⟩; unfold M.aheadI; split <;> omega)

theorem ones_any (n : Int) (w : World) (h0 : 1 ≤ n) (h1 : n ≤ 64) :
    Calls Try.prog 19 #[.int .i64 n] w fun e w' => e = .returned (.int .u64 ((2 ^ n.toNat - 1 : Nat) : Int)) ∧ w = w' := by
  go_enter Try.func19, Try.ntmps19
  go_wp2
  go_ret
  exact ⟨ret_int (M.ones_int n h0 h1), rfl⟩

theorem field_ok (u a n : Int) (w : World) (hu : M.U u) (hf : M.isF a n = true) :
    Calls Try.prog 14 #[.int .u64 u, .int .i64 a, .int .i64 n] w fun e w' => e = .returned (.tuple #[.int .u64 ((M.fieldN u.toNat a.toNat n.toNat : Nat) : Int), .int .i64 0]) ∧ ∃ m, w.drewN m = w' := by
  obtain ⟨n1, n2, a1, a2⟩ := M.isF_iff.1 hf
  have u0 := hu.nn
  go_enter Try.func14, Try.ntmps14
  go_wp2_with (go_at_call 18; refine (isField_any _ _ _).mono ?_; rintro e w' ⟨rfl, rfl⟩)
  go_quiet ((go_at_call 19; exact qs (ones_any _ _ n1 n2)))
  go_wp2
  go_ret2
  exact ⟨ret_int2 (M.and_field u a n hu hf) rfl, _, rfl⟩

theorem field_no (u a n : Int) (w : World) (hf : M.isF a n = false) :
    Calls Try.prog 14 #[.int .u64 u, .int .i64 a, .int .i64 n] w fun e w' => e = .returned (.tuple #[.int .u64 0, .int .i64 2]) ∧ w = w' := by
  go_enter Try.func14, Try.ntmps14
  go_wp2_with (go_at_call 18; refine (isField_any _ _ _).mono ?_; rintro e w' ⟨rfl, rfl⟩)
  go_ret2
  exact ⟨rfl, rfl⟩

theorem with_ok (u a n v : Int) (w : World) (hu : M.U u) (hv : M.U v) (hf : M.isF a n = true) (hl : v.toNat < 2 ^ n.toNat) :
    Calls Try.prog 16 #[.int .u64 u, .int .i64 a, .int .i64 n, .int .u64 v] w fun e w' => e = .returned (.tuple #[.int .u64 ((M.withN u.toNat a.toNat n.toNat v.toNat : Nat) : Int), .int .i64 0]) ∧ ∃ m, w.drewN m = w' := by
  obtain ⟨n1, n2, a1, a2⟩ := M.isF_iff.1 hf
  have u0 := hu.nn
  have v0 := hv.nn
  have hl2 : v ≤ ((2 ^ n.toNat - 1 : Nat) : Int) := by omega
  go_enter Try.func16, Try.ntmps16
  go_wp2_with (first | (go_at_call 18; refine (isField_any _ _ _).mono ?_; rintro e w' ⟨rfl, rfl⟩) | (go_at_call 19; refine (ones_any _ _ n1 n2).mono ?_; rintro e w' ⟨rfl, rfl⟩))
  go_quiet ((go_at_call 19; exact qs (ones_any _ _ n1 n2)))
  go_wp2
  go_ret2
  exact ⟨ret_int2 (M.with_int u a n v hu hv hf hl) rfl, _, rfl⟩

theorem with_long (u a n v : Int) (w : World) (hv : M.U v) (hf : M.isF a n = true) (hl : ¬ v.toNat < 2 ^ n.toNat) :
    Calls Try.prog 16 #[.int .u64 u, .int .i64 a, .int .i64 n, .int .u64 v] w fun e w' => e = .returned (.tuple #[.int .u64 0, .int .i64 14]) ∧ w = w' := by
  obtain ⟨n1, n2, a1, a2⟩ := M.isF_iff.1 hf
  have v0 := hv.nn
  have hp := Nat.two_pow_pos n.toNat
  have hl2 : ((2 ^ n.toNat - 1 : Nat) : Int) < v := by omega
  go_enter Try.func16, Try.ntmps16
  go_wp2_with (first | (go_at_call 18; refine (isField_any _ _ _).mono ?_; rintro e w' ⟨rfl, rfl⟩) | (go_at_call 19; refine (ones_any _ _ n1 n2).mono ?_; rintro e w' ⟨rfl, rfl⟩))
  go_ret2
  exact ⟨rfl, rfl⟩

theorem with_no (u a n v : Int) (w : World) (hf : M.isF a n = false) :
    Calls Try.prog 16 #[.int .u64 u, .int .i64 a, .int .i64 n, .int .u64 v] w fun e w' => e = .returned (.tuple #[.int .u64 0, .int .i64 2]) ∧ w = w' := by
  go_enter Try.func16, Try.ntmps16
  go_wp2_with (go_at_call 18; refine (isField_any _ _ _).mono ?_; rintro e w' ⟨rfl, rfl⟩)
  go_ret2
  exact ⟨rfl, rfl⟩

theorem refBit_any (u a : Int) (w : World) (u0 : 0 ≤ u) (hu : M.U u) (a0 : 0 ≤ a) (a1 : a ≤ 9223372036854775807) :
    Calls Try.prog 21 #[.int .u64 u, .int .i64 a] w fun e w' => e = .returned (.int .u64 ((M.bitN u.toNat a.toNat : Nat) : Int)) ∧ w = w' := by
  go_enter Try.func21, Try.ntmps21
  go_wp2
  go_loop [0, 5] (fun x i => ∃ k : Nat, (k : Int) ≤ a ∧ i = .int .i64 k ∧ x = .int .u64 (u / 2 ^ k)) (fun _ i => (a - intOf i).toNat)
  case atStart => exact ⟨0, by omega, rfl, by rw [Int.pow_zero, Int.ediv_one]⟩
  case round =>
    obtain ⟨k, hk, rfl, rfl⟩ := hrel
    obtain ⟨q0, q1⟩ := M.div_U u k hu
    by_cases hlt : (k : Int) < a
    · go_wp2
      go_round
      case rel => exact ⟨k + 1, by omega, by go_num, by rw [M.div_stepI]⟩
      case measure => simp [intOf]; omega
    · have hka : a.toNat = k := by omega
      have HK : Hid (a.toNat = k) := hka
      clear hka
      go_wp2
      go_ret
      exact ⟨ret_int (by rw [HK, M.bitN_I u k u0]), rfl⟩

theorem refBit_at (u a : Int) (b : Nat) (w : World) (u0 : 0 ≤ u) (hu : M.U u) (a0 : 0 ≤ a) (a1 : a ≤ 9223372036854775807) (hb : Hid (M.bitN u.toNat a.toNat = b)) :
    Calls Try.prog 21 #[.int .u64 u, .int .i64 a] w fun e w' => e = .returned (.int .u64 (b : Int)) ∧ w = w' := by
  rw [← hb.out]; exact refBit_any u a w u0 hu a0 a1

set_option maxRecDepth 100000 in
theorem refField_ok (u a n : Int) (w : World) (hu : M.U u) (hf : M.isF a n = true) :
    Calls Try.prog 15 #[.int .u64 u, .int .i64 a, .int .i64 n] w fun e w' => e = .returned (.tuple #[.int .u64 ((M.fieldN u.toNat a.toNat n.toNat : Nat) : Int), .int .i64 0]) ∧ w = w' := by
  obtain ⟨n1, n2, a1, a2⟩ := M.isF_iff.1 hf
  have u0 := hu.nn
  go_enter Try.func15, Try.ntmps15
  go_wp2_with (go_at_call 20; refine (refMay_any _ _ _).mono ?_; rintro e w' ⟨rfl, rfl⟩)
  go_loop [8, 9] (fun x i => ∃ k : Nat, (k : Int) ≤ n ∧ i = .int .i64 (k - 1) ∧ x = .int .u64 (M.partI u (a.toNat + k) (n.toNat - k))) (fun _ i => (intOf i + 1).toNat)
  case atStart => exact ⟨n.toNat, by omega, by rw [show ((n.toNat : Nat) : Int) = n from by omega], by rw [Nat.sub_self, M.partI_zero]⟩
  case round =>
    obtain ⟨k, hk, rfl, hx⟩ := hrel
    by_cases hlt : 0 < k
    · obtain ⟨q, b, hq, p0, p1, b0, b1, hbit, hbk⟩ := M.part_round u a k n.toNat a1 hlt (by omega) (by omega)
      rw [hq] at hx
      subst hx
      have HB := Lib.hid hbk
      have HBit := Lib.hid hbit
      clear hbk hq hbit
      go_wp2_with (go_at_call 21; refine (refBit_any _ _ _ u0 hu (by omega) (by omega)).mono ?_; rw [HBit.out]; rintro e w' ⟨rfl, rfl⟩)
      go_round
      case rel => exact ⟨k - 1, by omega, by go_num, by rw [HB.out]⟩
      case measure => simp [intOf]; omega
    · obtain rfl : k = 0 := by omega
      subst hx
      go_wp2
      go_ret2
      exact ⟨ret_int2 (M.partI_field u a.toNat n.toNat) rfl, rfl⟩

theorem refField_no (u a n : Int) (w : World) (hf : M.isF a n = false) :
    Calls Try.prog 15 #[.int .u64 u, .int .i64 a, .int .i64 n] w fun e w' => e = .returned (.tuple #[.int .u64 0, .int .i64 2]) ∧ w = w' := by
  go_enter Try.func15, Try.ntmps15
  go_wp2_with (go_at_call 20; refine (refMay_any _ _ _).mono ?_; rintro e w' ⟨rfl, rfl⟩)
  go_ret2
  exact ⟨rfl, rfl⟩

theorem refWith_no (u a n v : Int) (w : World) (hf : M.isF a n = false) :
    Calls Try.prog 17 #[.int .u64 u, .int .i64 a, .int .i64 n, .int .u64 v] w fun e w' => e = .returned (.tuple #[.int .u64 0, .int .i64 2]) ∧ w = w' := by
  go_enter Try.func17, Try.ntmps17
  go_wp2_with (go_at_call 20; refine (refMay_any _ _ _).mono ?_; rintro e w' ⟨rfl, rfl⟩)
  go_ret2
  exact ⟨rfl, rfl⟩

theorem refWith_long (u a n v : Int) (w : World) (hv : M.U v) (hf : M.isF a n = true) (hl : ¬ v.toNat < 2 ^ n.toNat) :
    Calls Try.prog 17 #[.int .u64 u, .int .i64 a, .int .i64 n, .int .u64 v] w fun e w' => e = .returned (.tuple #[.int .u64 0, .int .i64 14]) ∧ w = w' := by
  obtain ⟨n1, n2, a1, a2⟩ := M.isF_iff.1 hf
  have v0 := hv.nn
  go_enter Try.func17, Try.ntmps17
  go_wp2_with (go_at_call 20; refine (refMay_any _ _ _).mono ?_; rintro e w' ⟨rfl, rfl⟩)
  go_loop [10] (fun i => ∃ k : Nat, n ≤ k ∧ k ≤ 64 ∧ i = .int .i64 k ∧ M.noBits v.toNat n.toNat k) (fun i => (64 - intOf i).toNat)
  case atStart => exact ⟨n.toNat, by omega, by omega, by rw [Int.toNat_of_nonneg (by omega)], M.noBits_start _ _⟩
  case round =>
    obtain ⟨k, hk, hk2, rfl, hn⟩ := hrel
    have hlt : k < 64 := M.noBits_room hv.nat hl hk2 hn
    by_cases hb : M.bitN v.toNat k = 1
    · go_wp2_with (go_at_call 21; refine (refBit_any _ _ _ v0 hv (by omega) (by omega)).mono ?_; rw [Int.toNat_natCast, hb]; rintro e w' ⟨rfl, rfl⟩)
      go_ret2
      exact ⟨rfl, rfl⟩
    · have hb0 := M.bitN_zero hb
      have HN := M.noBits_next hn hb
      go_wp2_with (go_at_call 21; refine (refBit_any _ _ _ v0 hv (by omega) (by omega)).mono ?_; rw [Int.toNat_natCast, hb0]; rintro e w' ⟨rfl, rfl⟩)
      go_round
      case rel => exact ⟨k + 1, by omega, by omega, by go_num, HN⟩
      case measure => simp [intOf]; omega

set_option maxHeartbeats 1000000 in
theorem refWith_ok (u a n v : Int) (w : World) (hu : M.U u) (hv : M.U v) (hf : M.isF a n = true) (hl : v.toNat < 2 ^ n.toNat) :
    Calls Try.prog 17 #[.int .u64 u, .int .i64 a, .int .i64 n, .int .u64 v] w fun e w' => e = .returned (.tuple #[.int .u64 ((M.withN u.toNat a.toNat n.toNat v.toNat : Nat) : Int), .int .i64 0]) ∧ w = w' := by
  obtain ⟨n1, n2, a1, a2⟩ := M.isF_iff.1 hf
  have v0 := hv.nn
  have u0 := hu.nn
  go_enter Try.func17, Try.ntmps17
  go_wp2_with (go_at_call 20; refine (refMay_any _ _ _).mono ?_; rintro e w' ⟨rfl, rfl⟩)
  go_loop [10] (fun i => ∃ k : Nat, n ≤ k ∧ k ≤ 64 ∧ i = .int .i64 k) (fun i => (64 - intOf i).toNat)
  case atStart => exact ⟨n.toNat, by omega, by omega, by rw [Int.toNat_of_nonneg (by omega)]⟩
  case round =>
    obtain ⟨k, hk, hk2, rfl⟩ := hrel
    by_cases hlt : (k : Int) < 64
    · have hb0 := M.bits_of_lt v.toNat n.toNat k hl (by omega)
      go_wp2_with (go_at_call 21; refine (refBit_any _ _ _ v0 hv (by omega) (by omega)).mono ?_; rw [Int.toNat_natCast, hb0]; rintro e w' ⟨rfl, rfl⟩)
      go_round
      case rel => exact ⟨k + 1, by omega, by omega, by go_num⟩
      case measure => simp [intOf]; omega
    · obtain rfl : k = 64 := by omega
      clear hk hk2 hlt
      have hW := M.withN_lt u.toNat a.toNat n.toNat v.toNat hu.nat hl (by omega)
      go_wp2
      go_loop [11, 12] (fun x i => ∃ k : Nat, k ≤ 64 ∧ i = .int .i64 (k - 1) ∧ x = .int .u64 (M.wordI u a n v k)) (fun _ i => (intOf i + 1).toNat)
      case atStart => exact ⟨64, by omega, rfl, by rw [M.wordI_top u a n v hW]⟩
      case round =>
        obtain ⟨k, hk, rfl, hx⟩ := hrel
        by_cases hlt : 0 < k
        · obtain ⟨q, b, hq, p0, p1, hbit, hback⟩ := M.word_round u a n v k a1 n1 hl hW hlt hk
          rw [hq] at hx
          subst hx
          have HB := Lib.hid hback
          have HW := Lib.hid hW
          clear hback hq hW hl
          by_cases hin : a ≤ (k : Int) - 1 ∧ (k : Int) - 1 < a + n
          · obtain ⟨i1, i2⟩ := hin
            rw [if_pos ⟨i1, i2⟩] at hbit
            have b1 := M.bitN_lt v.toNat ((k : Int) - 1 - a).toNat
            have b2 := M.bitN_lt u.toNat ((k : Int) - 1).toNat
            obtain ⟨c, hc⟩ : ∃ c : Nat, M.bitN u.toNat ((k : Int) - 1).toNat = c := ⟨_, rfl⟩
            rw [hbit] at b1
            have HBit := Lib.hid hbit
            have HC := Lib.hid hc
            clear hbit hc b2
            go_wp2_with fail
            refine (refBit_at u ((k : Int) - 1) c _ u0 hu (by omega) (by omega) HC).mono ?_
            rintro e w' ⟨rfl, rfl⟩
            go_wp2_with fail
            refine (refBit_at v ((k : Int) - 1 - a) b _ v0 hv (by omega) (by omega) HBit).mono ?_
            rintro e w' ⟨rfl, rfl⟩
            go_wp2
            go_round
            case rel => exact ⟨k - 1, by omega, by go_num, by rw [HB.out]⟩
            case measure => simp [intOf]; omega
          · rw [if_neg hin] at hbit
            have b1 := M.bitN_lt u.toNat ((k : Int) - 1).toNat
            rw [hbit] at b1
            have HBit := Lib.hid hbit
            clear hbit
            go_wp2_with fail
            refine (refBit_at u ((k : Int) - 1) b _ u0 hu (by omega) (by omega) HBit).mono ?_
            rintro e w' ⟨rfl, rfl⟩
            by_cases hge : a ≤ (k : Int) - 1
            · have hlt2 : ¬ (k : Int) - 1 < a + n := fun h => hin ⟨hge, h⟩
              clear hin
              go_wp2
              go_round
              case rel => exact ⟨k - 1, by omega, by go_num, by rw [HB.out]⟩
              case measure => simp [intOf]; omega
            · clear hin
              go_wp2
              go_round
              case rel => exact ⟨k - 1, by omega, by go_num, by rw [HB.out]⟩
              case measure => simp [intOf]; omega
        · obtain rfl : k = 0 := by omega
          subst hx
          go_wp2
          go_ret2
          exact ⟨ret_int2 (M.wordI_end u a n v) rfl, rfl⟩

end Go.Proofs.Ytiohhajljfindaa
