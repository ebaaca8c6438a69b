/-
  Contracts: a yard's Look, and the document's Right and Idle.
-/
import Derived.Test.YtamcfobgmpgbeaaDoorIdQ
import Derived.Test.YtamcfobgmpgbeaaDoorMem
import Derived.Test.YtamcfobgmpgbeaaDoorAcs
namespace Go.Proofs.YtamcfobgmpgbeaaDoor
set_option maxRecDepth 100000
set_option linter.unusedSimpArgs false
set_option linter.unusedVariables false
open Go.ChangeShapes Go.WideShapes Go.ChangeAt Go.RowKit

theorem idLook_nil (at_ n : Int) (w : World) :
    Calls Tryd.prog 8 #[.agg #[.int .i64 at_, .int .i64 n], .pointer none] w fun e w' => e = .returned (.tuple #[.int .i64 0, .slice none 0 0, .int .i64 1]) ∧ Keeps [] w w' := by
  go_enter Tryd.func8, Tryd.ntmps8
  go_wp2
  go_ret3
  exact ⟨rfl, (Keeps.refl _ _).alloc _⟩
theorem idLook_arg (at_ n : Int) (m : Nat) (w : World) (hr : ¬ idRight at_ n) :
    Calls Tryd.prog 8 #[.agg #[.int .i64 at_, .int .i64 n], .pointer (some ⟨m, 0, none⟩)] w fun e w' => e = .returned (.tuple #[.int .i64 0, .slice none 0 0, .int .i64 2]) ∧ Keeps [] w w' := by
  have HR := Lib.hid (fun W => idRight_any at_ n W)
  rw [decide_eq_false hr] at HR
  obtain ⟨W1, hW1⟩ : ∃ W1, w.alloc (.cells #[.int .i64 at_, .int .i64 n] 24) = W1 := ⟨_, rfl⟩
  have hb : Box W1 w.heap.size #[.int .i64 at_, .int .i64 n] := by rw [← hW1]; exact Box.new _ _ _
  have HK : Hid (Keeps [] w W1) := Lib.hid (by rw [← hW1]; exact (Keeps.refl _ _).alloc _)
  have c0 := hb.cells 0
  have c1 := hb.cells 1
  clear hb hr
  go_enter Tryd.func8, Tryd.ntmps8
  go_wp2_with fail
  refine (HR.out _).mono ?_
  rintro e w1 ⟨rfl, k1⟩
  have HK1 := Lib.hid k1
  clear k1
  go_wp2
  go_ret3
  exact ⟨rfl, HK.out.trans HK1.out⟩
theorem idLook_place (at_ n : Int) (m b : Nat) (us : List Int) (w : World) (hM : Mem w m b us) (hr : idRight at_ n) (hp : (us.length : Int) ≤ at_) :
    Calls Tryd.prog 8 #[.agg #[.int .i64 at_, .int .i64 n], .pointer (some ⟨m, 0, none⟩)] w fun e w' => e = .returned (.tuple #[.int .i64 0, .slice none 0 0, .int .i64 3]) ∧ Mem w' m b us ∧ Keeps [b] w w' := by
  have HR := Lib.hid (fun W => idRight_any at_ n W)
  rw [decide_eq_true hr] at HR
  obtain ⟨W1, hW1⟩ : ∃ W1, w.alloc (.cells #[.int .i64 at_, .int .i64 n] 24) = W1 := ⟨_, rfl⟩
  have hb : Box W1 w.heap.size #[.int .i64 at_, .int .i64 n] := by rw [← hW1]; exact Box.new _ _ _
  have hk1 : Keeps [] w W1 := by rw [← hW1]; exact (Keeps.refl _ _).alloc _
  have HK := Lib.hid hk1
  have HM := Lib.hid (hM.keeps hk1 (by simp) (by simp))
  have c0 := hb.cells 0
  have c1 := hb.cells 1
  have HB := Lib.hid hb
  have U0 : M.U 0 := ⟨by decide, by decide⟩
  have hcode : C.code us ⟨1, at_, 0, 0⟩ = 3 := by simp only [C.code]; rw [if_neg (by omega), if_pos (.inr hp)]
  have HD := Lib.hid (fun W h => do_any m b us ⟨1, at_, 0, 0⟩ W h ⟨U0, U0⟩)
  rw [C.told, C.won, C.next, hcode] at HD
  simp only [show ¬ (3 : Int) = 0 by decide, if_false] at HD
  clear hb hk1 hM hp hr hcode
  go_enter Tryd.func8, Tryd.ntmps8
  go_wp2_with fail
  refine (HR.out _).mono ?_
  rintro e w1 ⟨rfl, k1⟩
  have b1 := HB.out.keeps k1 (by simp)
  have e0 := b1.cells 0
  have e1 := b1.cells 1
  have HM1 := Lib.hid (HM.out.keeps k1 (by simp) (by simp))
  have HK1 := Lib.hid (HK.out.trans k1)
  clear k1 b1
  go_wp2_with fail
  refine (HD.out _ HM1.out).mono ?_
  rintro e w2 ⟨rfl, hm, hk⟩
  have HP := Lib.hid (⟨hm, (HK1.out.mono (by simp)).trans hk⟩ : _ ∧ Keeps [b] w _)
  clear hm hk
  go_wp2
  go_ret3
  exact ⟨rfl, HP.out⟩

set_option maxHeartbeats 1600000 in
theorem idLook_fine (at_ n : Int) (m b : Nat) (us : List Int) (w : World) (hM : Mem w m b us) (hr : idRight at_ n) (hp : at_ < us.length) (hA : Amb w) (hbA : ¬ AmbAt b) :
    Calls Tryd.prog 8 #[.agg #[.int .i64 at_, .int .i64 n], .pointer (some ⟨m, 0, none⟩)] w fun e w' => ∃ v,
      e = .returned (.tuple #[.int .i64 (us.getD at_.toNat 0 / 4294967296), v, .int .i64 0]) ∧ Sl w' 1 v (M.places (M.fieldN (us.getD at_.toNat 0).toNat 0 n.toNat)).length (ints .i64 (placesI (M.places (M.fieldN (us.getD at_.toNat 0).toNat 0 n.toNat)))) ∧ Mem w' m b us ∧ Keeps [b] w w' := by
  have HR := Lib.hid (fun W => idRight_any at_ n W)
  rw [decide_eq_true hr] at HR
  obtain ⟨W1, hW1⟩ : ∃ W1, w.alloc (.cells #[.int .i64 at_, .int .i64 n] 24) = W1 := ⟨_, rfl⟩
  have hb : Box W1 w.heap.size #[.int .i64 at_, .int .i64 n] := by rw [← hW1]; exact Box.new _ _ _
  have hk1 : Keeps [] w W1 := by rw [← hW1]; exact (Keeps.refl _ _).alloc _
  have HK := Lib.hid hk1
  have HM := Lib.hid (hM.keeps hk1 (by simp) (by simp))
  have c0 := hb.cells 0
  have c1 := hb.cells 1
  have HB := Lib.hid hb
  have U0 : M.U 0 := ⟨by decide, by decide⟩
  obtain ⟨r1, r2, r3, r4⟩ := hr
  obtain ⟨a, rfl⟩ := Int.eq_ofNat_of_zero_le r3
  have hlt : a < us.length := by omega
  obtain ⟨l1, l2, l3⟩ := C.load_at us a hlt 0 0
  have hwon : C.won us ⟨1, (a : Int), 0, 0⟩ = true ∨ C.won us ⟨1, (a : Int), 0, 0⟩ = false := by cases C.won us ⟨1, (a : Int), 0, 0⟩ <;> simp
  have HD := Lib.hid (fun W h => do_any m b us ⟨1, (a : Int), 0, 0⟩ W h ⟨U0, U0⟩)
  rw [l1, l2, l3] at HD
  simp only [Int.toNat_natCast]
  have hxU : M.U (us.getD a 0) := (hM.word hlt).2.2
  obtain ⟨x, hx⟩ : ∃ x, us.getD a 0 = x := ⟨_, rfl⟩
  rw [hx] at HD hxU ⊢
  have HSe := Lib.hid (fun W => searching_any x W hxU)
  have HI := Lib.hid (fun W => idleOf_any (a : Int) n x W hxU r1 r2)
  obtain ⟨f, hf⟩ : ∃ f : Nat, M.fieldN x.toNat 0 n.toNat = f := ⟨_, rfl⟩
  rw [hf] at HI ⊢
  have hfU : M.U (f : Int) := M.U.of _ (by rw [← hf]; exact Nat.lt_of_lt_of_le (M.fieldN_lt _ _ _) (Nat.pow_le_pow_right (by decide) (by omega)))
  have HA := Lib.hid (hA.keeps hk1 (by simp))
  have HBi := Lib.hid (fun W (hA : Amb W) => bits_any (f : Int) W hfU.nn hfU hA.2 hA.1)
  rw [Int.toNat_natCast] at HBi
  obtain ⟨q, hq⟩ : ∃ q : Int, x / 4294967296 = q := ⟨_, rfl⟩
  have u0 := hxU.nn
  have u1 := hxU.lt
  have q0 : 0 ≤ q := by omega
  have q1 : q < 4294967296 := by omega
  rw [hq] at HSe ⊢
  have wq : IntKind.i64.wrap q = q := by rw [IntKind.wrap_i64]; omega
  have HbA := Lib.hid hbA
  obtain ⟨wn, hwn⟩ : ∃ wn, C.won us ⟨1, (a : Int), 0, 0⟩ = wn := ⟨_, rfl⟩
  rw [hwn] at HD
  clear hwon hwn l1 l2 l3 hf hq hx hA hbA u0 u1
  clear hb hk1 hp
  go_enter Tryd.func8, Tryd.ntmps8
  go_wp2_with fail
  refine (HR.out _).mono ?_
  rintro e w1 ⟨rfl, k1⟩
  have b1 := HB.out.keeps k1 (by simp)
  have e0 := b1.cells 0
  have e1 := b1.cells 1
  have HM1 := Lib.hid (HM.out.keeps k1 (by simp) (by simp))
  have HK1 := Lib.hid (HK.out.trans k1)
  have HA1 := Lib.hid (HA.out.keeps k1 (by simp))
  clear k1
  go_wp2_with fail
  refine (HD.out _ HM1.out).mono ?_
  rintro e w2 ⟨rfl, hm, hk⟩
  have hbw : w.heap.size ≠ b := fun h => by have := HM1.out.lt; have := hM.lt; omega
  have b2 := b1.keeps hk (by simp; omega)
  have HS : Hid (∀ W, Keeps [] w2 W → W.cell? ⟨w.heap.size, 0, none⟩ = some (.int .i64 (a : Int)) ∧ W.cell? ⟨w.heap.size, 1, none⟩ = some (.int .i64 n)) :=
    Lib.hid (fun W hk => ⟨(b2.keeps hk (by simp)).cells 0, (b2.keeps hk (by simp)).cells 1⟩)
  obtain ⟨c20, c21⟩ := HS.out w2 (Keeps.refl _ _)
  have HA2 := Lib.hid (HA1.out.keeps hk (by simpa using HbA.out))
  have HP := Lib.hid (⟨hm, (HK1.out.mono (by simp)).trans hk⟩ : _ ∧ Keeps [b] w _)
  clear hm hk b1 b2
  go_wp2
  go_region_held3 (fun w' => w'.cell? ⟨w.heap.size, 0, none⟩ = some (.int .i64 (a : Int)) ∧ w'.cell? ⟨w.heap.size, 1, none⟩ = some (.int .i64 n))
    (first
      | exact HS.out _ hk5
      | exact HS.out _ hk4
      | exact HS.out _ hk3
      | exact HS.out _ ((Keeps.refl [] w2).drew)
      | exact ⟨by assumption, by assumption⟩
      | fail)
    (first
      | (go_at_call 26; refine (HSe.out _).mono ?_; rintro e2 w3 ⟨rfl, hw3⟩; have hk3 : Keeps [] w2 w3 := by rw [← hw3]; exact (Keeps.refl [] w2).drew)
      | (go_at_call 28; refine (HI.out _).mono ?_; rintro e2 w4 ⟨rfl, k4⟩; have hk4 : Keeps [] w2 w4 := by first | exact hk3.trans k4 | exact k4.undrew)
      | (go_at_call 27; refine (HBi.out _ (HA2.out.keeps hk4 (by simp))).mono ?_; rintro e2 w5 ⟨vB, rfl, sB, k5⟩; have hk5 : Keeps [] w2 w5 := hk4.trans (Keeps.of_below k5 (Nat.le_refl _)))
      | fail)
  all_goals go_wp2
  all_goals go_ret3
  all_goals simp only [wq]
  all_goals exact ⟨_, rfl, sB, HP.out.1.keeps hk5 (by simp) (by simp), HP.out.2.trans (hk5.mono (by simp))⟩
theorem refRight10_any (at_ n : Int) (w : World) :
    Calls Tryd.prog 9 #[.int .i64 at_, .int .i64 n] w fun e w' => e = .returned (.bool (decide (idRight at_ n))) ∧ w = w' := by
  have hD : decide (idRight at_ n) = (decide (1 ≤ n) && decide (n ≤ 16) && decide (0 ≤ at_) && decide (at_ ≤ 65535)) := by
    by_cases e1 : 1 ≤ n <;> by_cases e2 : n ≤ 16 <;> by_cases e3 : 0 ≤ at_ <;> by_cases e4 : at_ < 65536 <;> simp [idRight, e1, e2, e3, e4] <;> omega
  rw [hD]
  clear hD
  have d1 : decide (1 ≤ n) = false ∨ decide (1 ≤ n) = true := by cases decide (1 ≤ n) <;> simp
  have d2 : decide (n ≤ 16) = false ∨ decide (n ≤ 16) = true := by cases decide (n ≤ 16) <;> simp
  have d3 : decide (0 ≤ at_) = false ∨ decide (0 ≤ at_) = true := by cases decide (0 ≤ at_) <;> simp
  have d4 : decide (at_ ≤ 65535) = false ∨ decide (at_ ≤ 65535) = true := by cases decide (at_ ≤ 65535) <;> simp
  rcases d1 with d1 | d1 <;> rcases d2 with d2 | d2 <;> rcases d3 with d3 | d3 <;> rcases d4 with d4 | d4
  all_goals (
    have HD := Lib.hid (⟨d1, d2, d3, d4⟩ : _ ∧ _ ∧ _ ∧ _)
    go_enter Tryd.func9, Tryd.ntmps9
    go_wp2
    go_ret
    obtain ⟨d1, d2, d3, d4⟩ := HD.out
    refine ⟨?_, rfl⟩
    rw [d1, d2, d3, d4]
    rfl)
theorem refPower_any (k : Nat) (w : World) (hk : k ≤ 31) :
    Calls Tryd.prog 30 #[.int .i64 (k : Int)] w fun e w' => e = .returned (.int .u32 ((2 ^ k : Nat) : Int)) ∧ w = w' := by
  go_enter Tryd.func30, Tryd.ntmps30
  go_wp2
  go_loop [3, 4] (fun x i => ∃ (j : Nat) (q : Int), j ≤ k ∧ i = .int .i64 j ∧ x = .int .u32 q ∧ Hid (q = ((2 ^ j : Nat) : Int))) (fun _ i => ((k : Int) - intOf i).toNat)
  case atStart => exact ⟨0, 1, by omega, rfl, rfl, Lib.hid (by simp)⟩
  case round =>
    obtain ⟨j, q, hj, rfl, rfl, HQ⟩ := hrel
    by_cases hlt : j < k
    · have q2 : 2 * q = ((2 ^ (j + 1) : Nat) : Int) := by rw [HQ.out, Nat.pow_succ]; simp; omega
      have q3 : 2 ^ (j + 1) ≤ 2 ^ 31 := Nat.pow_le_pow_right (by decide) (by omega)
      have q4 : 0 ≤ q := by rw [HQ.out]; exact Int.natCast_nonneg _
      have HQ2 := Lib.hid q2
      have q5 : 2 * q ≤ 2147483648 := by
        rw [q2]
        have := Int.ofNat_le.2 q3
        simpa using this
      clear q2 q3
      go_wp2
      go_round
      case rel => exact ⟨j + 1, 2 * q, by omega, by go_num, rfl, HQ2⟩
      case measure => simp [intOf]; omega
    · obtain rfl : k = j := by omega
      go_wp2
      go_ret
      exact ⟨ret_int HQ.out, rfl⟩
theorem refIdle_any (x : Int) (k : Nat) (w : World) (hx : M.U x) (hk : k ≤ 31) :
    Calls Tryd.prog 10 #[.int .u64 x, .int .i64 (k : Int)] w fun e w' => e = .returned (.bool (x.toNat.testBit k)) ∧ w = w' := by
  have HL := Lib.hid (fun W => refLo_any x W hx.nn)
  have HP := Lib.hid (fun W => refPower_any k W hk)
  obtain ⟨y, rfl⟩ := Int.eq_ofNat_of_zero_le hx.nn
  obtain ⟨q, hq⟩ : ∃ q : Int, ((2 ^ k : Nat) : Int) = q := ⟨_, rfl⟩
  obtain ⟨lo, hlo⟩ : ∃ lo : Int, (y : Int) % 4294967296 = lo := ⟨_, rfl⟩
  have q0 : 0 < q := by rw [← hq]; exact Int.ofNat_lt.2 (Nat.two_pow_pos k)
  have l0 : 0 ≤ lo := by omega
  have l1 : lo < 4294967296 := by omega
  have hbit : decide (lo / q % 2 = 1) = y.testBit k := by
    rw [M.bit_odd, ← hq, ← hlo]
    have e1 : (y : Int) % 4294967296 / ((2 ^ k : Nat) : Int) = ((y % 4294967296 / 2 ^ k : Nat) : Int) := by simp
    have e2 : y % 4294967296 / 2 ^ k % 2 = y / 2 ^ k % 2 := by
      have h1 : (y % 2 ^ 32).testBit k = y.testBit k := by rw [Nat.testBit_mod_two_pow]; simp; omega
      rw [M.bit_odd, M.bit_odd] at h1
      have h2 := Nat.mod_two_eq_zero_or_one (y % 4294967296 / 2 ^ k)
      have h3 := Nat.mod_two_eq_zero_or_one (y / 2 ^ k)
      rw [decide_eq_decide] at h1
      simp only [show (2 : Nat) ^ 32 = 4294967296 from rfl] at h1
      omega
    rw [e1, decide_eq_decide, ← e2]
    omega
  have hbit2 : ((lo / q).tmod 2 == 1) = y.testBit k := by
    rw [← hbit, Int.tmod_eq_emod_of_nonneg (Int.ediv_nonneg l0 (by omega))]
    by_cases h : lo / q % 2 = 1 <;> simp [h]
  have HBt := Lib.hid hbit2
  rw [hq] at HP
  rw [hlo] at HL
  rw [Int.toNat_natCast]
  clear hbit hbit2 hq hlo
  go_enter Tryd.func10, Tryd.ntmps10
  go_wp2_with fail
  refine (HL.out _).mono ?_
  rintro e w1 ⟨rfl, rfl⟩
  go_wp2_with fail
  refine (HP.out _).mono ?_
  rintro e w1 ⟨rfl, rfl⟩
  go_wp2
  go_ret
  exact ⟨ret_bool HBt.out, rfl⟩
end Go.Proofs.YtamcfobgmpgbeaaDoor
