/-
  Contracts: a parker's Look.
-/
import Derived.Test.YtgononhihpkagaaPkQ
import Derived.Test.YtgononhihpkagaaMem
import Derived.Test.YtgononhihpkagaaAcs
namespace Go.Proofs.Ytgononhihpkagaa
set_option maxRecDepth 100000
set_option linter.unusedSimpArgs false
set_option linter.unusedVariables false
open Go.ChangeShapes Go.WideShapes Go.ChangeAt Go.RowKit

theorem pkLook_nil (at_ : Int) (w : World) :
    Calls Try.prog 16 #[.agg #[.int .i64 at_], .pointer none] w fun e w' => e = .returned (.tuple #[.int .u32 0, .bool false, .int .i64 1]) ∧ Keeps [] w w' := by
  go_enter Try.func16, Try.ntmps16
  go_wp2
  go_ret3
  exact ⟨rfl, (Keeps.refl _ _).alloc _⟩
theorem pkLook_arg (at_ : Int) (m : Nat) (w : World) (hr : ¬ pkRight at_) :
    Calls Try.prog 16 #[.agg #[.int .i64 at_], .pointer (some ⟨m, 0, none⟩)] w fun e w' => e = .returned (.tuple #[.int .u32 0, .bool false, .int .i64 2]) ∧ Keeps [] w w' := by
  have HR := Lib.hid (fun W => pkRight_any at_ W)
  rw [decide_eq_false hr] at HR
  obtain ⟨W1, hW1⟩ : ∃ W1, w.alloc (.cells #[.int .i64 at_] 23) = W1 := ⟨_, rfl⟩
  have hb : Box W1 w.heap.size #[.int .i64 at_] := by rw [← hW1]; exact Box.new _ _ _
  have HK : Hid (Keeps [] w W1) := Lib.hid (by rw [← hW1]; exact (Keeps.refl _ _).alloc _)
  have c0 := hb.cells 0
  simp at c0
  clear hb hr
  go_enter Try.func16, Try.ntmps16
  go_wp2_with fail
  refine (HR.out _).mono ?_
  rintro e w1 ⟨rfl, k1⟩
  have HK1 := Lib.hid k1
  clear k1
  go_wp2
  go_ret3
  exact ⟨rfl, HK.out.trans HK1.out⟩
theorem pkLook_place (at_ : Int) (m b : Nat) (us : List Int) (w : World) (hM : Mem w m b us) (hr : pkRight at_) (hp : (us.length : Int) ≤ at_) :
    Calls Try.prog 16 #[.agg #[.int .i64 at_], .pointer (some ⟨m, 0, none⟩)] w fun e w' => e = .returned (.tuple #[.int .u32 0, .bool false, .int .i64 3]) ∧ Mem w' m b us ∧ Keeps [b] w w' := by
  have HR := Lib.hid (fun W => pkRight_any at_ W)
  rw [decide_eq_true hr] at HR
  obtain ⟨W1, hW1⟩ : ∃ W1, w.alloc (.cells #[.int .i64 at_] 23) = W1 := ⟨_, rfl⟩
  have hb : Box W1 w.heap.size #[.int .i64 at_] := by rw [← hW1]; exact Box.new _ _ _
  have hk1 : Keeps [] w W1 := by rw [← hW1]; exact (Keeps.refl _ _).alloc _
  have HK := Lib.hid hk1
  have HM := Lib.hid (hM.keeps hk1 (by simp) (by simp))
  have c0 := hb.cells 0
  simp at c0
  have HB := Lib.hid hb
  have U0 : M.U 0 := ⟨by decide, by decide⟩
  have hcode : C.code us ⟨1, at_, 0, 0⟩ = 3 := by simp only [C.code]; rw [if_neg (by omega), if_pos (.inr hp)]
  have HD := Lib.hid (fun W h => do_any m b us ⟨1, at_, 0, 0⟩ W h ⟨U0, U0⟩)
  rw [C.told, C.won, C.next, hcode] at HD
  simp only [show ¬ (3 : Int) = 0 by decide, if_false] at HD
  clear hb hk1 hM hp hr hcode
  go_enter Try.func16, Try.ntmps16
  go_wp2_with fail
  refine (HR.out _).mono ?_
  rintro e w1 ⟨rfl, k1⟩
  have b1 := HB.out.keeps k1 (by simp)
  have e0 := b1.cells 0
  simp at e0
  have HM1 := Lib.hid (HM.out.keeps k1 (by simp) (by simp))
  have HK1 := Lib.hid (HK.out.trans k1)
  clear k1 b1
  go_wp2_with fail
  refine (HD.out _ HM1.out).mono ?_
  rintro e w2 ⟨rfl, hm, hk⟩
  have HP := Lib.hid (⟨hm, (HK1.out.mono (by simp)).trans hk⟩ : _ ∧ Keeps [b] w _)
  clear hm hk
  go_wp2
  go_ret3
  exact ⟨rfl, HP.out⟩

set_option maxHeartbeats 1600000 in
theorem pkLook_fine (at_ : Int) (m b : Nat) (us : List Int) (w : World) (hM : Mem w m b us) (hr : pkRight at_) (hp : at_ < us.length) :
    Calls Try.prog 16 #[.agg #[.int .i64 at_], .pointer (some ⟨m, 0, none⟩)] w fun e w' =>
      e = .returned (.tuple #[.int .u32 (us.getD at_.toNat 0 / 4294967296), .bool (us.getD at_.toNat 0 % 2 == 1), .int .i64 0]) ∧ Mem w' m b us ∧ Keeps [b] w w' := by
  have HR := Lib.hid (fun W => pkRight_any at_ W)
  rw [decide_eq_true hr] at HR
  obtain ⟨W1, hW1⟩ : ∃ W1, w.alloc (.cells #[.int .i64 at_] 23) = W1 := ⟨_, rfl⟩
  have hb : Box W1 w.heap.size #[.int .i64 at_] := by rw [← hW1]; exact Box.new _ _ _
  have hk1 : Keeps [] w W1 := by rw [← hW1]; exact (Keeps.refl _ _).alloc _
  have HK := Lib.hid hk1
  have HM := Lib.hid (hM.keeps hk1 (by simp) (by simp))
  have c0 := hb.cells 0
  simp at c0
  have HB := Lib.hid hb
  have U0 : M.U 0 := ⟨by decide, by decide⟩
  obtain ⟨r3, r4⟩ := hr
  obtain ⟨a, rfl⟩ := Int.eq_ofNat_of_zero_le r3
  have hlt : a < us.length := by omega
  obtain ⟨l1, l2, l3⟩ := C.load_at us a hlt 0 0
  have HD := Lib.hid (fun W h => do_any m b us ⟨1, (a : Int), 0, 0⟩ W h ⟨U0, U0⟩)
  rw [l1, l2, l3] at HD
  simp only [Int.toNat_natCast]
  have hxU : M.U (us.getD a 0) := (hM.word hlt).2.2
  obtain ⟨x, hx⟩ : ∃ x, us.getD a 0 = x := ⟨_, rfl⟩
  rw [hx] at HD hxU ⊢
  have u0 := hxU.nn
  have u1 := hxU.lt
  have HSp := Lib.hid (fun W => split_any x W u0 hxU)
  obtain ⟨q, hq⟩ : ∃ q : Int, x / 4294967296 = q := ⟨_, rfl⟩
  obtain ⟨r, hr⟩ : ∃ r : Int, x % 4294967296 = r := ⟨_, rfl⟩
  have hl := pk_low r (by omega) (by omega)
  have e2 : r % 2 = x % 2 := by omega
  rw [e2] at hl
  obtain ⟨y, hy⟩ : ∃ y : Int, x % 2 = y := ⟨_, rfl⟩
  have y2 : y = 0 ∨ y = 1 := by omega
  have hd : (y != 0) = (y == 1) := by rcases y2 with rfl | rfl <;> rfl
  rw [hq, hr] at HSp
  rw [hq, hy]
  rw [hy] at hl
  obtain ⟨wn, hwn⟩ : ∃ wn, C.won us ⟨1, (a : Int), 0, 0⟩ = wn := ⟨_, rfl⟩
  rw [hwn] at HD
  obtain ⟨t, ht⟩ : ∃ t, (y == 1) = t := ⟨_, rfl⟩
  rw [ht] at hd ⊢
  clear hwn l1 l2 l3 hq hx u0 u1 hr e2 hy y2 ht
  clear hb hk1 hp
  go_enter Try.func16, Try.ntmps16
  go_wp2_with fail
  refine (HR.out _).mono ?_
  rintro e w1 ⟨rfl, k1⟩
  have b1 := HB.out.keeps k1 (by simp)
  have e0 := b1.cells 0
  simp at e0
  have HM1 := Lib.hid (HM.out.keeps k1 (by simp) (by simp))
  have HK1 := Lib.hid (HK.out.trans k1)
  clear k1
  go_wp2_with fail
  refine (HD.out _ HM1.out).mono ?_
  rintro e w2 ⟨rfl, hm, hk⟩
  have HP := Lib.hid (⟨hm, (HK1.out.mono (by simp)).trans hk⟩ : _ ∧ Keeps [b] w _)
  clear hm hk b1
  go_wp2_with fail
  refine (HSp.out _).mono ?_
  rintro e w3 ⟨rfl, rfl⟩
  go_wp2
  go_ret3
  exact ⟨rfl, HP.out⟩
end Go.Proofs.Ytgononhihpkagaa
