/-
  Contracts: how the document's frames of an arena are made.
-/
import Derived.Test.YtgpfknoddljopaaRef6
namespace Go.Proofs.Ytgpfknoddljopaa
set_option maxRecDepth 100000
open Go.ChangeShapes Go.WideShapes Go.ChangeAt Go.RowKit

theorem refRight_any (at_ n : Int) (w : World) :
    Calls Try.prog 9 #[.int .i64 at_, .int .i64 n] w fun e w' => e = .returned (.bool (decide (arRight at_ n))) ∧ w = w' := by
  by_cases h1 : n < 1
  · have HD : Hid (decide (arRight at_ n) = false) := Lib.hid (decide_eq_false fun h => by have := h.1; omega)
    rw [HD.out]
    go_enter Try.func9, Try.ntmps9
    go_wp2
    go_ret
    exact ⟨rfl, rfl⟩
  have d1 : decide ((1 : Int) ≤ n) = true := decide_eq_true (by omega)
  by_cases h2 : 4096 < n
  · have HD : Hid (decide (arRight at_ n) = false) := Lib.hid (decide_eq_false fun h => by have := h.2.1; omega)
    rw [HD.out]
    go_enter Try.func9, Try.ntmps9
    go_wp2
    go_ret
    exact ⟨rfl, rfl⟩
  have d2 : decide (n ≤ 4096) = true := decide_eq_true (by omega)
  by_cases h3 : at_ < 0
  · have HD : Hid (decide (arRight at_ n) = false) := Lib.hid (decide_eq_false fun h => by have := h.2.2.1; omega)
    rw [HD.out]
    go_enter Try.func9, Try.ntmps9
    go_wp2
    go_ret
    exact ⟨rfl, rfl⟩
  have d3 : decide (0 ≤ at_) = true := decide_eq_true (by omega)
  have hn1 : 1 ≤ n := by omega
  have hn2 : n ≤ 4096 := by omega
  have ha : 0 ≤ at_ := by omega
  obtain ⟨m, hm⟩ : ∃ m, 65536 - n = m := ⟨_, rfl⟩
  by_cases h4 : at_ < 65536 - n
  · have HD : Hid (decide (arRight at_ n) = true) := Lib.hid (decide_eq_true ⟨hn1, hn2, ha, h4⟩)
    rw [HD.out]
    have d4 : decide (at_ < m) = true := decide_eq_true (by omega)
    go_enter Try.func9, Try.ntmps9
    go_wp2
    go_ret
    exact ⟨rfl, rfl⟩
  · have HD : Hid (decide (arRight at_ n) = false) := Lib.hid (decide_eq_false fun h => h4 h.2.2.2)
    rw [HD.out]
    have d4 : decide (at_ < m) = false := decide_eq_false (by omega)
    go_enter Try.func9, Try.ntmps9
    go_wp2
    go_ret
    exact ⟨rfl, rfl⟩

theorem refTake_any (at_ n : Int) (w : World) :
    Calls Try.prog 12 #[.int .i64 at_, .int .i64 n] w fun e w' => ∃ p, e = .returned (.pointer (some ⟨p, 0, none⟩)) ∧ refArJ p w' [p] (arTake at_ n) ∧ Keeps [] w w' ∧ w.heap.size ≤ p := by
  have HR := Lib.hid (fun W => refRight_any at_ n W)
  have U0 : M.U 0 := ⟨by decide, by decide⟩
  obtain ⟨W0, hW0⟩ : ∃ W0, w.alloc (.cells #[.int .i64 at_, .int .i64 n, .bool false, .int .i64 0, .int .i64 1, .int .u64 0, .int .u64 0, .bool false, .int .i64 0, .int .u64 0, .slice none 0 0] 91) = W0 := ⟨_, rfl⟩
  have r0 : Row W0 w.heap.size 91 (arCells ⟨at_, n, false, 0, 1, 0, 0, none⟩) := by rw [← hW0]; exact Row.new _ _ _
  have HK : Hid (Keeps [] w W0) := Lib.hid (by rw [← hW0]; exact (Keeps.refl _ _).alloc _)
  have HE := Lib.hid (refEnd_any w.heap.size _ 2 0 W0 r0)
  have HR0 := Lib.hid r0
  clear r0
  by_cases hr : arRight at_ n
  · have hd : decide (arRight at_ n) = true := decide_eq_true hr
    rw [hd] at HR
    have HT : Hid (arTake at_ n = ⟨at_, n, false, 0, 1, 0, 0, none⟩) := Lib.hid (by simp [arTake, hr])
    have HH := Lib.hid hr
    clear hr hd
    go_enter Try.func12, Try.ntmps12
    go_wp2_with fail
    refine (HR.out W0).mono ?_
    rintro e w1 ⟨rfl, rfl⟩
    go_wp2
    go_ret
    refine ⟨w.heap.size, rfl, ?_, HK.out, Nat.le_refl _⟩
    rw [HT.out]
    exact ⟨rfl, HR0.out, fun r h => by (cases h), fun _ => ⟨HH.out, fun h => by (cases h)⟩, U0, U0⟩
  · have hd : decide (arRight at_ n) = false := decide_eq_false hr
    rw [hd] at HR
    have HT : Hid (arTake at_ n = ⟨at_, n, false, 0, 1, 0, 0, some ⟨2, 0, []⟩⟩) := Lib.hid (by simp [arTake, hr])
    clear hr hd
    go_enter Try.func12, Try.ntmps12
    go_wp2_with fail
    refine (HR.out W0).mono ?_
    rintro e w1 ⟨rfl, rfl⟩
    go_wp2_with fail
    refine HE.out.mono ?_
    rintro e w2 ⟨rfl, hr2, k2⟩
    have HQ := Lib.hid (⟨hr2, HK.out.step k2 (by simp)⟩ : _ ∧ _)
    clear hr2 k2 hW0
    go_wp2
    go_ret
    refine ⟨w.heap.size, rfl, ?_, HQ.out.2, Nat.le_refl _⟩
    rw [HT.out]
    exact ⟨rfl, HQ.out.1, fun r h => by (cases h; rfl), fun h => by (cases h), U0, U0⟩
theorem refPut_any (at_ n i : Int) (w : World) :
    Calls Try.prog 15 #[.int .i64 at_, .int .i64 n, .int .i64 i] w fun e w' => ∃ p, e = .returned (.pointer (some ⟨p, 0, none⟩)) ∧ refArJ p w' [p] (arPut at_ n i) ∧ Keeps [] w w' ∧ w.heap.size ≤ p := by
  have HR := Lib.hid (fun W => refRight_any at_ n W)
  have U0 : M.U 0 := ⟨by decide, by decide⟩
  obtain ⟨W0, hW0⟩ : ∃ W0, w.alloc (.cells #[.int .i64 at_, .int .i64 n, .bool true, .int .i64 i, .int .i64 1, .int .u64 0, .int .u64 0, .bool false, .int .i64 0, .int .u64 0, .slice none 0 0] 91) = W0 := ⟨_, rfl⟩
  have r0 : Row W0 w.heap.size 91 (arCells ⟨at_, n, true, i, 1, 0, 0, none⟩) := by rw [← hW0]; exact Row.new _ _ _
  have HK : Hid (Keeps [] w W0) := Lib.hid (by rw [← hW0]; exact (Keeps.refl _ _).alloc _)
  have HE := Lib.hid (refEnd_any w.heap.size _ 2 0 W0 r0)
  have HR0 := Lib.hid r0
  clear r0
  by_cases hr : arRight at_ n ∧ 1 ≤ i ∧ i ≤ n
  · have hd : decide (arRight at_ n) = true := decide_eq_true hr.1
    rw [hd] at HR
    have HT : Hid (arPut at_ n i = ⟨at_, n, true, i, 1, 0, 0, none⟩) := Lib.hid (by simp [arPut, hr])
    have HH := Lib.hid hr
    have i1 := hr.2.1
    have i2 := hr.2.2
    have e1 : decide (i < 1) = false := decide_eq_false (by omega)
    have e2 : decide (n < i) = false := decide_eq_false (by omega)
    clear hr hd
    go_enter Try.func15, Try.ntmps15
    go_wp2_with fail
    refine (HR.out W0).mono ?_
    rintro e w1 ⟨rfl, rfl⟩
    go_wp2
    go_ret
    refine ⟨w.heap.size, rfl, ?_, HK.out, Nat.le_refl _⟩
    rw [HT.out]
    exact ⟨rfl, HR0.out, fun r h => by (cases h), fun _ => ⟨HH.out.1, fun _ => HH.out.2⟩, U0, U0⟩
  · have HT : Hid (arPut at_ n i = ⟨at_, n, true, i, 1, 0, 0, some ⟨2, 0, []⟩⟩) := Lib.hid (by simp only [arPut]; rw [if_neg hr])
    have bad : arRight at_ n → i < 1 ∨ n < i := fun h => by
      by_cases h1 : i < 1
      · exact .inl h1
      · exact .inr (Int.not_le.1 fun h2 => hr ⟨h, by omega, h2⟩)
    by_cases h1 : arRight at_ n
    case' neg => have hd : decide (arRight at_ n) = false := decide_eq_false h1
    case' pos =>
      have hd : decide (arRight at_ n) = true := decide_eq_true h1
      have hb := bad h1
      by_cases h2 : i < 1
      case' pos => have e1 : decide (i < 1) = true := decide_eq_true h2
      case' neg =>
        have e1 : decide (i < 1) = false := decide_eq_false h2
        have h3 : n < i := by omega
        have e2 : decide (n < i) = true := decide_eq_true h3
      all_goals clear hb h2
    all_goals
      rw [hd] at HR
      clear hr hd bad h1
      go_enter Try.func15, Try.ntmps15
      go_wp2_with fail
      refine (HR.out W0).mono ?_
      rintro e w1 ⟨rfl, rfl⟩
      go_wp2_with fail
      refine HE.out.mono ?_
      rintro e w2 ⟨rfl, hr2, k2⟩
      have HQ := Lib.hid (⟨hr2, HK.out.step k2 (by simp)⟩ : _ ∧ _)
      clear hr2 k2 hW0
      go_wp2
      go_ret
      refine ⟨w.heap.size, rfl, ?_, HQ.out.2, Nat.le_refl _⟩
      rw [HT.out]
      exact ⟨rfl, HQ.out.1, fun r h => by (cases h; rfl), fun h => by (cases h), U0, U0⟩
end Go.Proofs.Ytgpfknoddljopaa
