/-
  The chapter's example of layer 2.
-/
import Derived.Test.YtcilndnkhfcafaaDoorNumList
namespace Go.Proofs.YtcilndnkhfcafaaDoor
open Go.ChangeShapes Go.WideShapes Go.ChangeAt Go.RowKit

theorem long_text : D.readL [49, 56, 52, 52, 54, 55, 52, 52, 48, 55, 51, 55, 48, 57, 53, 53, 49, 54, 49, 54] = (0, 14) := by decide +kernel
theorem two_list : D.listL [1, 20] = [49, 44, 50, 48] := by
  rw [D.listL, if_neg (by simp), D.joinL, Lib.decDigits_one (by omega)]
  simp only [List.flatMap_cons, List.flatMap_nil]
  rw [Lib.decDigits_two (by omega) (by omega)]
  decide +kernel

set_option maxHeartbeats 800000 in
set_option maxRecDepth 100000 in
theorem awake2 (w : World) (hT : NumTabs w) :
    Calls Tryd.prog 11 #[] w fun e w' => e = .returned (.bool true) ∧ Below w.heap.size w w' := by
  have C := read_any (str [49, 56, 52, 52, 54, 55, 52, 52, 48, 55, 51, 55, 48, 57, 53, 53, 49, 54, 49, 54]) w (by decide) hT
  rw [str_data, long_text] at C
  have HT := Lib.hid hT
  clear hT
  go_enter Tryd.func11, Tryd.ntmps11
  go_wp2_with (go_at_call 12; refine C.mono ?_; rintro e w1 ⟨rfl, hb1⟩)
  go_at_call 16
  refine (list_any _ [1, 20] _ (by decide) (by decide) (Sl.lit w1 #[.int .u64 1, .int .u64 20] _ 1 2 2 rfl) (HT.out.below (hb1.alloc hb1.size _) (Nat.le_refl _))).mono ?_
  rw [two_list]
  rintro e w2 ⟨rfl, hb2⟩
  have hs := str_toList [49, 44, 50, 48]
  have hb3 := (hb1.alloc hb1.size _).trans (hb2.mono (Nat.le_trans hb1.size (by simp)))
  go_wp2
  go_ret
  exact ⟨rfl, hb3⟩
end Go.Proofs.YtcilndnkhfcafaaDoor
