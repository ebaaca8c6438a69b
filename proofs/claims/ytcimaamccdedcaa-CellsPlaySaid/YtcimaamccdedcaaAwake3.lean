/-
  The chapter's example of layer 3.
-/
import Derived.Test.YtcimaamccdedcaaMem
namespace Go.Proofs.Ytcimaamccdedcaa
open Go.ChangeShapes Go.WideShapes Go.ChangeAt Go.RowKit

set_option maxHeartbeats 800000 in
theorem awake3 (w : World) :
    Calls Try.prog 7 #[] w fun e w' => e = .returned (.bool true) ∧ Keeps [] w w' := by
  have C1 := fun m b W h => do_any m b [0, 0] ⟨2, 1, 5, 0⟩ W h ⟨⟨by decide, by decide⟩, ⟨by decide, by decide⟩⟩
  have C2 := fun m b W h => do_any m b [0, 5] ⟨4, 1, 18446744073709551615, 0⟩ W h ⟨⟨by decide, by decide⟩, ⟨by decide, by decide⟩⟩
  have C3 := fun m b W h => do_any m b [0, 4] ⟨3, 1, 5, 9⟩ W h ⟨⟨by decide, by decide⟩, ⟨by decide, by decide⟩⟩
  have H1 := Lib.hid C1
  have H2 := Lib.hid C2
  have H3 := Lib.hid C3
  clear C1 C2 C3
  have CN := new_any 2 w (by omega) (by omega)
  go_enter Try.func7, Try.ntmps7
  go_wp2_with fail
  refine CN.mono ?_
  clear CN
  rintro e w1 ⟨m, b, rfl, hM, hk, hm, hb⟩
  go_wp2_with fail
  refine (H1.out m b w1 hM).mono ?_
  rintro e w2 ⟨rfl, hM2, hk2⟩
  go_wp2_with fail
  refine (H2.out m b w2 hM2).mono ?_
  rintro e w3 ⟨rfl, hM3, hk3⟩
  go_wp2_with fail
  refine (H3.out m b w3 hM3).mono ?_
  rintro e w4 ⟨rfl, hM4, hk4⟩
  have hkk : Keeps [] w w4 := by
    have := (hk.nil.trans (hk2.trans (hk3.trans hk4))).mono (T := []) (S := [b]) (fun k hk hl => by simp at hk; omega)
    exact this
  clear hM hM2 hM3 hM4 hk hk2 hk3 hk4
  go_wp2
  go_ret
  exact ⟨rfl, hkk⟩
end Go.Proofs.Ytcimaamccdedcaa
