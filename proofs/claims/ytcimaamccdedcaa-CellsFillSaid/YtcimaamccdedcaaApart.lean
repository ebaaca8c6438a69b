/-
  Accesses of unlike cells: plain mathematics.
-/
import Derived.Test.YtcimaamccdedcaaCells
namespace Go.Proofs.Ytcimaamccdedcaa
namespace C
theorem next_len (us : List Int) (x : Acc) : (next us x).length = us.length := by
  unfold next; split
  · rw [List.length_set]
  · rfl
theorem code_next (us : List Int) (x y : Acc) : code (next us y) x = code us x := by unfold code; rw [next_len]
theorem code_zero {us : List Int} {x : Acc} (h : code us x = 0) : 0 ≤ x.c ∧ x.c < us.length := by
  unfold code at h
  split at h
  · cases h
  · split at h
    · cases h
    · omega
theorem getD_next (us : List Int) {x y : Acc} (hne : x.c ≠ y.c) (hx : code us x = 0) : (next us y).getD x.c.toNat 0 = us.getD x.c.toNat 0 := by
  unfold next
  split
  · rename_i hy
    have h1 := code_zero hx
    have h2 := code_zero hy
    rw [List.getD, List.getElem?_set_ne (by omega)]; rfl
  · rfl
theorem told_next (us : List Int) {x y : Acc} (hne : x.c ≠ y.c) : told (next us y) x = told us x := by
  unfold told
  rw [code_next]
  split
  · rename_i h; exact getD_next us hne h
  · rfl
theorem won_next (us : List Int) {x y : Acc} (hne : x.c ≠ y.c) : won (next us y) x = won us x := by
  unfold won
  rw [code_next]
  split
  · rename_i h; rw [getD_next us hne h]
  · rfl
theorem next_comm (us : List Int) {x y : Acc} (hne : x.c ≠ y.c) : next (next us y) x = next (next us x) y := by
  by_cases hx : code us x = 0 <;> by_cases hy : code us y = 0
  · have h1 := code_zero hx
    have h2 := code_zero hy
    rw [next, code_next, if_pos hx, getD_next us hne hx]
    conv => rhs; rw [next, code_next, if_pos hy, getD_next us (Ne.symm hne) hy]
    rw [next, if_pos hy, next, if_pos hx, List.set_comm _ _ (by omega)]
  · rw [next, code_next, if_pos hx, getD_next us hne hx]
    conv => rhs; rw [next, code_next, if_neg hy]
    rw [next, if_neg hy, next, if_pos hx]
  · rw [next, code_next, if_neg hx]
    conv => rhs; rw [next, code_next, if_pos hy, getD_next us (Ne.symm hne) hy]
    rw [next, if_pos hy, next, if_neg hx]
  · rw [next, code_next, if_neg hx]
    conv => rhs; rw [next, code_next, if_neg hy]
    rw [next, if_neg hy, next, if_neg hx]
end C
end Go.Proofs.Ytcimaamccdedcaa
