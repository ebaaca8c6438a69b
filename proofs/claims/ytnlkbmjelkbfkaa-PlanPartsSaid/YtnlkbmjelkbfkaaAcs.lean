import Derived.Test.YtnlkbmjelkbfkaaKeep
import Derived.Test.YtnlkbmjelkbfkaaCells
/-
  Sums over numbered workers.
-/
namespace Go.Proofs.Ytnlkbmjelkbfkaa
set_option maxRecDepth 100000
set_option linter.unusedSimpArgs false
set_option linter.unusedVariables false
def sumN (f : Nat → Nat) : Nat → Nat
  | 0 => 0
  | n + 1 => sumN f n + f n
theorem sumN_congr {f g : Nat → Nat} {n : Nat} (h : ∀ i, i < n → f i = g i) : sumN f n = sumN g n := by
  induction n with
  | zero => rfl
  | succ n ih => simp only [sumN]; rw [ih fun i hi => h i (by omega), h n (by omega)]
theorem sumN_const (t n : Nat) : sumN (fun _ => t) n = t * n := by
  induction n with
  | zero => rfl
  | succ n ih => simp only [sumN]; rw [ih, Nat.mul_succ]
end Go.Proofs.Ytnlkbmjelkbfkaa

/-
  What a Load, a Store, a Cas of a cell does.
-/
namespace Go.Proofs.Ytnlkbmjelkbfkaa
set_option maxRecDepth 100000
set_option linter.unusedSimpArgs false
set_option linter.unusedVariables false
open Go

namespace C
theorem load_at (us : List Int) (i : Nat) (hi : i < us.length) (a b : Int) : code us ⟨1, i, a, b⟩ = 0 ∧ next us ⟨1, i, a, b⟩ = us ∧ told us ⟨1, i, a, b⟩ = us.getD i 0 := by
  have hc : code us ⟨1, i, a, b⟩ = 0 := by simp [code]; omega
  refine ⟨hc, ?_, ?_⟩
  · simp only [next, hc, if_true, deed, Int.toNat_natCast]
    simp [List.getD, hi]
  · simp [told, hc]
theorem store_at (us : List Int) (i : Nat) (hi : i < us.length) (a b : Int) : code us ⟨2, i, a, b⟩ = 0 ∧ next us ⟨2, i, a, b⟩ = us.set i a ∧ told us ⟨2, i, a, b⟩ = us.getD i 0 := by
  have hc : code us ⟨2, i, a, b⟩ = 0 := by simp [code]; omega
  refine ⟨hc, ?_, ?_⟩
  · simp [next, hc, deed]
  · simp [told, hc]
theorem cas_at (us : List Int) (i : Nat) (hi : i < us.length) (a b : Int) : code us ⟨3, i, a, b⟩ = 0 ∧ told us ⟨3, i, a, b⟩ = us.getD i 0 ∧
    (us.getD i 0 = a → next us ⟨3, i, a, b⟩ = us.set i b ∧ won us ⟨3, i, a, b⟩ = true) ∧ (us.getD i 0 ≠ a → next us ⟨3, i, a, b⟩ = us ∧ won us ⟨3, i, a, b⟩ = false) := by
  have hc : code us ⟨3, i, a, b⟩ = 0 := by simp [code]; omega
  refine ⟨hc, by simp [told, hc], fun h => ?_, fun h => ?_⟩
  · simp only [next, won, hc, if_true, deed, Int.toNat_natCast]
    simp only [show ¬ ((3 : Int) = 2) by decide, if_false]
    rw [if_pos h]
    exact ⟨rfl, rfl⟩
  · simp only [next, won, hc, if_true, deed, Int.toNat_natCast]
    simp only [show ¬ ((3 : Int) = 2) by decide, if_false]
    rw [if_neg h]
    exact ⟨by simp [List.getD, hi], rfl⟩
end C
end Go.Proofs.Ytnlkbmjelkbfkaa
