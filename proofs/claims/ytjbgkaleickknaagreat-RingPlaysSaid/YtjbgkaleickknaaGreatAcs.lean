import Derived.Test.YtjbgkaleickknaaGreatKeep
import Derived.Test.YtjbgkaleickknaaGreatCells
/-
  Sums over numbered workers.
-/
namespace Go.Proofs.YtjbgkaleickknaaGreat
set_option maxRecDepth 100000
set_option linter.unusedSimpArgs false
set_option linter.unusedVariables false
/-- c, but k at who. -/
def upd (c : Nat → Nat) (who k : Nat) : Nat → Nat := fun i => if i = who then k else c i
end Go.Proofs.YtjbgkaleickknaaGreat

/-
  What a Load, a Store, a Cas of a cell does.
-/
namespace Go.Proofs.YtjbgkaleickknaaGreat
set_option maxRecDepth 100000
set_option linter.unusedSimpArgs false
set_option linter.unusedVariables false
open Go

namespace C
theorem load_at (us : List Int) (i : Nat) (hi : i < us.length) (a b : Int) : code us ⟨1, i, a, b⟩ = 0 ∧ next us ⟨1, i, a, b⟩ = us ∧ told us ⟨1, i, a, b⟩ = us.getD i 0 := by
  have hc : code us ⟨1, i, a, b⟩ = 0 := by simp [code]; omega
  refine ⟨hc, ?_, ?_⟩
  · simp only [next, hc, if_true, deed, Int.toNat_natCast]
    simp [List.getD, hi]
  · simp [told, hc]
theorem store_at (us : List Int) (i : Nat) (hi : i < us.length) (a b : Int) : code us ⟨2, i, a, b⟩ = 0 ∧ next us ⟨2, i, a, b⟩ = us.set i a ∧ told us ⟨2, i, a, b⟩ = us.getD i 0 := by
  have hc : code us ⟨2, i, a, b⟩ = 0 := by simp [code]; omega
  refine ⟨hc, ?_, ?_⟩
  · simp [next, hc, deed]
  · simp [told, hc]
theorem cas_at (us : List Int) (i : Nat) (hi : i < us.length) (a b : Int) : code us ⟨3, i, a, b⟩ = 0 ∧ told us ⟨3, i, a, b⟩ = us.getD i 0 ∧
    (us.getD i 0 = a → next us ⟨3, i, a, b⟩ = us.set i b ∧ won us ⟨3, i, a, b⟩ = true) ∧ (us.getD i 0 ≠ a → next us ⟨3, i, a, b⟩ = us ∧ won us ⟨3, i, a, b⟩ = false) := by
  have hc : code us ⟨3, i, a, b⟩ = 0 := by simp [code]; omega
  refine ⟨hc, by simp [told, hc], fun h => ?_, fun h => ?_⟩
  · simp only [next, won, hc, if_true, deed, Int.toNat_natCast]
    simp only [show ¬ ((3 : Int) = 2) by decide, if_false]
    rw [if_pos h]
    exact ⟨rfl, rfl⟩
  · simp only [next, won, hc, if_true, deed, Int.toNat_natCast]
    simp only [show ¬ ((3 : Int) = 2) by decide, if_false]
    rw [if_neg h]
    exact ⟨by simp [List.getD, hi], rfl⟩
end C
/-- A function that is another one at i. -/
def updG {α : Type} (f : Nat → α) (i : Nat) (x : α) : Nat → α := fun j => if j = i then x else f j
theorem updG_same {α : Type} (f : Nat → α) (i : Nat) (x : α) : updG f i x i = x := by simp [updG]
theorem updG_ne {α : Type} (f : Nat → α) {i j : Nat} (x : α) (h : j ≠ i) : updG f i x j = f j := by simp [updG, h]
end Go.Proofs.YtjbgkaleickknaaGreat
