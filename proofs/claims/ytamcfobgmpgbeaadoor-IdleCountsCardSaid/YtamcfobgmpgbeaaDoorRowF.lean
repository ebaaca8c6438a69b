/-
  Rows of W elements that a function tells.
-/
import Derived.Test.YtamcfobgmpgbeaaDoorKeep
import Derived.Test.YtamcfobgmpgbeaaDoorAcs
namespace Go.Proofs.YtamcfobgmpgbeaaDoor
set_option maxRecDepth 100000
set_option linter.unusedSimpArgs false
set_option linter.unusedVariables false
open Go Go.RowKit

/-- The cells that f tells of the numbers below W. -/
def mapR (W : Nat) (f : Nat → Value) : List Value := (List.range W).map f
theorem mapR_len (W : Nat) (f : Nat → Value) : (mapR W f).length = W := by simp [mapR]
theorem mapR_at {W i : Nat} {f : Nat → Value} (h : i < W) : (mapR W f)[i]? = some (f i) := by simp [mapR, h]
theorem mapR_set {W : Nat} (f : Nat → Value) (i : Nat) (v : Value) : (mapR W f).set i v = mapR W (updG f i v) := by
  apply List.ext_getElem?
  intro j
  by_cases h : j < W
  · by_cases e : i = j
    · subst e; rw [List.getElem?_set_self (by simpa [mapR] using h), mapR_at h, updG_same]
    · rw [List.getElem?_set_ne e, mapR_at h, mapR_at h, updG_ne _ _ (Ne.symm e)]
  · rw [List.getElem?_eq_none (by simpa [mapR] using Nat.ge_of_not_lt h), List.getElem?_eq_none (by simpa [mapR] using Nat.ge_of_not_lt h)]
theorem made_mapR (v : Value) (h : v.cells = #[v]) (n : Nat) : (madeCells v.cells (n * 1)).toList = mapR n fun _ => v := by
  rw [Nat.mul_one, h]
  apply List.ext_getElem?
  intro i
  by_cases h : i < n
  · simp [madeCells, mapR, h, Nat.mod_one]
  · simp [madeCells, mapR, h, Nat.mod_one]
theorem updG_map {α β : Type} (g : α → β) (f : Nat → α) (i : Nat) (x : α) : updG (fun j => g (f j)) i (g x) = fun j => g (updG f i x j) := by
  funext j
  by_cases e : j = i
  · subst e; rw [updG_same, updG_same]
  · rw [updG_ne _ _ e, updG_ne _ _ e]
theorem Row.setR {w : World} {b : Nat} {e : TypeId} {W : Nat} {α : Type} {g : α → Value} {f : Nat → α} (h : Row w b e (mapR W fun j => g (f j))) (i : Nat) (x : α) : Row (w.setCell ⟨b, i, none⟩ (g x)) b e (mapR W fun j => g (updG f i x j)) := by
  have := h.set i (g x)
  rw [mapR_set, updG_map] at this
  exact this
end Go.Proofs.YtamcfobgmpgbeaaDoor
