import Derived.Test.YtjfgpplnlepnoaaGreatKeep
import Derived.Test.YtjfgpplnlepnoaaGreatCells
/-
  Sums over numbered workers.
-/
namespace Go.Proofs.YtjfgpplnlepnoaaGreat
set_option maxRecDepth 100000
set_option linter.unusedSimpArgs false
set_option linter.unusedVariables false
def sumN (f : Nat → Nat) : Nat → Nat
  | 0 => 0
  | n + 1 => sumN f n + f n
def sumI (f : Nat → Int) : Nat → Int
  | 0 => 0
  | n + 1 => sumI f n + f n
theorem sumN_congr {f g : Nat → Nat} {n : Nat} (h : ∀ i, i < n → f i = g i) : sumN f n = sumN g n := by
  induction n with
  | zero => rfl
  | succ n ih => simp only [sumN]; rw [ih fun i hi => h i (by omega), h n (by omega)]
theorem sumI_congr {f g : Nat → Int} {n : Nat} (h : ∀ i, i < n → f i = g i) : sumI f n = sumI g n := by
  induction n with
  | zero => rfl
  | succ n ih => simp only [sumI]; rw [ih fun i hi => h i (by omega), h n (by omega)]
theorem sumN_const (t n : Nat) : sumN (fun _ => t) n = t * n := by
  induction n with
  | zero => rfl
  | succ n ih => simp only [sumN]; rw [ih, Nat.mul_succ]
theorem sumN_le {f : Nat → Nat} {t n : Nat} (h : ∀ i, i < n → f i ≤ t) : sumN f n ≤ t * n := by
  induction n with
  | zero => exact Nat.le_refl _
  | succ n ih => simp only [sumN]; have := ih fun i hi => h i (by omega); have := h n (by omega); rw [Nat.mul_succ]; omega
/-- c, but k at who. -/
def upd (c : Nat → Nat) (who k : Nat) : Nat → Nat := fun i => if i = who then k else c i
theorem upd_same (c : Nat → Nat) (who k : Nat) : upd c who k who = k := by simp [upd]
theorem upd_ne (c : Nat → Nat) {who i : Nat} (k : Nat) (h : i ≠ who) : upd c who k i = c i := by simp [upd, h]
theorem upd_upd (c : Nat → Nat) (who j k : Nat) : upd (upd c who j) who k = upd c who k := by
  funext i; unfold upd; split <;> rfl
theorem upd_self (c : Nat → Nat) (who : Nat) : upd c who (c who) = c := by
  funext i; unfold upd; split
  · rename_i h; rw [h]
  · rfl
theorem sumN_upd (c : Nat → Nat) {who n : Nat} (h : who < n) (k : Nat) : sumN (upd c who k) n + c who = sumN c n + k := by
  induction n with
  | zero => omega
  | succ n ih =>
    simp only [sumN]
    by_cases e : who = n
    · subst e
      rw [upd_same, sumN_congr (g := c) fun i hi => upd_ne c k (by omega)]; omega
    · have := ih (by omega)
      rw [upd_ne c k (Ne.symm e)]; omega
theorem sumI_upd (c : Nat → Nat) (z : Nat → Int) {who n : Nat} (h : who < n) (k : Nat) : sumI (fun i => (upd c who k i : Int) * z i) n = sumI (fun i => (c i : Int) * z i) n + ((k : Int) - (c who : Int)) * z who := by
  induction n with
  | zero => omega
  | succ n ih =>
    simp only [sumI]
    by_cases e : who = n
    · subst e
      rw [upd_same, sumI_congr (g := fun i => (c i : Int) * z i) fun i hi => by rw [upd_ne c k (by omega)], Int.sub_mul]; omega
    · rw [ih (by omega), upd_ne c k (Ne.symm e)]; omega

end Go.Proofs.YtjfgpplnlepnoaaGreat

/-
  What a Load, a Store, a Cas of a cell does.
-/
namespace Go.Proofs.YtjfgpplnlepnoaaGreat
set_option maxRecDepth 100000
set_option linter.unusedSimpArgs false
set_option linter.unusedVariables false
open Go

namespace C
theorem load_at (us : List Int) (i : Nat) (hi : i < us.length) (a b : Int) : code us ⟨1, i, a, b⟩ = 0 ∧ next us ⟨1, i, a, b⟩ = us ∧ told us ⟨1, i, a, b⟩ = us.getD i 0 := by
  have hc : code us ⟨1, i, a, b⟩ = 0 := by simp [code]; omega
  refine ⟨hc, ?_, ?_⟩
  · simp only [next, hc, if_true, deed, Int.toNat_natCast]
    simp [List.getD, hi]
  · simp [told, hc]
theorem store_at (us : List Int) (i : Nat) (hi : i < us.length) (a b : Int) : code us ⟨2, i, a, b⟩ = 0 ∧ next us ⟨2, i, a, b⟩ = us.set i a ∧ told us ⟨2, i, a, b⟩ = us.getD i 0 := by
  have hc : code us ⟨2, i, a, b⟩ = 0 := by simp [code]; omega
  refine ⟨hc, ?_, ?_⟩
  · simp [next, hc, deed]
  · simp [told, hc]
theorem cas_at (us : List Int) (i : Nat) (hi : i < us.length) (a b : Int) : code us ⟨3, i, a, b⟩ = 0 ∧ told us ⟨3, i, a, b⟩ = us.getD i 0 ∧
    (us.getD i 0 = a → next us ⟨3, i, a, b⟩ = us.set i b ∧ won us ⟨3, i, a, b⟩ = true) ∧ (us.getD i 0 ≠ a → next us ⟨3, i, a, b⟩ = us ∧ won us ⟨3, i, a, b⟩ = false) := by
  have hc : code us ⟨3, i, a, b⟩ = 0 := by simp [code]; omega
  refine ⟨hc, by simp [told, hc], fun h => ?_, fun h => ?_⟩
  · simp only [next, won, hc, if_true, deed, Int.toNat_natCast]
    simp only [show ¬ ((3 : Int) = 2) by decide, if_false]
    rw [if_pos h]
    exact ⟨rfl, rfl⟩
  · simp only [next, won, hc, if_true, deed, Int.toNat_natCast]
    simp only [show ¬ ((3 : Int) = 2) by decide, if_false]
    rw [if_neg h]
    exact ⟨by simp [List.getD, hi], rfl⟩
end C
/-- A function that is another one at i. -/
def updG {α : Type} (f : Nat → α) (i : Nat) (x : α) : Nat → α := fun j => if j = i then x else f j
theorem updG_same {α : Type} (f : Nat → α) (i : Nat) (x : α) : updG f i x i = x := by simp [updG]
theorem updG_ne {α : Type} (f : Nat → α) {i j : Nat} (x : α) (h : j ≠ i) : updG f i x j = f j := by simp [updG, h]
end Go.Proofs.YtjfgpplnlepnoaaGreat
