import Derived.Laws.BitsAllLaws
import Derived.Below
import Derived.OpenShut
import Derived.WalkKit
import Derived.Lib.TrailingZeros
/-
  Plain arithmetic of words: pairs, fields, bits. No program.
-/
namespace Go.Proofs.YtjbgkaleickknaaGreat.M
set_option maxRecDepth 100000
set_option linter.unusedSimpArgs false
set_option linter.unusedVariables false
open Go Go.RowKit

/-- A word of 64 bits, as an Int. -/
def U (u : Int) : Prop := 0 ≤ u ∧ u < 18446744073709551616
theorem U.nn {u : Int} (h : U u) : 0 ≤ u := h.1
theorem U.lt {u : Int} (h : U u) : u < 18446744073709551616 := h.2
theorem U.of (n : Nat) (h : n < 2 ^ 64) : U (n : Int) := by unfold U; simp at h; omega
theorem U.wf {u : Int} (h : (Lit.int .u64 u).wf = true) : U u := by
  have := bounds_u64 h
  unfold U; omega

def aheadI (a b : Int) : Int := if 2147483648 ≤ (a - b) % 4294967296 then (a - b) % 4294967296 - 4294967296 else (a - b) % 4294967296

theorem ahead_lo (a b : Int) : -2147483648 ≤ aheadI a b := by unfold aheadI; split <;> omega
theorem ahead_hi (a b : Int) : aheadI a b ≤ 2147483647 := by unfold aheadI; split <;> omega
theorem or_pair (h l : Int) (h0 : 0 ≤ h) (h1 : h < 4294967296) (l0 : 0 ≤ l) (l1 : l < 4294967296) : bits BinOp.or IntKind.u64 (h * 4294967296) l = h * 4294967296 + l := by
  obtain ⟨x, rfl⟩ := Int.eq_ofNat_of_zero_le h0
  obtain ⟨y, rfl⟩ := Int.eq_ofNat_of_zero_le l0
  rw [show (x : Int) * 4294967296 = ((x * 4294967296 : Nat) : Int) from by simp, u64_or_nat _ _ (by omega) (by omega), nat_join 32 _ _ (by omega) (by omega)]
  rfl
theorem hi_mod (u : Int) (h : U u) : u / 4294967296 % 4294967296 = u / 4294967296 := by
  have := h.1; have := h.2; omega
theorem ahead_wrap (a b : Int) : wrap64 (wrap32 ((a - b) % 4294967296)) = aheadI a b := by
  unfold aheadI wrap64 wrap32; split <;> omega
end Go.Proofs.YtjbgkaleickknaaGreat.M
