import Derived.Test.YtnlkbmjelkbfkaaArI
import Derived.Test.YtnlkbmjelkbfkaaLd
import Derived.Test.YtnlkbmjelkbfkaaOnce
import Derived.Test.YtnlkbmjelkbfkaaFresh
/-
  Contracts: an arena's Free.
-/
namespace Go.Proofs.Ytnlkbmjelkbfkaa
set_option maxRecDepth 100000
set_option linter.unusedSimpArgs false
set_option linter.unusedVariables false
open Go.ChangeShapes Go.WideShapes Go.ChangeAt Go.RowKit


theorem nodup_len (n : Nat) : ∀ F : List Nat, F.Nodup → (∀ x ∈ F, 1 ≤ x ∧ x ≤ n) → F.length ≤ n := by
  induction n with
  | zero =>
    intro F _ h
    cases F with
    | nil => simp
    | cons x F => have := h x (by simp); omega
  | succ n ih =>
    intro F hd h
    have h1 := ih (F.erase (n + 1)) (hd.erase _) (fun x hx => by
      have h2 := (hd.mem_erase_iff).1 hx
      have h3 := h x h2.2
      have h4 := h2.1
      omega)
    have h2 : F.length ≤ (F.erase (n + 1)).length + 1 := by rw [List.length_erase]; split <;> omega
    omega
end Go.Proofs.Ytnlkbmjelkbfkaa
