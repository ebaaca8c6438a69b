import Derived.Test.YtjbgkaleickknaaGreatMach
import Derived.Test.YtjbgkaleickknaaGreatAcs
/-
  The machine of a deque's Push, Pop and Steal; numbers that go round.
-/
namespace Go.Proofs.YtjbgkaleickknaaGreat
set_option maxRecDepth 100000
set_option linter.unusedSimpArgs false
set_option linter.unusedVariables false
open Go

/-- A Push (kind 1), a Pop (2) or a Steal (3), at a step. -/
structure DqS where
  at_ : Int
  size : Int
  kind : Int
  task : Int
  step : Int
  b : Int
  t : Int
  v : Int
  won : Bool
  over : Option Rs
/-- How far b is ahead of t. -/
def dqAhead (b t : Int) : Int := (b - t + 9223372036854775808) % 18446744073709551616 - 9223372036854775808
/-- The slot of a number. -/
def dqSlot (at_ size n : Int) : Int := at_ + 2 + n % size
def dqUp (n : Int) : Int := (n + 1) % 18446744073709551616
def dqWant (s : DqS) : C.Acc :=
  if s.kind = 1 then
    (if s.step = 1 then ⟨1, s.at_ + 1, 0, 0⟩ else if s.step = 2 then ⟨1, s.at_, 0, 0⟩ else if s.step = 3 then ⟨2, dqSlot s.at_ s.size s.b, s.task, 0⟩ else ⟨2, s.at_ + 1, dqUp s.b, 0⟩)
  else if s.kind = 2 then
    (if s.step = 1 then ⟨1, s.at_ + 1, 0, 0⟩ else if s.step = 2 then ⟨2, s.at_ + 1, s.b, 0⟩ else if s.step = 3 then ⟨1, s.at_, 0, 0⟩
     else if s.step = 4 then (if dqAhead s.b s.t < 0 then ⟨2, s.at_ + 1, dqUp s.b, 0⟩ else ⟨1, dqSlot s.at_ s.size s.b, 0, 0⟩)
     else if s.step = 5 then ⟨3, s.at_, s.t, dqUp s.t⟩ else ⟨2, s.at_ + 1, dqUp s.b, 0⟩)
  else
    (if s.step = 1 then ⟨1, s.at_, 0, 0⟩ else if s.step = 2 then ⟨1, s.at_ + 1, 0, 0⟩ else if s.step = 3 then ⟨1, dqSlot s.at_ s.size s.t, 0, 0⟩ else ⟨3, s.at_, s.t, dqUp s.t⟩)
def dqGive (s : DqS) (v : Int) (won : Bool) : DqS :=
  if s.kind = 1 then
    (if s.step = 1 then { s with b := v, step := 2 }
     else if s.step = 2 then (if s.size ≤ dqAhead s.b v then { s with t := v, step := 3, over := some ⟨4, 0, []⟩ } else { s with t := v, step := 3 })
     else if s.step = 3 then { s with step := 4 }
     else { s with step := 5, over := some ⟨0, 0, []⟩ })
  else if s.kind = 2 then
    (if s.step = 1 then { s with b := (v - 1) % 18446744073709551616, step := 2 }
     else if s.step = 2 then { s with step := 3 }
     else if s.step = 3 then { s with t := v, step := 4 }
     else if s.step = 4 then
       (if dqAhead s.b s.t < 0 then { s with over := some ⟨5, 0, []⟩ }
        else if 0 < dqAhead s.b s.t then { s with v := v, step := 5, over := some ⟨0, v, []⟩ } else { s with v := v, step := 5 })
     else if s.step = 5 then { s with won := won, step := 6 }
     else { s with step := 7, over := some (if s.won then ⟨0, s.v, []⟩ else ⟨5, 0, []⟩) })
  else
    (if s.step = 1 then { s with t := v, step := 2 }
     else if s.step = 2 then (if dqAhead v s.t < 1 then { s with b := v, step := 3, over := some ⟨5, 0, []⟩ } else { s with b := v, step := 3 })
     else if s.step = 3 then { s with v := v, step := 4 }
     else { s with step := 5, over := some (if won then ⟨0, s.v, []⟩ else ⟨6, 0, []⟩) })
def dqHeld (s : DqS) : List Int :=
  if s.over.isSome then [] else if s.kind = 1 then [s.task] else if s.kind = 2 ∧ s.step = 6 ∧ s.won = true then [s.v] else []
def dequeM : Mach DqS where
  want s := if s.over.isSome then none else some (dqWant s)
  res s := s.over
  held := dqHeld
  give s v won := if s.over.isSome then s else dqGive s v won
/-- Whether there can be such a deque. -/
def dqRight (at_ size : Int) : Prop := (size = 2 ∨ size = 4 ∨ size = 8 ∨ size = 16 ∨ size = 32 ∨ size = 64 ∨ size = 128 ∨ size = 256) ∧ 0 ≤ at_ ∧ at_ < 65536 - size - 1
instance (at_ size : Int) : Decidable (dqRight at_ size) := by unfold dqRight; infer_instance
/-- A Push, a Pop, a Steal, at the beginning. -/
def dqNew (at_ size kind v : Int) : DqS := ⟨at_, size, kind, v, 1, 0, 0, 0, false, if dqRight at_ size then none else some ⟨2, 0, []⟩⟩

/-- The number x behind fr. -/
def dqU (fr x : Int) : Int := (fr + x) % 18446744073709551616
theorem dqU_range (fr x : Int) : 0 ≤ dqU fr x ∧ dqU fr x < 18446744073709551616 := by unfold dqU; omega
theorem dqU_up (fr x : Int) : dqUp (dqU fr x) = dqU fr (x + 1) := by unfold dqUp dqU; omega
theorem dqU_down (fr x : Int) : (dqU fr x - 1) % 18446744073709551616 = dqU fr (x - 1) := by unfold dqU; omega
theorem dqU_inj (fr x y : Int) (h : dqU fr x = dqU fr y) (h1 : x - y < 9223372036854775808) (h2 : y - x < 9223372036854775808) : x = y := by unfold dqU at h; omega
theorem dqAhead_U (fr x y : Int) (h1 : -9223372036854775808 ≤ x - y) (h2 : x - y < 9223372036854775808) : dqAhead (dqU fr x) (dqU fr y) = x - y := by unfold dqAhead dqU; omega
/-- Slots of numbers that are near each other are others. -/
theorem dqSlot_ne {fr size x y : Int} (hs : size = 2 ∨ size = 4 ∨ size = 8 ∨ size = 16 ∨ size = 32 ∨ size = 64 ∨ size = 128 ∨ size = 256) (h1 : x < y) (h2 : y - x < size) : dqSlot 0 size (dqU fr x) ≠ dqSlot 0 size (dqU fr y) := by
  unfold dqSlot dqU
  rcases hs with rfl | rfl | rfl | rfl | rfl | rfl | rfl | rfl <;> omega
theorem dqSlot_range {at_ size n : Int} (hs : 0 < size) : at_ + 2 ≤ dqSlot at_ size n ∧ dqSlot at_ size n < at_ + 2 + size := by
  unfold dqSlot
  have h1 := Int.emod_nonneg n (show size ≠ 0 by omega)
  have h2 := Int.emod_lt_of_pos n hs
  omega
end Go.Proofs.YtjbgkaleickknaaGreat
