import Derived.Test.YtjbgkaleickknaaGreatDqM
/-
  The machine of a ring's Push, Pop and Steal.
-/
namespace Go.Proofs.YtjbgkaleickknaaGreat
set_option maxRecDepth 100000
set_option linter.unusedSimpArgs false
set_option linter.unusedVariables false
open Go

/-- A Push (kind 1), a Pop (2) or a Steal (3), at a step, as the document numbers these (60: what was loaded is stored). -/
structure RgS where
  at_ : Int
  size : Int
  kind : Int
  task : Int
  target : Int
  step : Int
  h : Int
  t : Int
  u : Int
  n : Int
  k : Int
  took : List Int
  over : Option Rs
def rgHi (h : Int) : Int := h / 4294967296
def rgLo (h : Int) : Int := h % 4294967296
def rgAdd (a b : Int) : Int := (a + b) % 4294967296
def rgPair (a b : Int) : Int := a * 4294967296 + b
def rgWant (s : RgS) : C.Acc :=
  if s.kind = 1 then
    (if s.step = 1 then ⟨1, s.at_, 0, 0⟩ else if s.step = 2 then ⟨1, s.at_ + 1, 0, 0⟩ else if s.step = 3 then ⟨2, dqSlot s.at_ s.size s.t, s.task, 0⟩ else if s.step = 4 then ⟨2, s.at_ + 1, rgAdd s.t 1, 0⟩
     else if s.step = 5 then ⟨3, s.at_, s.h, rgPair (rgAdd (rgLo s.h) (s.size / 2)) (rgAdd (rgLo s.h) (s.size / 2))⟩ else ⟨1, dqSlot s.at_ s.size (rgAdd (rgLo s.h) s.k), 0, 0⟩)
  else if s.kind = 2 then
    (if s.step = 1 then ⟨1, s.at_, 0, 0⟩ else if s.step = 2 then ⟨1, s.at_ + 1, 0, 0⟩
     else if s.step = 3 then ⟨3, s.at_, s.h, rgPair (if rgHi s.h = rgLo s.h then rgAdd (rgLo s.h) 1 else rgHi s.h) (rgAdd (rgLo s.h) 1)⟩ else ⟨1, dqSlot s.at_ s.size (rgLo s.h), 0, 0⟩)
  else
    (if s.step = 1 then ⟨1, s.target + 1, 0, 0⟩ else if s.step = 2 then ⟨1, s.target, 0, 0⟩ else if s.step = 3 then ⟨1, s.at_, 0, 0⟩ else if s.step = 4 then ⟨1, s.at_ + 1, 0, 0⟩
     else if s.step = 5 then ⟨3, s.at_, s.h, rgPair (rgHi s.h) (rgAdd (rgLo s.h) s.n)⟩ else if s.step = 6 then ⟨1, dqSlot s.at_ s.size (rgAdd s.t s.k), 0, 0⟩
     else if s.step = 60 then ⟨2, dqSlot s.target s.size (rgAdd s.u s.k), s.took.getD s.k.toNat 0, 0⟩ else if s.step = 7 then ⟨1, s.at_, 0, 0⟩
     else if s.step = 8 then ⟨3, s.at_, s.h, rgPair (rgLo s.h) (rgLo s.h)⟩ else ⟨2, s.target + 1, rgAdd s.u (s.n - 1), 0⟩)
def rgPushGive (s : RgS) (v : Int) (won : Bool) : RgS :=
  if s.step = 1 then { s with h := v, step := 2 }
  else if s.step = 2 then
    (if M.aheadI (rgLo v) (rgHi s.h) < s.size then { s with t := rgLo v, step := 3 }
     else if rgHi s.h = rgLo s.h then { s with t := rgLo v, step := 5 } else { s with t := rgLo v, step := 5, over := some ⟨8, 0, []⟩ })
  else if s.step = 3 then { s with step := 4 }
  else if s.step = 4 then { s with over := some ⟨0, 0, []⟩ }
  else if s.step = 5 then (if won then { s with step := 6 } else { s with h := v, step := 2 })
  else (if s.k + 1 = s.size / 2 then { s with took := s.took ++ [v], k := s.k + 1, over := some ⟨4, 0, s.took ++ [v]⟩ } else { s with took := s.took ++ [v], k := s.k + 1 })
def rgPopGive (s : RgS) (v : Int) (won : Bool) : RgS :=
  if s.step = 1 then { s with h := v, step := 2 }
  else if s.step = 2 then (if M.aheadI (rgLo v) (rgLo s.h) < 1 then { s with step := 3, over := some ⟨5, 0, []⟩ } else { s with step := 3 })
  else if s.step = 3 then (if won then { s with step := 4 } else { s with h := v, step := 2 })
  else { s with over := some ⟨0, v, []⟩ }
def rgCount (d : Int) : Int := d - Int.tdiv d 2
def rgLast (s : RgS) : Int := s.took.getD (s.n - 1).toNat 0
def rgStealGive (s : RgS) (v : Int) (won : Bool) : RgS :=
  if s.step = 1 then { s with u := rgLo v, step := 2 }
  else if s.step = 2 then (if s.size / 2 < M.aheadI s.u (rgHi v) then { s with step := 3, over := some ⟨4, 0, []⟩ } else { s with step := 3 })
  else if s.step = 3 then { s with h := v, step := 4 }
  else if s.step = 4 then
    (if rgHi s.h = rgLo s.h then
      (if s.size < M.aheadI (rgLo v) (rgLo s.h) then { s with n := rgCount (M.aheadI (rgLo v) (rgLo s.h)), step := 3 }
       else if M.aheadI (rgLo v) (rgLo s.h) < 1 then { s with n := rgCount (M.aheadI (rgLo v) (rgLo s.h)), step := 5, over := some ⟨5, 0, []⟩ }
       else { s with n := rgCount (M.aheadI (rgLo v) (rgLo s.h)), step := 5 })
     else { s with n := rgCount (M.aheadI (rgLo v) (rgLo s.h)), step := 5, over := some ⟨8, 0, []⟩ })
  else if s.step = 5 then (if won then { s with t := rgLo s.h, step := 6 } else { s with h := v, step := 4 })
  else if s.step = 6 then (if s.k = s.n - 1 then { s with took := s.took ++ [v], step := 7 } else { s with took := s.took ++ [v], step := 60 })
  else if s.step = 60 then { s with k := s.k + 1, step := 6 }
  else if s.step = 7 then { s with h := v, step := 8 }
  else if s.step = 8 then (if won then (if s.n = 1 then { s with step := 9, over := some ⟨0, rgLast s, []⟩ } else { s with step := 9 }) else { s with h := v })
  else { s with over := some ⟨0, rgLast s, []⟩ }
def rgGive (s : RgS) (v : Int) (won : Bool) : RgS := if s.kind = 1 then rgPushGive s v won else if s.kind = 2 then rgPopGive s v won else rgStealGive s v won
def rgHeld (s : RgS) : List Int := if s.over.isSome then [] else if s.kind = 1 then s.task :: s.took else s.took
def ringM : Mach RgS where
  want s := if s.over.isSome then none else some (rgWant s)
  res s := s.over
  held := rgHeld
  give s v won := if s.over.isSome then s else rgGive s v won
/-- Whether half of a ring may be stolen into another one. -/
def rgFeeds (at_ size target tsize : Int) : Prop := dqRight at_ size ∧ dqRight target tsize ∧ size = tsize ∧ (at_ + size + 1 < target ∨ target + tsize + 1 < at_)
instance (at_ size target tsize : Int) : Decidable (rgFeeds at_ size target tsize) := by unfold rgFeeds; infer_instance
/-- A Push, a Pop, a Steal, at the beginning. -/
def rgBegin (at_ size kind v target : Int) (fits : Bool) : RgS := ⟨at_, size, kind, v, target, 1, 0, 0, 0, 0, 0, [], if fits then none else some ⟨2, 0, []⟩⟩

theorem rgHi_range {h : Int} (hu : M.U h) : 0 ≤ rgHi h ∧ rgHi h < 4294967296 := by have := hu.nn; have := hu.lt; unfold rgHi; omega
theorem rgLo_range (h : Int) : 0 ≤ rgLo h ∧ rgLo h < 4294967296 := by unfold rgLo; omega
theorem rgAdd_range (a b : Int) : 0 ≤ rgAdd a b ∧ rgAdd a b < 4294967296 := by unfold rgAdd; omega
theorem rgPair_U {a b : Int} (ha : 0 ≤ a ∧ a < 4294967296) (hb : 0 ≤ b ∧ b < 4294967296) : M.U (rgPair a b) := by unfold rgPair; exact ⟨by omega, by omega⟩
theorem rgCount_small {d : Int} (h1 : 1 ≤ d) : rgCount d = d - d / 2 := by
  unfold rgCount
  rw [Int.tdiv_eq_ediv_of_nonneg (by omega)]
theorem rgCount_less {d : Int} (h1 : d < 1) : rgCount d < 1 := by
  unfold rgCount
  rcases Int.lt_or_le d 0 with h | h
  · obtain ⟨e, rfl⟩ : ∃ e, d = -e := ⟨-d, by omega⟩
    rw [Int.neg_tdiv, Int.tdiv_eq_ediv_of_nonneg (by omega)]
    omega
  · obtain rfl : d = 0 := by omega
    decide
end Go.Proofs.YtjbgkaleickknaaGreat
