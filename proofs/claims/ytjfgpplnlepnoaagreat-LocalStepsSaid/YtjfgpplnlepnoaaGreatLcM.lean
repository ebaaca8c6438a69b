import Derived.Test.YtjfgpplnlepnoaaGreatRgM
/-
  The machine of a peek, at a row of either kind or a queue; and of any walk of a local row.
-/
namespace Go.Proofs.YtjfgpplnlepnoaaGreat
set_option maxRecDepth 100000
set_option linter.unusedSimpArgs false
set_option linter.unusedVariables false
open Go

/-- A peek at a deque (kind 0), a ring (1), a queue (2; of n nodes), at its first Load (step 0) or its second one. -/
structure LkS where
  kind : Int
  at_ : Int
  n : Int
  step : Int
  x : Int
  over : Option Rs
def lkWant (s : LkS) : C.Acc :=
  if s.step = 0 then ⟨1, s.at_, 0, 0⟩ else if s.kind = 2 then ⟨1, s.at_ + 2 + 2 * s.n + rgLo s.x, 0, 0⟩ else ⟨1, s.at_ + 1, 0, 0⟩
/-- Whether there is a task, by what its two cells are. -/
def lkIs (kind x v : Int) : Bool :=
  if kind = 0 then decide (1 ≤ dqAhead v x) else if kind = 1 then decide (1 ≤ M.aheadI (rgLo v) (rgLo x)) else decide (rgLo v ≠ 0)
def lkV (b : Bool) : Int := if b then 1 else 0
def lkGive (s : LkS) (v : Int) : LkS :=
  if s.step = 0 then (if s.kind = 2 ∧ (rgLo v < 1 ∨ s.n < rgLo v) then { s with x := v, step := 1, over := some ⟨9, 0, []⟩ } else { s with x := v, step := 1 })
  else { s with over := some ⟨0, lkV (lkIs s.kind s.x v), []⟩ }
def lkM : Mach LkS where
  want s := if s.over.isSome then none else some (lkWant s)
  res s := s.over
  held _ := []
  give s v _ := if s.over.isSome then s else lkGive s v
def lkQRight (at_ n : Int) : Prop := 2 ≤ n ∧ n ≤ 4096 ∧ 0 ≤ at_ ∧ at_ < 65536 - 3 * n - 2
instance (at_ n : Int) : Decidable (lkQRight at_ n) := by unfold lkQRight; infer_instance
/-- A peek, at its beginning; fits: whether there can be such a one. -/
def lkNew (kind at_ n : Int) (fits : Bool) : LkS := ⟨kind, at_, n, 0, 0, if fits then none else some ⟨2, 0, []⟩⟩

/-- A walk of a local row: of its deque, of its ring, or of its own. -/
inductive LcS
  | dq (s : DqS)
  | rg (s : RgS)
  | lk (s : LkS)
def lcM : Mach LcS where
  want | .dq s => dequeM.want s | .rg s => ringM.want s | .lk s => lkM.want s
  res | .dq s => dequeM.res s | .rg s => ringM.res s | .lk s => lkM.res s
  held | .dq s => dequeM.held s | .rg s => ringM.held s | .lk s => lkM.held s
  give | .dq s, v, won => .dq (dequeM.give s v won) | .rg s, v, won => .rg (ringM.give s v won) | .lk s, v, won => .lk (lkM.give s v won)
/-- A walk that is refused. -/
def lcNo : LcS := .lk (lkNew 0 0 0 false)
def lcRight (kind at_ size : Int) : Prop := (kind = 0 ∨ kind = 1) ∧ dqRight at_ size
instance (kind at_ size : Int) : Decidable (lcRight kind at_ size) := by unfold lcRight; infer_instance
def lcPush (kind at_ size v : Int) : LcS := if kind = 0 then .dq (dqNew at_ size 1 v) else if kind = 1 then .rg (rgBegin at_ size 1 v 0 (decide (dqRight at_ size))) else lcNo
def lcPop (kind at_ size : Int) : LcS := if kind = 0 then .dq (dqNew at_ size 2 0) else if kind = 1 then .rg (rgBegin at_ size 2 0 0 (decide (dqRight at_ size))) else lcNo
def lcSteal (kind at_ size kind2 at2 size2 : Int) : LcS :=
  if ¬ lcRight kind2 at2 size2 then lcNo
  else if kind = 0 then (if kind2 = 0 then .dq (dqNew at_ size 3 0) else lcNo)
  else if kind = 1 then (if kind2 = 1 then .rg (rgBegin at_ size 3 0 at2 (decide (rgFeeds at_ size at2 size2))) else lcNo) else lcNo
def lcPeek (kind at_ size : Int) : LcS := if kind = 0 ∨ kind = 1 then .lk (lkNew kind at_ 0 (decide (lcRight kind at_ size))) else lcNo
def lcLine (at_ n : Int) : LcS := .lk (lkNew 2 at_ n (decide (lkQRight at_ n)))
end Go.Proofs.YtjfgpplnlepnoaaGreat
