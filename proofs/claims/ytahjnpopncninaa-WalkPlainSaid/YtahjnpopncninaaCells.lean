/-
  Contracts: the package cells, and the reference's Do.
-/
import Derived.Test.YtahjnpopncninaaRows
import Derived.Test.YtahjnpopncninaaKeep
import Derived.Test.YtahjnpopncninaaMath
import Derived.LoopTactic
import Derived.StillTailTactics
import Derived.OwnWalk
import Derived.Outline
namespace Go.Proofs.Ytahjnpopncninaa
open Go.ChangeShapes Go.WideShapes Go.ChangeAt Go.RowKit

namespace C
/-- An access: its kind, its cell, A and B. -/
structure Acc where
  k : Int
  c : Int
  a : Int
  b : Int
@[reducible] def Acc.val (x : Acc) : Value := .agg #[.int .i64 x.k, .int .i64 x.c, .int .u64 x.a, .int .u64 x.b]
def Acc.ok (x : Acc) : Prop := M.U x.a ∧ M.U x.b
/-- What a cell is behind an access, and whether it won. -/
def deed (k was a b : Int) : Int × Bool :=
  if k = 2 then (a, true) else if k = 3 then (if was = a then (b, true) else (was, false)) else if k = 4 then ((was + a) % 18446744073709551616, true)
  else if k = 5 then (bits .or .u64 was a, true) else if k = 6 then (bits .and .u64 was a, true) else if k = 7 then (was, was != a) else (was, true)
def code (us : List Int) (x : Acc) : Int := if x.k < 1 ∨ 7 < x.k then 2 else if x.c < 0 ∨ (us.length : Int) ≤ x.c then 3 else 0
def told (us : List Int) (x : Acc) : Int := if code us x = 0 then us.getD x.c.toNat 0 else 0
def won (us : List Int) (x : Acc) : Bool := if code us x = 0 then (deed x.k (us.getD x.c.toNat 0) x.a x.b).2 else false
def next (us : List Int) (x : Acc) : List Int := if code us x = 0 then us.set x.c.toNat (deed x.k (us.getD x.c.toNat 0) x.a x.b).1 else us
end C

end Go.Proofs.Ytahjnpopncninaa
