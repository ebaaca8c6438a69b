/-
  No cell of these rows narrows 'for every input' (looked for: loops, veiled, ifaces, maps, wideKeys, modest, calm, conditions, laid).
  DERIVED. THE GIVEN ROWS OF THIS SEAT. 3 by the template 'for every input the law returns true; each argument reads behind the call as it read before'; 0 by the template 'total and deterministic' (their statements: YtplmmflpodpbmaaTotals.lean).
  GIVEN WITH THE SEED: the statements are not yours to turn. If you find one false, say at which input.
  Laid BY PROGRAM, IN A SANDBOX (cutbox-rows.mjs): the forced cells as the released guide's own fill.sh prints them over the translation 3c7e1e58ec38f177… (all of the seat's roots in one cut). By AI agents, Wed Nov 11 2026. No macro, syntax, notation, axiom, sorry.
-/
import Derived.Test.YtplmmflpodpbmaaChecked
import GoSem.Claim
import GoSem.ClaimJoined
import GoSem.ClaimMapViews
import Derived.JoinedTies
import Derived.KernelRfl
namespace Go.Proofs.Ytplmmflpodpbmaa
/- THE CELL 'sum', in the pinned program and in every row, IS THE sha256 OF THE DUMP (.gsa) THAT YtplmmflpodpbmaaProg.lean LOADS. Nothing in Lean hashes anything: it is a label: what it is worth is what the hold of that sum in a sandbox is worth. -/
noncomputable def Try.pinned : Pinned := { name := "ytplmmflpodpbmaa", sum := "3c7e1e58ec38f17756c67977d01e6c0b8857369acc11c74e42e160cdac380d4d", checked := Try.checked }
namespace Rows
def none {H : Type} : Left H := { results := [], args := [] }

/-- 'coachyardlaw05.LoomAdds': WHATEVER THE INPUT: true; the input reads as it did. -/
def loomAddsSpec : ChangeSpec := { name := "loomAdds", fn := fun _ => fun
  | [d1, d2, d3] => { results := [.lit (.bool true)], args := [d1, d2, d3] }
  | _ => none }
def loomAddsRow : OpenClaim := { program := "ytplmmflpodpbmaa", sum := "3c7e1e58ec38f17756c67977d01e6c0b8857369acc11c74e42e160cdac380d4d", func := "coachyard/coachyardlaw05.LoomAdds", spec := "loomAdds", unfollowed := true, recurses := true, apart := false }
def LoomAddsSaid : Prop := loomAddsRow.holds Try.pinned (OpenSpec.ofChange loomAddsSpec)

/-- ITS FALSE NEIGHBOUR: 'it returns false'. Refute it at one input. -/
def loomAddsWrong : ChangeSpec := { name := "loomAdds", fn := fun _ => fun
  | [d1, d2, d3] => { results := [.lit (.bool false)], args := [d1, d2, d3] }
  | _ => none }
def LoomAddsWrongFalsely : Prop := loomAddsRow.holds Try.pinned (OpenSpec.ofChange loomAddsWrong)

/-- 'coachyardlaw05.LoomWaits': WHATEVER THE INPUT: true; the input reads as it did. -/
def loomWaitsSpec : ChangeSpec := { name := "loomWaits", fn := fun _ => fun
  | [d1, d2] => { results := [.lit (.bool true)], args := [d1, d2] }
  | _ => none }
def loomWaitsRow : OpenClaim := { program := "ytplmmflpodpbmaa", sum := "3c7e1e58ec38f17756c67977d01e6c0b8857369acc11c74e42e160cdac380d4d", func := "coachyard/coachyardlaw05.LoomWaits", spec := "loomWaits", unfollowed := true, recurses := true, apart := false }
def LoomWaitsSaid : Prop := loomWaitsRow.holds Try.pinned (OpenSpec.ofChange loomWaitsSpec)

/-- ITS FALSE NEIGHBOUR: 'it returns false'. Refute it at one input. -/
def loomWaitsWrong : ChangeSpec := { name := "loomWaits", fn := fun _ => fun
  | [d1, d2] => { results := [.lit (.bool false)], args := [d1, d2] }
  | _ => none }
def LoomWaitsWrongFalsely : Prop := loomWaitsRow.holds Try.pinned (OpenSpec.ofChange loomWaitsWrong)

/-- 'coachyardlaw05.LoomNil': WHATEVER THE INPUT: true; the input reads as it did. -/
def loomNilSpec : ChangeSpec := { name := "loomNil", fn := fun _ => fun
  | [d1, d2, d3] => { results := [.lit (.bool true)], args := [d1, d2, d3] }
  | _ => none }
def loomNilRow : OpenClaim := { program := "ytplmmflpodpbmaa", sum := "3c7e1e58ec38f17756c67977d01e6c0b8857369acc11c74e42e160cdac380d4d", func := "coachyard/coachyardlaw05.LoomNil", spec := "loomNil", unfollowed := true, recurses := true, apart := false }
def LoomNilSaid : Prop := loomNilRow.holds Try.pinned (OpenSpec.ofChange loomNilSpec)

/-- ITS FALSE NEIGHBOUR: 'it returns false'. Refute it at one input. -/
def loomNilWrong : ChangeSpec := { name := "loomNil", fn := fun _ => fun
  | [d1, d2, d3] => { results := [.lit (.bool false)], args := [d1, d2, d3] }
  | _ => none }
def LoomNilWrongFalsely : Prop := loomNilRow.holds Try.pinned (OpenSpec.ofChange loomNilWrong)

/- THE SECOND FORM. 'bulk': how many values and letters a reading holds, each counted each time it is reached (what is shared counts as often as it is met; a slice's spare places count too). A statement '..UptoSaid' is the law's where the arguments, and the package variables that the reading takes, are together of bulk at most 1048576: NARROWER than '..Said'. Prove '..Said' where nothing that the law and all that it calls make is longer than what came in: it says more and counts as full. Else prove '..UptoSaid'. A law counts once. -/
mutual
def uptoBulk {H : Type} : DataW H → Nat
  | .lit (.string bytes) => bytes.length + 1
  | .lit _ => 1
  | .nil => 1
  | .ptr d => uptoBulk d + 1
  | .slice elems spare => uptoBulkAll elems + uptoBulkAll spare + 1
  | .agg parts => uptoBulkAll parts + 1
  | .iface _ d => uptoBulk d + 1
  | .map entries => uptoBulkEntries entries + 1
  | .held _ => 1
def uptoBulkAll {H : Type} : List (DataW H) → Nat
  | [] => 0
  | d :: r => uptoBulk d + uptoBulkAll r
def uptoBulkEntries {H : Type} : List (Lit × DataW H) → Nat
  | [] => 0
  | x :: r => uptoBulkEntry x + uptoBulkEntries r
def uptoBulkEntry {H : Type} : Lit × DataW H → Nat
  | (.string bytes, d) => bytes.length + uptoBulk d + 1
  | (_, d) => uptoBulk d + 1
 end
def uptoSmall : (H : Type) → List (DataW H) → Bool := fun _ ds => decide (uptoBulkAll ds ≤ 1048576)
def OpenSpec.upto (s : _root_.Go.ChangeSpec) : _root_.Go.OpenSpec := { _root_.Go.OpenSpec.ofChange s with cond := some uptoSmall }

/-- 'coachyardlaw05.LoomAdds', WHERE WHAT IT READS IS OF BULK AT MOST 1048576: true; the input reads as it did. -/
def loomAddsUptoRow : OpenClaim := { program := "ytplmmflpodpbmaa", sum := "3c7e1e58ec38f17756c67977d01e6c0b8857369acc11c74e42e160cdac380d4d", func := "coachyard/coachyardlaw05.LoomAdds", spec := "loomAdds", unfollowed := true, recurses := true, apart := false, narrowed := true }
def LoomAddsUptoSaid : Prop := loomAddsUptoRow.holds Try.pinned (OpenSpec.upto loomAddsSpec)

/-- 'coachyardlaw05.LoomWaits', WHERE WHAT IT READS IS OF BULK AT MOST 1048576: true; the input reads as it did. -/
def loomWaitsUptoRow : OpenClaim := { program := "ytplmmflpodpbmaa", sum := "3c7e1e58ec38f17756c67977d01e6c0b8857369acc11c74e42e160cdac380d4d", func := "coachyard/coachyardlaw05.LoomWaits", spec := "loomWaits", unfollowed := true, recurses := true, apart := false, narrowed := true }
def LoomWaitsUptoSaid : Prop := loomWaitsUptoRow.holds Try.pinned (OpenSpec.upto loomWaitsSpec)

/-- 'coachyardlaw05.LoomNil', WHERE WHAT IT READS IS OF BULK AT MOST 1048576: true; the input reads as it did. -/
def loomNilUptoRow : OpenClaim := { program := "ytplmmflpodpbmaa", sum := "3c7e1e58ec38f17756c67977d01e6c0b8857369acc11c74e42e160cdac380d4d", func := "coachyard/coachyardlaw05.LoomNil", spec := "loomNil", unfollowed := true, recurses := true, apart := false, narrowed := true }
def LoomNilUptoSaid : Prop := loomNilUptoRow.holds Try.pinned (OpenSpec.upto loomNilSpec)

end Rows
end Go.Proofs.Ytplmmflpodpbmaa
