/-
  No cell of these rows narrows 'for every input' (looked for: loops, veiled, ifaces, maps, wideKeys, modest, calm, conditions, laid).
  DERIVED. THE GIVEN ROWS OF THIS SEAT. 3 by the template 'for every input the law returns true; each argument reads behind the call as it read before'; 0 by the template 'total and deterministic' (their statements: YtjfgpplnlepnoaaGreatTotals.lean).
  GIVEN WITH THE SEED: the statements are not yours to turn. If you find one false, say at which input.
  Laid BY PROGRAM, IN A SANDBOX (cutbox-rows.mjs): the forced cells as the released guide's own fill.sh prints them over the translation 726699eb7763b01e… (all of the seat's roots in one cut). By AI agents, Wed Nov 11 2026. No macro, syntax, notation, axiom, sorry.
-/
import Derived.Test.YtjfgpplnlepnoaaGreatChecked
import GoSem.Claim
import GoSem.ClaimJoined
import GoSem.ClaimMapViews
import Derived.JoinedTies
import Derived.KernelRfl
namespace Go.Proofs.YtjfgpplnlepnoaaGreat
/- THE CELL 'sum', in the pinned program and in every row, IS THE sha256 OF THE DUMP (.gsa) THAT YtjfgpplnlepnoaaGreatProg.lean LOADS. Nothing in Lean hashes anything: it is a label: what it is worth is what the hold of that sum in a sandbox is worth. -/
noncomputable def Tryz.pinned : Pinned := { name := "ytjfgpplnlepnoaagreat", sum := "726699eb7763b01e1a7933fc1c2cf210dc729d6e26031354fed65836ed51f7a8", checked := Tryz.checked }
namespace Rows
def none {H : Type} : Left H := { results := [], args := [] }

/-- 'coachyardlaw13.LocalSteps': WHATEVER THE INPUT: true; the input reads as it did. -/
def localStepsSpec : ChangeSpec := { name := "localSteps", fn := fun _ => fun
  | [d1, d2, d3, d4, d5] => { results := [.lit (.bool true)], args := [d1, d2, d3, d4, d5] }
  | _ => none }
def localStepsRow : OpenClaim := { program := "ytjfgpplnlepnoaagreat", sum := "726699eb7763b01e1a7933fc1c2cf210dc729d6e26031354fed65836ed51f7a8", func := "coachyard/coachyardlaw13.LocalSteps", spec := "localSteps", unfollowed := true, recurses := true, apart := false }
def LocalStepsSaid : Prop := localStepsRow.holds Tryz.pinned (OpenSpec.ofChange localStepsSpec)

/-- ITS FALSE NEIGHBOUR: 'it returns false'. Refute it at one input. -/
def localStepsWrong : ChangeSpec := { name := "localSteps", fn := fun _ => fun
  | [d1, d2, d3, d4, d5] => { results := [.lit (.bool false)], args := [d1, d2, d3, d4, d5] }
  | _ => none }
def LocalStepsWrongFalsely : Prop := localStepsRow.holds Tryz.pinned (OpenSpec.ofChange localStepsWrong)

/-- 'coachyardlaw13.LocalAll': WHATEVER THE INPUT: true; the input reads as it did. -/
def localAllSpec : ChangeSpec := { name := "localAll", fn := fun _ => fun
  | [d1, d2] => { results := [.lit (.bool true)], args := [d1, d2] }
  | _ => none }
def localAllRow : OpenClaim := { program := "ytjfgpplnlepnoaagreat", sum := "726699eb7763b01e1a7933fc1c2cf210dc729d6e26031354fed65836ed51f7a8", func := "coachyard/coachyardlaw13.LocalAll", spec := "localAll", unfollowed := true, recurses := true, apart := false }
def LocalAllSaid : Prop := localAllRow.holds Tryz.pinned (OpenSpec.ofChange localAllSpec)

/-- ITS FALSE NEIGHBOUR: 'it returns false'. Refute it at one input. -/
def localAllWrong : ChangeSpec := { name := "localAll", fn := fun _ => fun
  | [d1, d2] => { results := [.lit (.bool false)], args := [d1, d2] }
  | _ => none }
def LocalAllWrongFalsely : Prop := localAllRow.holds Tryz.pinned (OpenSpec.ofChange localAllWrong)

/-- 'coachyardlaw13.LocalPeeks': WHATEVER THE INPUT: true; the input reads as it did. -/
def localPeeksSpec : ChangeSpec := { name := "localPeeks", fn := fun _ => fun
  | [d1, d2, d3] => { results := [.lit (.bool true)], args := [d1, d2, d3] }
  | _ => none }
def localPeeksRow : OpenClaim := { program := "ytjfgpplnlepnoaagreat", sum := "726699eb7763b01e1a7933fc1c2cf210dc729d6e26031354fed65836ed51f7a8", func := "coachyard/coachyardlaw13.LocalPeeks", spec := "localPeeks", unfollowed := true, recurses := true, apart := false }
def LocalPeeksSaid : Prop := localPeeksRow.holds Tryz.pinned (OpenSpec.ofChange localPeeksSpec)

/-- ITS FALSE NEIGHBOUR: 'it returns false'. Refute it at one input. -/
def localPeeksWrong : ChangeSpec := { name := "localPeeks", fn := fun _ => fun
  | [d1, d2, d3] => { results := [.lit (.bool false)], args := [d1, d2, d3] }
  | _ => none }
def LocalPeeksWrongFalsely : Prop := localPeeksRow.holds Tryz.pinned (OpenSpec.ofChange localPeeksWrong)

/- THE SECOND FORM. 'bulk': how many values and letters a reading holds, each counted each time it is reached (what is shared counts as often as it is met; a slice's spare places count too). A statement '..UptoSaid' is the law's where the arguments, and the package variables that the reading takes, are together of bulk at most 1048576: NARROWER than '..Said'. Prove '..Said' where nothing that the law and all that it calls make is longer than what came in: it says more and counts as full. Else prove '..UptoSaid'. A law counts once. -/
mutual
def uptoBulk {H : Type} : DataW H → Nat
  | .lit (.string bytes) => bytes.length + 1
  | .lit _ => 1
  | .nil => 1
  | .ptr d => uptoBulk d + 1
  | .slice elems spare => uptoBulkAll elems + uptoBulkAll spare + 1
  | .agg parts => uptoBulkAll parts + 1
  | .iface _ d => uptoBulk d + 1
  | .map entries => uptoBulkEntries entries + 1
  | .held _ => 1
def uptoBulkAll {H : Type} : List (DataW H) → Nat
  | [] => 0
  | d :: r => uptoBulk d + uptoBulkAll r
def uptoBulkEntries {H : Type} : List (Lit × DataW H) → Nat
  | [] => 0
  | x :: r => uptoBulkEntry x + uptoBulkEntries r
def uptoBulkEntry {H : Type} : Lit × DataW H → Nat
  | (.string bytes, d) => bytes.length + uptoBulk d + 1
  | (_, d) => uptoBulk d + 1
 end
def uptoSmall : (H : Type) → List (DataW H) → Bool := fun _ ds => decide (uptoBulkAll ds ≤ 1048576)
def OpenSpec.upto (s : _root_.Go.ChangeSpec) : _root_.Go.OpenSpec := { _root_.Go.OpenSpec.ofChange s with cond := some uptoSmall }

/-- 'coachyardlaw13.LocalSteps', WHERE WHAT IT READS IS OF BULK AT MOST 1048576: true; the input reads as it did. -/
def localStepsUptoRow : OpenClaim := { program := "ytjfgpplnlepnoaagreat", sum := "726699eb7763b01e1a7933fc1c2cf210dc729d6e26031354fed65836ed51f7a8", func := "coachyard/coachyardlaw13.LocalSteps", spec := "localSteps", unfollowed := true, recurses := true, apart := false, narrowed := true }
def LocalStepsUptoSaid : Prop := localStepsUptoRow.holds Tryz.pinned (OpenSpec.upto localStepsSpec)

/-- 'coachyardlaw13.LocalAll', WHERE WHAT IT READS IS OF BULK AT MOST 1048576: true; the input reads as it did. -/
def localAllUptoRow : OpenClaim := { program := "ytjfgpplnlepnoaagreat", sum := "726699eb7763b01e1a7933fc1c2cf210dc729d6e26031354fed65836ed51f7a8", func := "coachyard/coachyardlaw13.LocalAll", spec := "localAll", unfollowed := true, recurses := true, apart := false, narrowed := true }
def LocalAllUptoSaid : Prop := localAllUptoRow.holds Tryz.pinned (OpenSpec.upto localAllSpec)

/-- 'coachyardlaw13.LocalPeeks', WHERE WHAT IT READS IS OF BULK AT MOST 1048576: true; the input reads as it did. -/
def localPeeksUptoRow : OpenClaim := { program := "ytjfgpplnlepnoaagreat", sum := "726699eb7763b01e1a7933fc1c2cf210dc729d6e26031354fed65836ed51f7a8", func := "coachyard/coachyardlaw13.LocalPeeks", spec := "localPeeks", unfollowed := true, recurses := true, apart := false, narrowed := true }
def LocalPeeksUptoSaid : Prop := localPeeksUptoRow.holds Tryz.pinned (OpenSpec.upto localPeeksSpec)

end Rows
end Go.Proofs.YtjfgpplnlepnoaaGreat
