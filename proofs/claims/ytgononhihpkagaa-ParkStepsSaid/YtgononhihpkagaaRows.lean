/-
  No cell of these rows narrows 'for every input' (looked for: loops, veiled, ifaces, maps, wideKeys, modest, calm, conditions, laid).
  DERIVED. THE GIVEN ROWS OF THIS SEAT. 3 by the template 'for every input the law returns true; each argument reads behind the call as it read before'; 0 by the template 'total and deterministic' (their statements: YtgononhihpkagaaTotals.lean).
  GIVEN WITH THE SEED: the statements are not yours to turn. If you find one false, say at which input.
  Laid BY PROGRAM, IN A SANDBOX (cutbox-rows.mjs): the forced cells as the released guide's own fill.sh prints them over the translation 6fa589c30c7b2106… (all of the seat's roots in one cut). By AI agents, Wed Nov 11 2026. No macro, syntax, notation, axiom, sorry.
-/
import Derived.Test.YtgononhihpkagaaChecked
import GoSem.Claim
import GoSem.ClaimJoined
import GoSem.ClaimMapViews
import Derived.JoinedTies
import Derived.KernelRfl
namespace Go.Proofs.Ytgononhihpkagaa
/- THE CELL 'sum', in the pinned program and in every row, IS THE sha256 OF THE DUMP (.gsa) THAT YtgononhihpkagaaProg.lean LOADS. Nothing in Lean hashes anything: it is a label: what it is worth is what the hold of that sum in a sandbox is worth. -/
noncomputable def Try.pinned : Pinned := { name := "ytgononhihpkagaa", sum := "6fa589c30c7b21067c7a54de2fb5949b30e1da4ba75a81450853c8a1a96eb35b", checked := Try.checked }
namespace Rows
def none {H : Type} : Left H := { results := [], args := [] }

/-- 'coachyardlaw11.ParkSteps': WHATEVER THE INPUT: true; the input reads as it did. -/
def parkStepsSpec : ChangeSpec := { name := "parkSteps", fn := fun _ => fun
  | [d1, d2, d3] => { results := [.lit (.bool true)], args := [d1, d2, d3] }
  | _ => none }
def parkStepsRow : OpenClaim := { program := "ytgononhihpkagaa", sum := "6fa589c30c7b21067c7a54de2fb5949b30e1da4ba75a81450853c8a1a96eb35b", func := "coachyard/coachyardlaw11.ParkSteps", spec := "parkSteps", unfollowed := true, recurses := true, apart := false }
def ParkStepsSaid : Prop := parkStepsRow.holds Try.pinned (OpenSpec.ofChange parkStepsSpec)

/-- ITS FALSE NEIGHBOUR: 'it returns false'. Refute it at one input. -/
def parkStepsWrong : ChangeSpec := { name := "parkSteps", fn := fun _ => fun
  | [d1, d2, d3] => { results := [.lit (.bool false)], args := [d1, d2, d3] }
  | _ => none }
def ParkStepsWrongFalsely : Prop := parkStepsRow.holds Try.pinned (OpenSpec.ofChange parkStepsWrong)

/-- 'coachyardlaw11.ParkLooks': WHATEVER THE INPUT: true; the input reads as it did. -/
def parkLooksSpec : ChangeSpec := { name := "parkLooks", fn := fun _ => fun
  | [d1, d2] => { results := [.lit (.bool true)], args := [d1, d2] }
  | _ => none }
def parkLooksRow : OpenClaim := { program := "ytgononhihpkagaa", sum := "6fa589c30c7b21067c7a54de2fb5949b30e1da4ba75a81450853c8a1a96eb35b", func := "coachyard/coachyardlaw11.ParkLooks", spec := "parkLooks", unfollowed := true, recurses := true, apart := false }
def ParkLooksSaid : Prop := parkLooksRow.holds Try.pinned (OpenSpec.ofChange parkLooksSpec)

/-- ITS FALSE NEIGHBOUR: 'it returns false'. Refute it at one input. -/
def parkLooksWrong : ChangeSpec := { name := "parkLooks", fn := fun _ => fun
  | [d1, d2] => { results := [.lit (.bool false)], args := [d1, d2] }
  | _ => none }
def ParkLooksWrongFalsely : Prop := parkLooksRow.holds Try.pinned (OpenSpec.ofChange parkLooksWrong)

/-- 'coachyardlaw11.ParkWakes': WHATEVER THE INPUT: true; the input reads as it did. -/
def parkWakesSpec : ChangeSpec := { name := "parkWakes", fn := fun _ => fun
  | [d1, d2] => { results := [.lit (.bool true)], args := [d1, d2] }
  | _ => none }
def parkWakesRow : OpenClaim := { program := "ytgononhihpkagaa", sum := "6fa589c30c7b21067c7a54de2fb5949b30e1da4ba75a81450853c8a1a96eb35b", func := "coachyard/coachyardlaw11.ParkWakes", spec := "parkWakes", unfollowed := true, recurses := true, apart := false }
def ParkWakesSaid : Prop := parkWakesRow.holds Try.pinned (OpenSpec.ofChange parkWakesSpec)

/-- ITS FALSE NEIGHBOUR: 'it returns false'. Refute it at one input. -/
def parkWakesWrong : ChangeSpec := { name := "parkWakes", fn := fun _ => fun
  | [d1, d2] => { results := [.lit (.bool false)], args := [d1, d2] }
  | _ => none }
def ParkWakesWrongFalsely : Prop := parkWakesRow.holds Try.pinned (OpenSpec.ofChange parkWakesWrong)

/- THE SECOND FORM. 'bulk': how many values and letters a reading holds, each counted each time it is reached (what is shared counts as often as it is met; a slice's spare places count too). A statement '..UptoSaid' is the law's where the arguments, and the package variables that the reading takes, are together of bulk at most 1048576: NARROWER than '..Said'. Prove '..Said' where nothing that the law and all that it calls make is longer than what came in: it says more and counts as full. Else prove '..UptoSaid'. A law counts once. -/
mutual
def uptoBulk {H : Type} : DataW H → Nat
  | .lit (.string bytes) => bytes.length + 1
  | .lit _ => 1
  | .nil => 1
  | .ptr d => uptoBulk d + 1
  | .slice elems spare => uptoBulkAll elems + uptoBulkAll spare + 1
  | .agg parts => uptoBulkAll parts + 1
  | .iface _ d => uptoBulk d + 1
  | .map entries => uptoBulkEntries entries + 1
  | .held _ => 1
def uptoBulkAll {H : Type} : List (DataW H) → Nat
  | [] => 0
  | d :: r => uptoBulk d + uptoBulkAll r
def uptoBulkEntries {H : Type} : List (Lit × DataW H) → Nat
  | [] => 0
  | x :: r => uptoBulkEntry x + uptoBulkEntries r
def uptoBulkEntry {H : Type} : Lit × DataW H → Nat
  | (.string bytes, d) => bytes.length + uptoBulk d + 1
  | (_, d) => uptoBulk d + 1
 end
def uptoSmall : (H : Type) → List (DataW H) → Bool := fun _ ds => decide (uptoBulkAll ds ≤ 1048576)
def OpenSpec.upto (s : _root_.Go.ChangeSpec) : _root_.Go.OpenSpec := { _root_.Go.OpenSpec.ofChange s with cond := some uptoSmall }

/-- 'coachyardlaw11.ParkSteps', WHERE WHAT IT READS IS OF BULK AT MOST 1048576: true; the input reads as it did. -/
def parkStepsUptoRow : OpenClaim := { program := "ytgononhihpkagaa", sum := "6fa589c30c7b21067c7a54de2fb5949b30e1da4ba75a81450853c8a1a96eb35b", func := "coachyard/coachyardlaw11.ParkSteps", spec := "parkSteps", unfollowed := true, recurses := true, apart := false, narrowed := true }
def ParkStepsUptoSaid : Prop := parkStepsUptoRow.holds Try.pinned (OpenSpec.upto parkStepsSpec)

/-- 'coachyardlaw11.ParkLooks', WHERE WHAT IT READS IS OF BULK AT MOST 1048576: true; the input reads as it did. -/
def parkLooksUptoRow : OpenClaim := { program := "ytgononhihpkagaa", sum := "6fa589c30c7b21067c7a54de2fb5949b30e1da4ba75a81450853c8a1a96eb35b", func := "coachyard/coachyardlaw11.ParkLooks", spec := "parkLooks", unfollowed := true, recurses := true, apart := false, narrowed := true }
def ParkLooksUptoSaid : Prop := parkLooksUptoRow.holds Try.pinned (OpenSpec.upto parkLooksSpec)

/-- 'coachyardlaw11.ParkWakes', WHERE WHAT IT READS IS OF BULK AT MOST 1048576: true; the input reads as it did. -/
def parkWakesUptoRow : OpenClaim := { program := "ytgononhihpkagaa", sum := "6fa589c30c7b21067c7a54de2fb5949b30e1da4ba75a81450853c8a1a96eb35b", func := "coachyard/coachyardlaw11.ParkWakes", spec := "parkWakes", unfollowed := true, recurses := true, apart := false, narrowed := true }
def ParkWakesUptoSaid : Prop := parkWakesUptoRow.holds Try.pinned (OpenSpec.upto parkWakesSpec)

end Rows
end Go.Proofs.Ytgononhihpkagaa
