/-
  DERIVED. GIVEN WITH THE SEED: THE CARDS: each row of YtamcfobgmpgbeaaDoorRows.lean that lists a variable, with what it lists TIED to the program's text (the seventh form; the later family's looks); each row that meets fmt, with fmt's text TOLD by the authors' own Lean function (tested against real Go, not proved from fmt's source: count such statements apart). THE CARD IS WHAT COUNTS. Prove the row's statement (the work); the ties are given (YtamcfobgmpgbeaaDoorTie.lean); close each card by the builder's one call (the guide's Derived/Test/ToyasCard.lean, 'card_holds'). Laid BY PROGRAM, IN A SANDBOX (cutbox-door.mjs). By AI agents, Wed Nov 11 2026. No macro, syntax, notation, axiom, sorry.
-/
import Derived.Test.YtamcfobgmpgbeaaDoorRows
import GoSem.ClaimSeven
namespace Go.Proofs.YtamcfobgmpgbeaaDoor
namespace Rows

/-- THE TIED CARD OF 'coachyardlaw10.IdleLooks'. -/
def idleLooksCard : Claim7 := { stood := { row := idleLooksRow, standIns := [], harness := (true, "77d570d79d0a981462a94565f79024614f7c52ac0de47a2ce15cad8cf7510714"), looks := false }, kinds := [], alts := [], laidByText := true, laidKinds := [.data], laidTests := true, laidLooks := .later }
def IdleLooksCardSaid : Prop := Claim7.holds Tryd.pinned (.plain (OpenSpec.ofChange idleLooksSpec)) idleLooksCard

/-- THE TIED CARD OF 'coachyardlaw10.IdleCounts'. -/
def idleCountsCard : Claim7 := { stood := { row := idleCountsRow, standIns := [], harness := (true, "77d570d79d0a981462a94565f79024614f7c52ac0de47a2ce15cad8cf7510714"), looks := false }, kinds := [], alts := [], laidByText := true, laidKinds := [.data], laidTests := true, laidLooks := .later }
def IdleCountsCardSaid : Prop := Claim7.holds Tryd.pinned (.plain (OpenSpec.ofChange idleCountsSpec)) idleCountsCard

/-- THE SECOND FORM's CARD OF 'coachyardlaw10.IdleLooks'. -/
def idleLooksUptoCard : Claim7 := { stood := { row := idleLooksUptoRow, standIns := [], harness := (true, "77d570d79d0a981462a94565f79024614f7c52ac0de47a2ce15cad8cf7510714"), looks := false }, kinds := [], alts := [], laidByText := true, laidKinds := [.data], laidTests := true, laidLooks := .later }
def IdleLooksUptoCardSaid : Prop := Claim7.holds Tryd.pinned (.plain (OpenSpec.upto idleLooksSpec)) idleLooksUptoCard

/-- THE SECOND FORM's CARD OF 'coachyardlaw10.IdleCounts'. -/
def idleCountsUptoCard : Claim7 := { stood := { row := idleCountsUptoRow, standIns := [], harness := (true, "77d570d79d0a981462a94565f79024614f7c52ac0de47a2ce15cad8cf7510714"), looks := false }, kinds := [], alts := [], laidByText := true, laidKinds := [.data], laidTests := true, laidLooks := .later }
def IdleCountsUptoCardSaid : Prop := Claim7.holds Tryd.pinned (.plain (OpenSpec.upto idleCountsSpec)) idleCountsUptoCard
end Rows
end Go.Proofs.YtamcfobgmpgbeaaDoor
