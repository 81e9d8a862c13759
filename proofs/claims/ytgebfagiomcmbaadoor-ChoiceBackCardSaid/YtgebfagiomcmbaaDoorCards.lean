/-
  DERIVED. GIVEN WITH THE SEED: THE CARDS: each row of YtgebfagiomcmbaaDoorRows.lean that lists a variable, with what it lists TIED to the program's text (the seventh form; the later family's looks); each row that meets fmt, with fmt's text TOLD by the authors' own Lean function (tested against real Go, not proved from fmt's source: count such statements apart). THE CARD IS WHAT COUNTS. Prove the row's statement (the work); the ties are given (YtgebfagiomcmbaaDoorTie.lean); close each card by the builder's one call (the guide's Derived/Test/ToyasCard.lean, 'card_holds'). Laid BY PROGRAM, IN A SANDBOX (cutbox-door.mjs). By AI agents, Wed Nov 11 2026. No macro, syntax, notation, axiom, sorry.
-/
import Derived.Test.YtgebfagiomcmbaaDoorRows
import GoSem.ClaimSeven
namespace Go.Proofs.YtgebfagiomcmbaaDoor
namespace Rows

/-- THE TIED CARD OF 'silhouettelaw11.ChoiceBack'. -/
def choiceBackCard : Claim7 := { stood := { row := choiceBackRow, standIns := [], harness := (true, "3e9e9d6b6de1ebb70a6bec1c0f144e364eb9fb2578aac0f931481ee308970a0a"), looks := true }, kinds := [], alts := [], laidByText := true, laidKinds := [.handle], laidTests := true, laidLooks := .later }
def ChoiceBackCardSaid : Prop := Claim7.holds Tryd.pinned (.plain (OpenSpec.ofChange choiceBackSpec)) choiceBackCard

/-- THE SECOND FORM's CARD OF 'silhouettelaw11.ChoiceBack'. -/
def choiceBackUptoCard : Claim7 := { stood := { row := choiceBackUptoRow, standIns := [], harness := (true, "3e9e9d6b6de1ebb70a6bec1c0f144e364eb9fb2578aac0f931481ee308970a0a"), looks := true }, kinds := [], alts := [], laidByText := true, laidKinds := [.handle], laidTests := true, laidLooks := .later }
def ChoiceBackUptoCardSaid : Prop := Claim7.holds Tryd.pinned (.plain (OpenSpec.upto choiceBackSpec)) choiceBackUptoCard
end Rows
end Go.Proofs.YtgebfagiomcmbaaDoor
