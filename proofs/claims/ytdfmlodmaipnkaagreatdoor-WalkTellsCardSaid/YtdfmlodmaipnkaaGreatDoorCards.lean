/-
  DERIVED. GIVEN WITH THE SEED: THE CARDS: each row of YtdfmlodmaipnkaaGreatDoorRows.lean that lists a variable, with what it lists TIED to the program's text (the seventh form; the later family's looks); each row that meets fmt, with fmt's text TOLD by the authors' own Lean function (tested against real Go, not proved from fmt's source: count such statements apart). THE CARD IS WHAT COUNTS. Prove the row's statement (the work); the ties are given (YtdfmlodmaipnkaaGreatDoorTie.lean); close each card by the builder's one call (the guide's Derived/Test/ToyasCard.lean, 'card_holds'). Laid BY PROGRAM, IN A SANDBOX (cutbox-door.mjs). By AI agents, Wed Nov 11 2026. No macro, syntax, notation, axiom, sorry.
-/
import Derived.Test.YtdfmlodmaipnkaaGreatDoorRows
import GoSem.ClaimSeven
namespace Go.Proofs.YtdfmlodmaipnkaaGreatDoor
namespace Rows

/-- THE TIED CARD OF 'silhouettelaw08.WalkTells'. -/
def walkTellsCard : Claim7 := { stood := { row := walkTellsRow, standIns := [], harness := (true, "607cd617fb02275103d5f26c2c8ecff09929f7eb532f83b04518890972f0a247"), looks := true }, kinds := [], alts := [], laidByText := true, laidKinds := [.handle], laidTests := true, laidLooks := .later }
def WalkTellsCardSaid : Prop := Claim7.holds Tryz.pinned (.plain (OpenSpec.ofChange walkTellsSpec)) walkTellsCard

/-- THE SECOND FORM's CARD OF 'silhouettelaw08.WalkTells'. -/
def walkTellsUptoCard : Claim7 := { stood := { row := walkTellsUptoRow, standIns := [], harness := (true, "607cd617fb02275103d5f26c2c8ecff09929f7eb532f83b04518890972f0a247"), looks := true }, kinds := [], alts := [], laidByText := true, laidKinds := [.handle], laidTests := true, laidLooks := .later }
def WalkTellsUptoCardSaid : Prop := Claim7.holds Tryz.pinned (.plain (OpenSpec.upto walkTellsSpec)) walkTellsUptoCard
end Rows
end Go.Proofs.YtdfmlodmaipnkaaGreatDoor
