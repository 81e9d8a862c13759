/-
  DERIVED. GIVEN WITH THE SEED: THE CARDS: each row of YtgebfagiomcmbaaGreatDoorRows.lean that lists a variable, with what it lists TIED to the program's text (the seventh form; the later family's looks); each row that meets fmt, with fmt's text TOLD by the authors' own Lean function (tested against real Go, not proved from fmt's source: count such statements apart). THE CARD IS WHAT COUNTS. Prove the row's statement (the work); the ties are given (YtgebfagiomcmbaaGreatDoorTie.lean); close each card by the builder's one call (the guide's Derived/Test/ToyasCard.lean, 'card_holds'). Laid BY PROGRAM, IN A SANDBOX (cutbox-door.mjs). By AI agents, Wed Nov 11 2026. No macro, syntax, notation, axiom, sorry.
-/
import Derived.Test.YtgebfagiomcmbaaGreatDoorRows
import GoSem.ClaimSeven
namespace Go.Proofs.YtgebfagiomcmbaaGreatDoor
namespace Rows

/-- THE TIED CARD OF 'silhouettelaw11.ChoiceTells'. -/
def choiceTellsCard : Claim7 := { stood := { row := choiceTellsRow, standIns := [], harness := (true, "81ef987063aad1d0324160b12add30110486dadb904f5f73e0a05220a47fd6b2"), looks := true }, kinds := [], alts := [], laidByText := true, laidKinds := [.handle], laidTests := true, laidLooks := .later }
def ChoiceTellsCardSaid : Prop := Claim7.holds Tryz.pinned (.plain (OpenSpec.ofChange choiceTellsSpec)) choiceTellsCard

/-- THE TIED CARD OF 'silhouettelaw11.ChoiceMemory'. -/
def choiceMemoryCard : Claim7 := { stood := { row := choiceMemoryRow, standIns := [], harness := (true, "81ef987063aad1d0324160b12add30110486dadb904f5f73e0a05220a47fd6b2"), looks := true }, kinds := [], alts := [], laidByText := true, laidKinds := [.handle], laidTests := true, laidLooks := .later }
def ChoiceMemoryCardSaid : Prop := Claim7.holds Tryz.pinned (.plain (OpenSpec.ofChange choiceMemorySpec)) choiceMemoryCard

/-- THE TIED CARD OF 'silhouettelaw11.ChoicePage'. -/
def choicePageCard : Claim7 := { stood := { row := choicePageRow, standIns := [], harness := (true, "81ef987063aad1d0324160b12add30110486dadb904f5f73e0a05220a47fd6b2"), looks := true }, kinds := [], alts := [], laidByText := true, laidKinds := [.handle], laidTests := true, laidLooks := .later }
def ChoicePageCardSaid : Prop := Claim7.holds Tryz.pinned (.plain (OpenSpec.ofChange choicePageSpec)) choicePageCard

/-- THE TIED CARD OF 'silhouettelaw11.ChoiceFree'. -/
def choiceFreeCard : Claim7 := { stood := { row := choiceFreeRow, standIns := [], harness := (true, "81ef987063aad1d0324160b12add30110486dadb904f5f73e0a05220a47fd6b2"), looks := true }, kinds := [], alts := [], laidByText := true, laidKinds := [.handle], laidTests := true, laidLooks := .later }
def ChoiceFreeCardSaid : Prop := Claim7.holds Tryz.pinned (.plain (OpenSpec.ofChange choiceFreeSpec)) choiceFreeCard

/-- THE TIED CARD OF 'silhouettelaw11.ChoiceRow'. -/
def choiceRowCard : Claim7 := { stood := { row := choiceRowRow, standIns := [], harness := (true, "81ef987063aad1d0324160b12add30110486dadb904f5f73e0a05220a47fd6b2"), looks := true }, kinds := [], alts := [], laidByText := true, laidKinds := [.handle], laidTests := true, laidLooks := .later }
def ChoiceRowCardSaid : Prop := Claim7.holds Tryz.pinned (.plain (OpenSpec.ofChange choiceRowSpec)) choiceRowCard

/-- THE TIED CARD OF 'silhouettelaw11.ChoiceFinds'. -/
def choiceFindsCard : Claim7 := { stood := { row := choiceFindsRow, standIns := [], harness := (true, "81ef987063aad1d0324160b12add30110486dadb904f5f73e0a05220a47fd6b2"), looks := true }, kinds := [], alts := [], laidByText := true, laidKinds := [.handle], laidTests := true, laidLooks := .later }
def ChoiceFindsCardSaid : Prop := Claim7.holds Tryz.pinned (.plain (OpenSpec.ofChange choiceFindsSpec)) choiceFindsCard

/-- THE SECOND FORM's CARD OF 'silhouettelaw11.ChoiceTells'. -/
def choiceTellsUptoCard : Claim7 := { stood := { row := choiceTellsUptoRow, standIns := [], harness := (true, "81ef987063aad1d0324160b12add30110486dadb904f5f73e0a05220a47fd6b2"), looks := true }, kinds := [], alts := [], laidByText := true, laidKinds := [.handle], laidTests := true, laidLooks := .later }
def ChoiceTellsUptoCardSaid : Prop := Claim7.holds Tryz.pinned (.plain (OpenSpec.upto choiceTellsSpec)) choiceTellsUptoCard

/-- THE SECOND FORM's CARD OF 'silhouettelaw11.ChoiceMemory'. -/
def choiceMemoryUptoCard : Claim7 := { stood := { row := choiceMemoryUptoRow, standIns := [], harness := (true, "81ef987063aad1d0324160b12add30110486dadb904f5f73e0a05220a47fd6b2"), looks := true }, kinds := [], alts := [], laidByText := true, laidKinds := [.handle], laidTests := true, laidLooks := .later }
def ChoiceMemoryUptoCardSaid : Prop := Claim7.holds Tryz.pinned (.plain (OpenSpec.upto choiceMemorySpec)) choiceMemoryUptoCard

/-- THE SECOND FORM's CARD OF 'silhouettelaw11.ChoicePage'. -/
def choicePageUptoCard : Claim7 := { stood := { row := choicePageUptoRow, standIns := [], harness := (true, "81ef987063aad1d0324160b12add30110486dadb904f5f73e0a05220a47fd6b2"), looks := true }, kinds := [], alts := [], laidByText := true, laidKinds := [.handle], laidTests := true, laidLooks := .later }
def ChoicePageUptoCardSaid : Prop := Claim7.holds Tryz.pinned (.plain (OpenSpec.upto choicePageSpec)) choicePageUptoCard

/-- THE SECOND FORM's CARD OF 'silhouettelaw11.ChoiceFree'. -/
def choiceFreeUptoCard : Claim7 := { stood := { row := choiceFreeUptoRow, standIns := [], harness := (true, "81ef987063aad1d0324160b12add30110486dadb904f5f73e0a05220a47fd6b2"), looks := true }, kinds := [], alts := [], laidByText := true, laidKinds := [.handle], laidTests := true, laidLooks := .later }
def ChoiceFreeUptoCardSaid : Prop := Claim7.holds Tryz.pinned (.plain (OpenSpec.upto choiceFreeSpec)) choiceFreeUptoCard

/-- THE SECOND FORM's CARD OF 'silhouettelaw11.ChoiceRow'. -/
def choiceRowUptoCard : Claim7 := { stood := { row := choiceRowUptoRow, standIns := [], harness := (true, "81ef987063aad1d0324160b12add30110486dadb904f5f73e0a05220a47fd6b2"), looks := true }, kinds := [], alts := [], laidByText := true, laidKinds := [.handle], laidTests := true, laidLooks := .later }
def ChoiceRowUptoCardSaid : Prop := Claim7.holds Tryz.pinned (.plain (OpenSpec.upto choiceRowSpec)) choiceRowUptoCard

/-- THE SECOND FORM's CARD OF 'silhouettelaw11.ChoiceFinds'. -/
def choiceFindsUptoCard : Claim7 := { stood := { row := choiceFindsUptoRow, standIns := [], harness := (true, "81ef987063aad1d0324160b12add30110486dadb904f5f73e0a05220a47fd6b2"), looks := true }, kinds := [], alts := [], laidByText := true, laidKinds := [.handle], laidTests := true, laidLooks := .later }
def ChoiceFindsUptoCardSaid : Prop := Claim7.holds Tryz.pinned (.plain (OpenSpec.upto choiceFindsSpec)) choiceFindsUptoCard
end Rows
end Go.Proofs.YtgebfagiomcmbaaGreatDoor
