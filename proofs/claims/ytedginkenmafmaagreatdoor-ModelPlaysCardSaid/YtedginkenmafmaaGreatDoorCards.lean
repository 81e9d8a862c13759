/-
  DERIVED. GIVEN WITH THE SEED: THE CARDS: each row of YtedginkenmafmaaGreatDoorRows.lean that lists a variable, with what it lists TIED to the program's text (the seventh form; the later family's looks); each row that meets fmt, with fmt's text TOLD by the authors' own Lean function (tested against real Go, not proved from fmt's source: count such statements apart). THE CARD IS WHAT COUNTS. Prove the row's statement (the work); the ties are given (YtedginkenmafmaaGreatDoorTie.lean); close each card by the builder's one call (the guide's Derived/Test/ToyasCard.lean, 'card_holds'). Laid BY PROGRAM, IN A SANDBOX (cutbox-door.mjs). By AI agents, Wed Nov 11 2026. No macro, syntax, notation, axiom, sorry.
-/
import Derived.Test.YtedginkenmafmaaGreatDoorRows
import GoSem.ClaimSeven
namespace Go.Proofs.YtedginkenmafmaaGreatDoor
namespace Rows

/-- THE TIED CARD OF 'silhouettelaw10.ModelPlays'. -/
def modelPlaysCard : Claim7 := { stood := { row := modelPlaysRow, standIns := [], harness := (true, "95b23b8579b6001c2b7da8bb0b2eb47d3d58b83bb479f2afddbdb9df94f63fe4"), looks := true }, kinds := [], alts := [], laidByText := true, laidKinds := [.handle], laidTests := true, laidLooks := .later }
def ModelPlaysCardSaid : Prop := Claim7.holds Tryz.pinned (.plain (OpenSpec.ofChange modelPlaysSpec)) modelPlaysCard

/-- THE TIED CARD OF 'silhouettelaw10.ModelFresh'. -/
def modelFreshCard : Claim7 := { stood := { row := modelFreshRow, standIns := [], harness := (true, "95b23b8579b6001c2b7da8bb0b2eb47d3d58b83bb479f2afddbdb9df94f63fe4"), looks := true }, kinds := [], alts := [], laidByText := true, laidKinds := [.handle], laidTests := true, laidLooks := .later }
def ModelFreshCardSaid : Prop := Claim7.holds Tryz.pinned (.plain (OpenSpec.ofChange modelFreshSpec)) modelFreshCard

/-- THE TIED CARD OF 'silhouettelaw10.ModelMemory'. -/
def modelMemoryCard : Claim7 := { stood := { row := modelMemoryRow, standIns := [], harness := (true, "95b23b8579b6001c2b7da8bb0b2eb47d3d58b83bb479f2afddbdb9df94f63fe4"), looks := true }, kinds := [], alts := [], laidByText := true, laidKinds := [.handle], laidTests := true, laidLooks := .later }
def ModelMemoryCardSaid : Prop := Claim7.holds Tryz.pinned (.plain (OpenSpec.ofChange modelMemorySpec)) modelMemoryCard

/-- THE TIED CARD OF 'silhouettelaw10.ModelKnown'. -/
def modelKnownCard : Claim7 := { stood := { row := modelKnownRow, standIns := [], harness := (true, "95b23b8579b6001c2b7da8bb0b2eb47d3d58b83bb479f2afddbdb9df94f63fe4"), looks := true }, kinds := [], alts := [], laidByText := true, laidKinds := [.handle], laidTests := true, laidLooks := .later }
def ModelKnownCardSaid : Prop := Claim7.holds Tryz.pinned (.plain (OpenSpec.ofChange modelKnownSpec)) modelKnownCard

/-- THE TIED CARD OF 'silhouettelaw10.ModelFinds'. -/
def modelFindsCard : Claim7 := { stood := { row := modelFindsRow, standIns := [], harness := (true, "95b23b8579b6001c2b7da8bb0b2eb47d3d58b83bb479f2afddbdb9df94f63fe4"), looks := true }, kinds := [], alts := [], laidByText := true, laidKinds := [.handle], laidTests := true, laidLooks := .later }
def ModelFindsCardSaid : Prop := Claim7.holds Tryz.pinned (.plain (OpenSpec.ofChange modelFindsSpec)) modelFindsCard

/-- THE TIED CARD OF 'silhouettelaw10.ModelAgain'. -/
def modelAgainCard : Claim7 := { stood := { row := modelAgainRow, standIns := [], harness := (true, "95b23b8579b6001c2b7da8bb0b2eb47d3d58b83bb479f2afddbdb9df94f63fe4"), looks := true }, kinds := [], alts := [], laidByText := true, laidKinds := [.handle], laidTests := true, laidLooks := .later }
def ModelAgainCardSaid : Prop := Claim7.holds Tryz.pinned (.plain (OpenSpec.ofChange modelAgainSpec)) modelAgainCard

/-- THE TIED CARD OF 'silhouettelaw10.ModelRoots'. -/
def modelRootsCard : Claim7 := { stood := { row := modelRootsRow, standIns := [], harness := (true, "95b23b8579b6001c2b7da8bb0b2eb47d3d58b83bb479f2afddbdb9df94f63fe4"), looks := true }, kinds := [], alts := [], laidByText := true, laidKinds := [.handle], laidTests := true, laidLooks := .later }
def ModelRootsCardSaid : Prop := Claim7.holds Tryz.pinned (.plain (OpenSpec.ofChange modelRootsSpec)) modelRootsCard

/-- THE TIED CARD OF 'silhouettelaw10.ModelTwo'. -/
def modelTwoCard : Claim7 := { stood := { row := modelTwoRow, standIns := [], harness := (true, "95b23b8579b6001c2b7da8bb0b2eb47d3d58b83bb479f2afddbdb9df94f63fe4"), looks := true }, kinds := [], alts := [], laidByText := true, laidKinds := [.handle], laidTests := true, laidLooks := .later }
def ModelTwoCardSaid : Prop := Claim7.holds Tryz.pinned (.plain (OpenSpec.ofChange modelTwoSpec)) modelTwoCard

/-- THE SECOND FORM's CARD OF 'silhouettelaw10.ModelPlays'. -/
def modelPlaysUptoCard : Claim7 := { stood := { row := modelPlaysUptoRow, standIns := [], harness := (true, "95b23b8579b6001c2b7da8bb0b2eb47d3d58b83bb479f2afddbdb9df94f63fe4"), looks := true }, kinds := [], alts := [], laidByText := true, laidKinds := [.handle], laidTests := true, laidLooks := .later }
def ModelPlaysUptoCardSaid : Prop := Claim7.holds Tryz.pinned (.plain (OpenSpec.upto modelPlaysSpec)) modelPlaysUptoCard

/-- THE SECOND FORM's CARD OF 'silhouettelaw10.ModelFresh'. -/
def modelFreshUptoCard : Claim7 := { stood := { row := modelFreshUptoRow, standIns := [], harness := (true, "95b23b8579b6001c2b7da8bb0b2eb47d3d58b83bb479f2afddbdb9df94f63fe4"), looks := true }, kinds := [], alts := [], laidByText := true, laidKinds := [.handle], laidTests := true, laidLooks := .later }
def ModelFreshUptoCardSaid : Prop := Claim7.holds Tryz.pinned (.plain (OpenSpec.upto modelFreshSpec)) modelFreshUptoCard

/-- THE SECOND FORM's CARD OF 'silhouettelaw10.ModelMemory'. -/
def modelMemoryUptoCard : Claim7 := { stood := { row := modelMemoryUptoRow, standIns := [], harness := (true, "95b23b8579b6001c2b7da8bb0b2eb47d3d58b83bb479f2afddbdb9df94f63fe4"), looks := true }, kinds := [], alts := [], laidByText := true, laidKinds := [.handle], laidTests := true, laidLooks := .later }
def ModelMemoryUptoCardSaid : Prop := Claim7.holds Tryz.pinned (.plain (OpenSpec.upto modelMemorySpec)) modelMemoryUptoCard

/-- THE SECOND FORM's CARD OF 'silhouettelaw10.ModelKnown'. -/
def modelKnownUptoCard : Claim7 := { stood := { row := modelKnownUptoRow, standIns := [], harness := (true, "95b23b8579b6001c2b7da8bb0b2eb47d3d58b83bb479f2afddbdb9df94f63fe4"), looks := true }, kinds := [], alts := [], laidByText := true, laidKinds := [.handle], laidTests := true, laidLooks := .later }
def ModelKnownUptoCardSaid : Prop := Claim7.holds Tryz.pinned (.plain (OpenSpec.upto modelKnownSpec)) modelKnownUptoCard

/-- THE SECOND FORM's CARD OF 'silhouettelaw10.ModelFinds'. -/
def modelFindsUptoCard : Claim7 := { stood := { row := modelFindsUptoRow, standIns := [], harness := (true, "95b23b8579b6001c2b7da8bb0b2eb47d3d58b83bb479f2afddbdb9df94f63fe4"), looks := true }, kinds := [], alts := [], laidByText := true, laidKinds := [.handle], laidTests := true, laidLooks := .later }
def ModelFindsUptoCardSaid : Prop := Claim7.holds Tryz.pinned (.plain (OpenSpec.upto modelFindsSpec)) modelFindsUptoCard

/-- THE SECOND FORM's CARD OF 'silhouettelaw10.ModelAgain'. -/
def modelAgainUptoCard : Claim7 := { stood := { row := modelAgainUptoRow, standIns := [], harness := (true, "95b23b8579b6001c2b7da8bb0b2eb47d3d58b83bb479f2afddbdb9df94f63fe4"), looks := true }, kinds := [], alts := [], laidByText := true, laidKinds := [.handle], laidTests := true, laidLooks := .later }
def ModelAgainUptoCardSaid : Prop := Claim7.holds Tryz.pinned (.plain (OpenSpec.upto modelAgainSpec)) modelAgainUptoCard

/-- THE SECOND FORM's CARD OF 'silhouettelaw10.ModelRoots'. -/
def modelRootsUptoCard : Claim7 := { stood := { row := modelRootsUptoRow, standIns := [], harness := (true, "95b23b8579b6001c2b7da8bb0b2eb47d3d58b83bb479f2afddbdb9df94f63fe4"), looks := true }, kinds := [], alts := [], laidByText := true, laidKinds := [.handle], laidTests := true, laidLooks := .later }
def ModelRootsUptoCardSaid : Prop := Claim7.holds Tryz.pinned (.plain (OpenSpec.upto modelRootsSpec)) modelRootsUptoCard

/-- THE SECOND FORM's CARD OF 'silhouettelaw10.ModelTwo'. -/
def modelTwoUptoCard : Claim7 := { stood := { row := modelTwoUptoRow, standIns := [], harness := (true, "95b23b8579b6001c2b7da8bb0b2eb47d3d58b83bb479f2afddbdb9df94f63fe4"), looks := true }, kinds := [], alts := [], laidByText := true, laidKinds := [.handle], laidTests := true, laidLooks := .later }
def ModelTwoUptoCardSaid : Prop := Claim7.holds Tryz.pinned (.plain (OpenSpec.upto modelTwoSpec)) modelTwoUptoCard
end Rows
end Go.Proofs.YtedginkenmafmaaGreatDoor
