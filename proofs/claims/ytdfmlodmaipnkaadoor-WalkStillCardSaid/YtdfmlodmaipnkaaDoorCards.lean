/-
  DERIVED. GIVEN WITH THE SEED: THE CARDS: each row of YtdfmlodmaipnkaaDoorRows.lean that lists a variable, with what it lists TIED to the program's text (the seventh form; the later family's looks); each row that meets fmt, with fmt's text TOLD by the authors' own Lean function (tested against real Go, not proved from fmt's source: count such statements apart). THE CARD IS WHAT COUNTS. Prove the row's statement (the work); the ties are given (YtdfmlodmaipnkaaDoorTie.lean); close each card by the builder's one call (the guide's Derived/Test/ToyasCard.lean, 'card_holds'). Laid BY PROGRAM, IN A SANDBOX (cutbox-door.mjs). By AI agents, Wed Nov 11 2026. No macro, syntax, notation, axiom, sorry.
-/
import Derived.Test.YtdfmlodmaipnkaaDoorRows
import GoSem.ClaimSeven
namespace Go.Proofs.YtdfmlodmaipnkaaDoor
namespace Rows

/-- THE TIED CARD OF 'silhouettelaw08.WalkStill'. -/
def walkStillCard : Claim7 := { stood := { row := walkStillRow, standIns := [], harness := (true, "4fd95642d540bef758f4f6fd66cb1dacde23943cb8c38480bada35a5e73e10d4"), looks := true }, kinds := [], alts := [], laidByText := true, laidKinds := [.handle], laidTests := true, laidLooks := .later }
def WalkStillCardSaid : Prop := Claim7.holds Tryd.pinned (.plain (OpenSpec.ofChange walkStillSpec)) walkStillCard

/-- THE TIED CARD OF 'silhouettelaw08.WalkWithin'. -/
def walkWithinCard : Claim7 := { stood := { row := walkWithinRow, standIns := [], harness := (true, "4fd95642d540bef758f4f6fd66cb1dacde23943cb8c38480bada35a5e73e10d4"), looks := true }, kinds := [], alts := [], laidByText := true, laidKinds := [.handle], laidTests := true, laidLooks := .later }
def WalkWithinCardSaid : Prop := Claim7.holds Tryd.pinned (.plain (OpenSpec.ofChange walkWithinSpec)) walkWithinCard

/-- THE TIED CARD OF 'silhouettelaw08.WalkMarks'. -/
def walkMarksCard : Claim7 := { stood := { row := walkMarksRow, standIns := [], harness := (true, "4fd95642d540bef758f4f6fd66cb1dacde23943cb8c38480bada35a5e73e10d4"), looks := true }, kinds := [], alts := [], laidByText := true, laidKinds := [.handle], laidTests := true, laidLooks := .later }
def WalkMarksCardSaid : Prop := Claim7.holds Tryd.pinned (.plain (OpenSpec.ofChange walkMarksSpec)) walkMarksCard

/-- THE TIED CARD OF 'silhouettelaw08.WalkKinds'. -/
def walkKindsCard : Claim7 := { stood := { row := walkKindsRow, standIns := [], harness := (true, "4fd95642d540bef758f4f6fd66cb1dacde23943cb8c38480bada35a5e73e10d4"), looks := true }, kinds := [], alts := [], laidByText := true, laidKinds := [.handle], laidTests := true, laidLooks := .later }
def WalkKindsCardSaid : Prop := Claim7.holds Tryd.pinned (.plain (OpenSpec.ofChange walkKindsSpec)) walkKindsCard

/-- THE TIED CARD OF 'silhouettelaw08.WalkLarge'. -/
def walkLargeCard : Claim7 := { stood := { row := walkLargeRow, standIns := [], harness := (true, "4fd95642d540bef758f4f6fd66cb1dacde23943cb8c38480bada35a5e73e10d4"), looks := true }, kinds := [], alts := [], laidByText := true, laidKinds := [.handle], laidTests := true, laidLooks := .later }
def WalkLargeCardSaid : Prop := Claim7.holds Tryd.pinned (.plain (OpenSpec.ofChange walkLargeSpec)) walkLargeCard

/-- THE TIED CARD OF 'silhouettelaw08.WalkRoots'. -/
def walkRootsCard : Claim7 := { stood := { row := walkRootsRow, standIns := [], harness := (true, "4fd95642d540bef758f4f6fd66cb1dacde23943cb8c38480bada35a5e73e10d4"), looks := true }, kinds := [], alts := [], laidByText := true, laidKinds := [.handle], laidTests := true, laidLooks := .later }
def WalkRootsCardSaid : Prop := Claim7.holds Tryd.pinned (.plain (OpenSpec.ofChange walkRootsSpec)) walkRootsCard

/-- THE TIED CARD OF 'silhouettelaw08.WalkMoves'. -/
def walkMovesCard : Claim7 := { stood := { row := walkMovesRow, standIns := [], harness := (true, "4fd95642d540bef758f4f6fd66cb1dacde23943cb8c38480bada35a5e73e10d4"), looks := true }, kinds := [], alts := [], laidByText := true, laidKinds := [.handle], laidTests := true, laidLooks := .later }
def WalkMovesCardSaid : Prop := Claim7.holds Tryd.pinned (.plain (OpenSpec.ofChange walkMovesSpec)) walkMovesCard

/-- THE SECOND FORM's CARD OF 'silhouettelaw08.WalkStill'. -/
def walkStillUptoCard : Claim7 := { stood := { row := walkStillUptoRow, standIns := [], harness := (true, "4fd95642d540bef758f4f6fd66cb1dacde23943cb8c38480bada35a5e73e10d4"), looks := true }, kinds := [], alts := [], laidByText := true, laidKinds := [.handle], laidTests := true, laidLooks := .later }
def WalkStillUptoCardSaid : Prop := Claim7.holds Tryd.pinned (.plain (OpenSpec.upto walkStillSpec)) walkStillUptoCard

/-- THE SECOND FORM's CARD OF 'silhouettelaw08.WalkWithin'. -/
def walkWithinUptoCard : Claim7 := { stood := { row := walkWithinUptoRow, standIns := [], harness := (true, "4fd95642d540bef758f4f6fd66cb1dacde23943cb8c38480bada35a5e73e10d4"), looks := true }, kinds := [], alts := [], laidByText := true, laidKinds := [.handle], laidTests := true, laidLooks := .later }
def WalkWithinUptoCardSaid : Prop := Claim7.holds Tryd.pinned (.plain (OpenSpec.upto walkWithinSpec)) walkWithinUptoCard

/-- THE SECOND FORM's CARD OF 'silhouettelaw08.WalkMarks'. -/
def walkMarksUptoCard : Claim7 := { stood := { row := walkMarksUptoRow, standIns := [], harness := (true, "4fd95642d540bef758f4f6fd66cb1dacde23943cb8c38480bada35a5e73e10d4"), looks := true }, kinds := [], alts := [], laidByText := true, laidKinds := [.handle], laidTests := true, laidLooks := .later }
def WalkMarksUptoCardSaid : Prop := Claim7.holds Tryd.pinned (.plain (OpenSpec.upto walkMarksSpec)) walkMarksUptoCard

/-- THE SECOND FORM's CARD OF 'silhouettelaw08.WalkKinds'. -/
def walkKindsUptoCard : Claim7 := { stood := { row := walkKindsUptoRow, standIns := [], harness := (true, "4fd95642d540bef758f4f6fd66cb1dacde23943cb8c38480bada35a5e73e10d4"), looks := true }, kinds := [], alts := [], laidByText := true, laidKinds := [.handle], laidTests := true, laidLooks := .later }
def WalkKindsUptoCardSaid : Prop := Claim7.holds Tryd.pinned (.plain (OpenSpec.upto walkKindsSpec)) walkKindsUptoCard

/-- THE SECOND FORM's CARD OF 'silhouettelaw08.WalkLarge'. -/
def walkLargeUptoCard : Claim7 := { stood := { row := walkLargeUptoRow, standIns := [], harness := (true, "4fd95642d540bef758f4f6fd66cb1dacde23943cb8c38480bada35a5e73e10d4"), looks := true }, kinds := [], alts := [], laidByText := true, laidKinds := [.handle], laidTests := true, laidLooks := .later }
def WalkLargeUptoCardSaid : Prop := Claim7.holds Tryd.pinned (.plain (OpenSpec.upto walkLargeSpec)) walkLargeUptoCard

/-- THE SECOND FORM's CARD OF 'silhouettelaw08.WalkRoots'. -/
def walkRootsUptoCard : Claim7 := { stood := { row := walkRootsUptoRow, standIns := [], harness := (true, "4fd95642d540bef758f4f6fd66cb1dacde23943cb8c38480bada35a5e73e10d4"), looks := true }, kinds := [], alts := [], laidByText := true, laidKinds := [.handle], laidTests := true, laidLooks := .later }
def WalkRootsUptoCardSaid : Prop := Claim7.holds Tryd.pinned (.plain (OpenSpec.upto walkRootsSpec)) walkRootsUptoCard

/-- THE SECOND FORM's CARD OF 'silhouettelaw08.WalkMoves'. -/
def walkMovesUptoCard : Claim7 := { stood := { row := walkMovesUptoRow, standIns := [], harness := (true, "4fd95642d540bef758f4f6fd66cb1dacde23943cb8c38480bada35a5e73e10d4"), looks := true }, kinds := [], alts := [], laidByText := true, laidKinds := [.handle], laidTests := true, laidLooks := .later }
def WalkMovesUptoCardSaid : Prop := Claim7.holds Tryd.pinned (.plain (OpenSpec.upto walkMovesSpec)) walkMovesUptoCard
end Rows
end Go.Proofs.YtdfmlodmaipnkaaDoor
