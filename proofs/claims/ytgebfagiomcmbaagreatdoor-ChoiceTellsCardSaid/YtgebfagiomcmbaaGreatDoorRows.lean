/-
  NARROWER THAN 'FOR EVERY INPUT', by the rows' own cells (each row's printed sentence says how): ChoiceTells: laid · ChoiceMemory: laid · ChoicePage: laid · ChoiceFree: laid · ChoiceRow: laid · ChoiceFinds: laid.
  DERIVED. THE GIVEN ROWS OF THIS SEAT. 6 by the template 'for every input the law returns true; each argument reads behind the call as it read before'; 0 by the template 'total and deterministic' (their statements: YtgebfagiomcmbaaGreatDoorTotals.lean).
  GIVEN WITH THE SEED: the statements are not yours to turn. If you find one false, say at which input.
  Laid BY PROGRAM, IN A SANDBOX (cutbox-rows.mjs): the forced cells as the released guide's own fill.sh prints them over the translation 3ed42383e9e9820f… (all of the seat's roots in one cut). By AI agents, Wed Nov 11 2026. No macro, syntax, notation, axiom, sorry.
-/
import Derived.Test.YtgebfagiomcmbaaGreatDoorChecked
import GoSem.Claim
import GoSem.ClaimJoined
import GoSem.ClaimMapViews
import Derived.JoinedTies
import Derived.KernelRfl
namespace Go.Proofs.YtgebfagiomcmbaaGreatDoor
/- THE CELL 'sum', in the pinned program and in every row, IS THE sha256 OF THE DUMP (.gsa) THAT YtgebfagiomcmbaaGreatDoorProg.lean LOADS. Nothing in Lean hashes anything: it is a label: what it is worth is what the hold of that sum in a sandbox is worth. -/
noncomputable def Tryz.pinned : Pinned := { name := "ytgebfagiomcmbaagreatdoor", sum := "3ed42383e9e9820fb9d42a7588d8faa4da0debbedfd6f16bc71f26d681bf9d8d", checked := Tryz.checked }
namespace Rows
def none {H : Type} : Left H := { results := [], args := [] }

/- WHAT THE LISTED PACKAGE-LEVEL VARIABLES READ AS WHEN THE CALL BEGINS. Each datum BY PROGRAM (the guide's laid-datum.mjs) off the statement by which the dump's own 'gosem.cut.vars' lays the variable. In a bare row this is a premise. The card (YtgebfagiomcmbaaGreatDoorCards.lean) ties it to the program's text. -/
def laid_errors_errorType {H : Type} : DataW H := .iface "internal/reflectlite.rtype" (.agg [.ptr (.lit (.string [101, 114, 114, 111, 114]))])

/-- 'silhouettelaw11.ChoiceTells': WHATEVER THE INPUT: true; the input reads as it did. -/
def choiceTellsSpec : ChangeSpec := { name := "choiceTells", fn := fun _ => fun
  | [d1, d2, d3, d4] => { results := [.lit (.bool true)], args := [d1, d2, d3, d4] }
  | _ => none }
def choiceTellsRow : OpenClaim := { program := "ytgebfagiomcmbaagreatdoor", sum := "3ed42383e9e9820fb9d42a7588d8faa4da0debbedfd6f16bc71f26d681bf9d8d", func := "silhouette/silhouettelaw11.ChoiceTells", spec := "choiceTells", inPlace := ["internal/reflectlite.ValueOf", "(internal/reflectlite.Value).Type", "(internal/reflectlite.Value).IsNil", "internal/reflectlite.TypeOf", "(internal/reflectlite.Value).Elem", "(internal/reflectlite.Value).Set"], unfollowed := true, recurses := true, named := ["errors.errorType"], apart := false, laid := [("errors.errorType", laid_errors_errorType)] }
def ChoiceTellsSaid : Prop := choiceTellsRow.holds Tryz.pinned (OpenSpec.ofChange choiceTellsSpec)

/-- ITS FALSE NEIGHBOUR: 'it returns false'. Refute it at one input. -/
def choiceTellsWrong : ChangeSpec := { name := "choiceTells", fn := fun _ => fun
  | [d1, d2, d3, d4] => { results := [.lit (.bool false)], args := [d1, d2, d3, d4] }
  | _ => none }
def ChoiceTellsWrongFalsely : Prop := choiceTellsRow.holds Tryz.pinned (OpenSpec.ofChange choiceTellsWrong)

/-- 'silhouettelaw11.ChoiceMemory': WHATEVER THE INPUT: true; the input reads as it did. -/
def choiceMemorySpec : ChangeSpec := { name := "choiceMemory", fn := fun _ => fun
  | [d1, d2, d3] => { results := [.lit (.bool true)], args := [d1, d2, d3] }
  | _ => none }
def choiceMemoryRow : OpenClaim := { program := "ytgebfagiomcmbaagreatdoor", sum := "3ed42383e9e9820fb9d42a7588d8faa4da0debbedfd6f16bc71f26d681bf9d8d", func := "silhouette/silhouettelaw11.ChoiceMemory", spec := "choiceMemory", inPlace := ["internal/reflectlite.ValueOf", "(internal/reflectlite.Value).Type", "(internal/reflectlite.Value).IsNil", "internal/reflectlite.TypeOf", "(internal/reflectlite.Value).Elem", "(internal/reflectlite.Value).Set"], unfollowed := true, recurses := true, named := ["errors.errorType"], apart := false, laid := [("errors.errorType", laid_errors_errorType)] }
def ChoiceMemorySaid : Prop := choiceMemoryRow.holds Tryz.pinned (OpenSpec.ofChange choiceMemorySpec)

/-- ITS FALSE NEIGHBOUR: 'it returns false'. Refute it at one input. -/
def choiceMemoryWrong : ChangeSpec := { name := "choiceMemory", fn := fun _ => fun
  | [d1, d2, d3] => { results := [.lit (.bool false)], args := [d1, d2, d3] }
  | _ => none }
def ChoiceMemoryWrongFalsely : Prop := choiceMemoryRow.holds Tryz.pinned (OpenSpec.ofChange choiceMemoryWrong)

/-- 'silhouettelaw11.ChoicePage': WHATEVER THE INPUT: true; the input reads as it did. -/
def choicePageSpec : ChangeSpec := { name := "choicePage", fn := fun _ => fun
  | [d1, d2, d3, d4] => { results := [.lit (.bool true)], args := [d1, d2, d3, d4] }
  | _ => none }
def choicePageRow : OpenClaim := { program := "ytgebfagiomcmbaagreatdoor", sum := "3ed42383e9e9820fb9d42a7588d8faa4da0debbedfd6f16bc71f26d681bf9d8d", func := "silhouette/silhouettelaw11.ChoicePage", spec := "choicePage", inPlace := ["internal/reflectlite.ValueOf", "(internal/reflectlite.Value).Type", "(internal/reflectlite.Value).IsNil", "internal/reflectlite.TypeOf", "(internal/reflectlite.Value).Elem", "(internal/reflectlite.Value).Set"], unfollowed := true, recurses := true, named := ["errors.errorType"], apart := false, laid := [("errors.errorType", laid_errors_errorType)] }
def ChoicePageSaid : Prop := choicePageRow.holds Tryz.pinned (OpenSpec.ofChange choicePageSpec)

/-- ITS FALSE NEIGHBOUR: 'it returns false'. Refute it at one input. -/
def choicePageWrong : ChangeSpec := { name := "choicePage", fn := fun _ => fun
  | [d1, d2, d3, d4] => { results := [.lit (.bool false)], args := [d1, d2, d3, d4] }
  | _ => none }
def ChoicePageWrongFalsely : Prop := choicePageRow.holds Tryz.pinned (OpenSpec.ofChange choicePageWrong)

/-- 'silhouettelaw11.ChoiceFree': WHATEVER THE INPUT: true; the input reads as it did. -/
def choiceFreeSpec : ChangeSpec := { name := "choiceFree", fn := fun _ => fun
  | [d1, d2, d3, d4, d5] => { results := [.lit (.bool true)], args := [d1, d2, d3, d4, d5] }
  | _ => none }
def choiceFreeRow : OpenClaim := { program := "ytgebfagiomcmbaagreatdoor", sum := "3ed42383e9e9820fb9d42a7588d8faa4da0debbedfd6f16bc71f26d681bf9d8d", func := "silhouette/silhouettelaw11.ChoiceFree", spec := "choiceFree", inPlace := ["internal/reflectlite.ValueOf", "(internal/reflectlite.Value).Type", "(internal/reflectlite.Value).IsNil", "internal/reflectlite.TypeOf", "(internal/reflectlite.Value).Elem", "(internal/reflectlite.Value).Set"], unfollowed := true, recurses := true, named := ["errors.errorType"], apart := false, laid := [("errors.errorType", laid_errors_errorType)] }
def ChoiceFreeSaid : Prop := choiceFreeRow.holds Tryz.pinned (OpenSpec.ofChange choiceFreeSpec)

/-- ITS FALSE NEIGHBOUR: 'it returns false'. Refute it at one input. -/
def choiceFreeWrong : ChangeSpec := { name := "choiceFree", fn := fun _ => fun
  | [d1, d2, d3, d4, d5] => { results := [.lit (.bool false)], args := [d1, d2, d3, d4, d5] }
  | _ => none }
def ChoiceFreeWrongFalsely : Prop := choiceFreeRow.holds Tryz.pinned (OpenSpec.ofChange choiceFreeWrong)

/-- 'silhouettelaw11.ChoiceRow': WHATEVER THE INPUT: true; the input reads as it did. -/
def choiceRowSpec : ChangeSpec := { name := "choiceRow", fn := fun _ => fun
  | [d1, d2, d3, d4] => { results := [.lit (.bool true)], args := [d1, d2, d3, d4] }
  | _ => none }
def choiceRowRow : OpenClaim := { program := "ytgebfagiomcmbaagreatdoor", sum := "3ed42383e9e9820fb9d42a7588d8faa4da0debbedfd6f16bc71f26d681bf9d8d", func := "silhouette/silhouettelaw11.ChoiceRow", spec := "choiceRow", inPlace := ["internal/reflectlite.ValueOf", "(internal/reflectlite.Value).Type", "(internal/reflectlite.Value).IsNil", "internal/reflectlite.TypeOf", "(internal/reflectlite.Value).Elem", "(internal/reflectlite.Value).Set"], unfollowed := true, recurses := true, named := ["errors.errorType"], apart := false, laid := [("errors.errorType", laid_errors_errorType)] }
def ChoiceRowSaid : Prop := choiceRowRow.holds Tryz.pinned (OpenSpec.ofChange choiceRowSpec)

/-- ITS FALSE NEIGHBOUR: 'it returns false'. Refute it at one input. -/
def choiceRowWrong : ChangeSpec := { name := "choiceRow", fn := fun _ => fun
  | [d1, d2, d3, d4] => { results := [.lit (.bool false)], args := [d1, d2, d3, d4] }
  | _ => none }
def ChoiceRowWrongFalsely : Prop := choiceRowRow.holds Tryz.pinned (OpenSpec.ofChange choiceRowWrong)

/-- 'silhouettelaw11.ChoiceFinds': WHATEVER THE INPUT: true; the input reads as it did. -/
def choiceFindsSpec : ChangeSpec := { name := "choiceFinds", fn := fun _ => fun
  | [d1, d2, d3] => { results := [.lit (.bool true)], args := [d1, d2, d3] }
  | _ => none }
def choiceFindsRow : OpenClaim := { program := "ytgebfagiomcmbaagreatdoor", sum := "3ed42383e9e9820fb9d42a7588d8faa4da0debbedfd6f16bc71f26d681bf9d8d", func := "silhouette/silhouettelaw11.ChoiceFinds", spec := "choiceFinds", inPlace := ["internal/reflectlite.ValueOf", "(internal/reflectlite.Value).Type", "(internal/reflectlite.Value).IsNil", "internal/reflectlite.TypeOf", "(internal/reflectlite.Value).Elem", "(internal/reflectlite.Value).Set"], unfollowed := true, recurses := true, named := ["errors.errorType"], apart := false, laid := [("errors.errorType", laid_errors_errorType)] }
def ChoiceFindsSaid : Prop := choiceFindsRow.holds Tryz.pinned (OpenSpec.ofChange choiceFindsSpec)

/-- ITS FALSE NEIGHBOUR: 'it returns false'. Refute it at one input. -/
def choiceFindsWrong : ChangeSpec := { name := "choiceFinds", fn := fun _ => fun
  | [d1, d2, d3] => { results := [.lit (.bool false)], args := [d1, d2, d3] }
  | _ => none }
def ChoiceFindsWrongFalsely : Prop := choiceFindsRow.holds Tryz.pinned (OpenSpec.ofChange choiceFindsWrong)

/- THE SECOND FORM. 'bulk': how many values and letters a reading holds, each counted each time it is reached (what is shared counts as often as it is met; a slice's spare places count too). A statement '..UptoSaid' is the law's where the arguments, and the package variables that the reading takes, are together of bulk at most 1048576: NARROWER than '..Said'. Prove '..Said' where nothing that the law and all that it calls make is longer than what came in: it says more and counts as full. Else prove '..UptoSaid'. A law counts once. -/
mutual
def uptoBulk {H : Type} : DataW H → Nat
  | .lit (.string bytes) => bytes.length + 1
  | .lit _ => 1
  | .nil => 1
  | .ptr d => uptoBulk d + 1
  | .slice elems spare => uptoBulkAll elems + uptoBulkAll spare + 1
  | .agg parts => uptoBulkAll parts + 1
  | .iface _ d => uptoBulk d + 1
  | .map entries => uptoBulkEntries entries + 1
  | .held _ => 1
def uptoBulkAll {H : Type} : List (DataW H) → Nat
  | [] => 0
  | d :: r => uptoBulk d + uptoBulkAll r
def uptoBulkEntries {H : Type} : List (Lit × DataW H) → Nat
  | [] => 0
  | x :: r => uptoBulkEntry x + uptoBulkEntries r
def uptoBulkEntry {H : Type} : Lit × DataW H → Nat
  | (.string bytes, d) => bytes.length + uptoBulk d + 1
  | (_, d) => uptoBulk d + 1
 end
def uptoSmall : (H : Type) → List (DataW H) → Bool := fun _ ds => decide (uptoBulkAll ds ≤ 1048576)
def OpenSpec.upto (s : _root_.Go.ChangeSpec) : _root_.Go.OpenSpec := { _root_.Go.OpenSpec.ofChange s with cond := some uptoSmall }

/-- 'silhouettelaw11.ChoiceTells', WHERE WHAT IT READS IS OF BULK AT MOST 1048576: true; the input reads as it did. -/
def choiceTellsUptoRow : OpenClaim := { program := "ytgebfagiomcmbaagreatdoor", sum := "3ed42383e9e9820fb9d42a7588d8faa4da0debbedfd6f16bc71f26d681bf9d8d", func := "silhouette/silhouettelaw11.ChoiceTells", spec := "choiceTells", inPlace := ["internal/reflectlite.ValueOf", "(internal/reflectlite.Value).Type", "(internal/reflectlite.Value).IsNil", "internal/reflectlite.TypeOf", "(internal/reflectlite.Value).Elem", "(internal/reflectlite.Value).Set"], unfollowed := true, recurses := true, named := ["errors.errorType"], apart := false, laid := [("errors.errorType", laid_errors_errorType)], narrowed := true }
def ChoiceTellsUptoSaid : Prop := choiceTellsUptoRow.holds Tryz.pinned (OpenSpec.upto choiceTellsSpec)

/-- 'silhouettelaw11.ChoiceMemory', WHERE WHAT IT READS IS OF BULK AT MOST 1048576: true; the input reads as it did. -/
def choiceMemoryUptoRow : OpenClaim := { program := "ytgebfagiomcmbaagreatdoor", sum := "3ed42383e9e9820fb9d42a7588d8faa4da0debbedfd6f16bc71f26d681bf9d8d", func := "silhouette/silhouettelaw11.ChoiceMemory", spec := "choiceMemory", inPlace := ["internal/reflectlite.ValueOf", "(internal/reflectlite.Value).Type", "(internal/reflectlite.Value).IsNil", "internal/reflectlite.TypeOf", "(internal/reflectlite.Value).Elem", "(internal/reflectlite.Value).Set"], unfollowed := true, recurses := true, named := ["errors.errorType"], apart := false, laid := [("errors.errorType", laid_errors_errorType)], narrowed := true }
def ChoiceMemoryUptoSaid : Prop := choiceMemoryUptoRow.holds Tryz.pinned (OpenSpec.upto choiceMemorySpec)

/-- 'silhouettelaw11.ChoicePage', WHERE WHAT IT READS IS OF BULK AT MOST 1048576: true; the input reads as it did. -/
def choicePageUptoRow : OpenClaim := { program := "ytgebfagiomcmbaagreatdoor", sum := "3ed42383e9e9820fb9d42a7588d8faa4da0debbedfd6f16bc71f26d681bf9d8d", func := "silhouette/silhouettelaw11.ChoicePage", spec := "choicePage", inPlace := ["internal/reflectlite.ValueOf", "(internal/reflectlite.Value).Type", "(internal/reflectlite.Value).IsNil", "internal/reflectlite.TypeOf", "(internal/reflectlite.Value).Elem", "(internal/reflectlite.Value).Set"], unfollowed := true, recurses := true, named := ["errors.errorType"], apart := false, laid := [("errors.errorType", laid_errors_errorType)], narrowed := true }
def ChoicePageUptoSaid : Prop := choicePageUptoRow.holds Tryz.pinned (OpenSpec.upto choicePageSpec)

/-- 'silhouettelaw11.ChoiceFree', WHERE WHAT IT READS IS OF BULK AT MOST 1048576: true; the input reads as it did. -/
def choiceFreeUptoRow : OpenClaim := { program := "ytgebfagiomcmbaagreatdoor", sum := "3ed42383e9e9820fb9d42a7588d8faa4da0debbedfd6f16bc71f26d681bf9d8d", func := "silhouette/silhouettelaw11.ChoiceFree", spec := "choiceFree", inPlace := ["internal/reflectlite.ValueOf", "(internal/reflectlite.Value).Type", "(internal/reflectlite.Value).IsNil", "internal/reflectlite.TypeOf", "(internal/reflectlite.Value).Elem", "(internal/reflectlite.Value).Set"], unfollowed := true, recurses := true, named := ["errors.errorType"], apart := false, laid := [("errors.errorType", laid_errors_errorType)], narrowed := true }
def ChoiceFreeUptoSaid : Prop := choiceFreeUptoRow.holds Tryz.pinned (OpenSpec.upto choiceFreeSpec)

/-- 'silhouettelaw11.ChoiceRow', WHERE WHAT IT READS IS OF BULK AT MOST 1048576: true; the input reads as it did. -/
def choiceRowUptoRow : OpenClaim := { program := "ytgebfagiomcmbaagreatdoor", sum := "3ed42383e9e9820fb9d42a7588d8faa4da0debbedfd6f16bc71f26d681bf9d8d", func := "silhouette/silhouettelaw11.ChoiceRow", spec := "choiceRow", inPlace := ["internal/reflectlite.ValueOf", "(internal/reflectlite.Value).Type", "(internal/reflectlite.Value).IsNil", "internal/reflectlite.TypeOf", "(internal/reflectlite.Value).Elem", "(internal/reflectlite.Value).Set"], unfollowed := true, recurses := true, named := ["errors.errorType"], apart := false, laid := [("errors.errorType", laid_errors_errorType)], narrowed := true }
def ChoiceRowUptoSaid : Prop := choiceRowUptoRow.holds Tryz.pinned (OpenSpec.upto choiceRowSpec)

/-- 'silhouettelaw11.ChoiceFinds', WHERE WHAT IT READS IS OF BULK AT MOST 1048576: true; the input reads as it did. -/
def choiceFindsUptoRow : OpenClaim := { program := "ytgebfagiomcmbaagreatdoor", sum := "3ed42383e9e9820fb9d42a7588d8faa4da0debbedfd6f16bc71f26d681bf9d8d", func := "silhouette/silhouettelaw11.ChoiceFinds", spec := "choiceFinds", inPlace := ["internal/reflectlite.ValueOf", "(internal/reflectlite.Value).Type", "(internal/reflectlite.Value).IsNil", "internal/reflectlite.TypeOf", "(internal/reflectlite.Value).Elem", "(internal/reflectlite.Value).Set"], unfollowed := true, recurses := true, named := ["errors.errorType"], apart := false, laid := [("errors.errorType", laid_errors_errorType)], narrowed := true }
def ChoiceFindsUptoSaid : Prop := choiceFindsUptoRow.holds Tryz.pinned (OpenSpec.upto choiceFindsSpec)

end Rows
end Go.Proofs.YtgebfagiomcmbaaGreatDoor
