/-
  What the one variable that the laws of walk name holds: errors.errorType.
-/
import Derived.Test.YtdfmlodmaipnkaaGreatDoorRows
import Derived.Test.YtdfmlodmaipnkaaGreatDoorProg
import Derived.RowKit
import Derived.RowKitTokens
import Derived.LaidLaws
import Derived.LaidHandle
namespace Go.Proofs.YtdfmlodmaipnkaaGreatDoor
open Go.ChangeShapes Go.WideShapes Go.RowKit

/-- the variable's one cell: the type of 'error', as reflectlite tells it -/
def errV : Value := .iface 136 (.agg #[.pointer (some ⟨1, 65, none⟩)])
/-- the world has it -/
def ErrIn (w : World) : Prop := w.cell? ⟨0, 0, none⟩ = some errV

theorem err_et : Tryz.prog.globalNamed "errors.errorType" = some 0 := by kernel_rfl
theorem err_rt : (Tryz.prog.cutTypes.find? (·.1 == "internal/reflectlite.rtype")).map (·.2) = some 136 := by kernel_rfl
theorem err_one : ((List.range Tryz.prog.types.size).filter fun t => Tryz.prog.rowNamed t [101, 114, 114, 111, 114]) = [65] := by kernel_rfl

/-- what the condition gives a walk: the variable's one cell -/
theorem handle_of_laid {W : World} {l : List (String × DataW Unit)} (hl : l = [("errors.errorType", Rows.laid_errors_errorType)]) (h : laidMetH Tryz.prog l W) : ErrIn W := by
  subst hl
  have h' : laidMet Tryz.prog [] W ∧ handlesMet Tryz.prog [("errors.errorType", Rows.laid_errors_errorType)] W := h
  obtain ⟨name, u, ty, e1, e2, e3, e4, e5⟩ := h'.2 _ (List.mem_singleton.2 rfl)
  have en : name = [101, 114, 114, 111, 114] := (Option.some.inj e1).symm
  subst en
  obtain rfl := Option.some.inj (err_rt.symm.trans e2)
  have hm : ty ∈ (List.range Tryz.prog.types.size).filter fun t => Tryz.prog.rowNamed t [101, 114, 114, 111, 114] := List.mem_filter.2 ⟨List.mem_range.2 e3, e4⟩
  rw [err_one] at hm
  obtain rfl := List.mem_singleton.1 hm
  have hh : typeHandle Tryz.prog 65 = .pointer (some ⟨1, 65, none⟩) := by kernel_rfl
  rw [hh] at e5
  have := World.var?_cell err_et e5 0
  unfold ErrIn errV
  simpa using this

end Go.Proofs.YtdfmlodmaipnkaaGreatDoor
