/-
  RightOrder: the walk, for arguments as they come.
-/
import Derived.Test.YthnhellobpceaaaLawRightOrder
import Derived.Test.YthnhellobpceaaaOpenOp06
namespace Go.Proofs.Ythnhellobpceaaa
open Go.RowKit

theorem RightOrder_walk (a b c : Rg) (w : World)  : Calls Try.prog 6 #[.agg a.cs, .agg b.cs, .agg c.cs] w fun x w' => x = .returned (.bool true) ∧ Chg [] w w' := by
  exact RightOrder_at a b c w

end Go.Proofs.Ythnhellobpceaaa
