/-
  RightMore: the walk, for arguments as they come.
-/
import Derived.Test.YthnhellobpceaaaLawRightMore
import Derived.Test.YthnhellobpceaaaOpenOp06
namespace Go.Proofs.Ythnhellobpceaaa
open Go.RowKit

theorem RightMore_walk (a b : Rg) (k : Int) (w : World)  : Calls Try.prog 5 #[.agg a.cs, .agg b.cs, .int .i64 k] w fun x w' => x = .returned (.bool true) ∧ Chg [] w w' := by
  exact RightMore_at a b k w

end Go.Proofs.Ythnhellobpceaaa
