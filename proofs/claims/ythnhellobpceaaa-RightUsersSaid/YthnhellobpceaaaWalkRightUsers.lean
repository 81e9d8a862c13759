/-
  RightUsers: the walk, for arguments as they come.
-/
import Derived.Test.YthnhellobpceaaaLawRightUsers
import Derived.Test.YthnhellobpceaaaOpenOp06
namespace Go.Proofs.Ythnhellobpceaaa
open Go.RowKit

theorem RightUsers_walk (t : Bool) (w : World)  : Calls Try.prog 9 #[.bool t] w fun x w' => x = .returned (.bool true) ∧ Chg [] w w' := by
  exact RightUsers_at t w

end Go.Proofs.Ythnhellobpceaaa
