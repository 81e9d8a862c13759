/-
  RightMeet: the walk, for arguments as they come.
-/
import Derived.Test.YthnhellobpceaaaLawRightMeet
import Derived.Test.YthnhellobpceaaaOpenOp06
namespace Go.Proofs.Ythnhellobpceaaa
open Go.RowKit

theorem RightMeet_walk (A : Option Addr) (n c : Nat) (L : List Rg) (x : Rg) (w : World) (hn : n ≤ 9223372036854775807) (hnil : A = none → n = 0 ∧ c = 0) (h : SlR w A n L) : Calls Try.prog 4 #[.slice A n c, .agg x.cs] w fun x w' => x = .returned (.bool true) ∧ Chg [] w w' := by
  exact RightMeet_at A n c L x w h hn hnil

end Go.Proofs.Ythnhellobpceaaa
