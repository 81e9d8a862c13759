/-
  RightParts: the walk, for arguments as they come.
-/
import Derived.Test.YthnhellobpceaaaLawRightParts
import Derived.Test.YthnhellobpceaaaOpenOp06
namespace Go.Proofs.Ythnhellobpceaaa
open Go.RowKit

theorem RightParts_walk (A : Option Addr) (n c : Nat) (L : List Rg) (B : Option Addr) (m d : Nat) (M : List Rg) (x y : Rg) (w : World) (hn : n ≤ 9223372036854775807) (nA : A = none → n = 0 ∧ c = 0) (hA : SlR w A n L) (hm : m ≤ 9223372036854775807) (nB : B = none → m = 0 ∧ d = 0) (hB : SlR w B m M) : Calls Try.prog 8 #[.slice A n c, .slice B m d, .agg x.cs, .agg y.cs] w fun x w' => x = .returned (.bool true) ∧ Chg [] w w' := by
  exact RightParts_at A B n m c d L M x y w hA hB hn hm nA nB

end Go.Proofs.Ythnhellobpceaaa
