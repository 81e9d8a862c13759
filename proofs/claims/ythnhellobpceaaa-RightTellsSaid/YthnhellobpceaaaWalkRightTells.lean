/-
  RightTells: the walk, for arguments as they come.
-/
import Derived.Test.YthnhellobpceaaaLawRightTells
import Derived.Test.YthnhellobpceaaaOpenOp06
namespace Go.Proofs.Ythnhellobpceaaa
open Go.RowKit

theorem RightTells_walk (e : Ent9) (A : Option Addr) (n c : Nat) (L : List Rg) (a b : Rg) (k : Int) (t th bad : Bool) (w : World) (hn : n ≤ 9223372036854775807) (h : SlR w A n L) : Calls Try.prog 3 #[.agg e.cs, .slice A n c, .agg a.cs, .agg b.cs, .int .i64 k, .bool t, .bool th, .bool bad] w fun x w' => x = .returned (.bool true) ∧ Chg [] w w' := by
  exact RightTells_at e.p0 e.p1 e.p2 e.p3 e.p4 e.p5 e.p6 e.p7 e.f A n c L a b k t th bad w h hn

end Go.Proofs.Ythnhellobpceaaa
