/-
  RightCodes: the walk, for arguments as they come.
-/
import Derived.Test.YthnhellobpceaaaLawRightCodes
import Derived.Test.YthnhellobpceaaaOpenOp06
namespace Go.Proofs.Ythnhellobpceaaa
open Go.RowKit

theorem RightCodes_walk (z : Int) (t th bad : Bool) (w : World) (b : 0 ≤ z ∧ z ≤ 255) : Calls Try.prog 7 #[.int .u8 z, .bool t, .bool th, .bool bad] w fun x w' => x = .returned (.bool true) ∧ Chg [] w w' := by
  obtain ⟨v, rfl⟩ := Int.eq_ofNat_of_zero_le b.1
  exact RightCodes_at v t th bad w (by omega)

end Go.Proofs.Ythnhellobpceaaa
