/-
  PteTells: the walk, for arguments as they come.
-/
import Derived.Test.YtgmdnglododhfaaLawPteTells
namespace Go.Proofs.Ytgmdnglododhfaa
open Go.RowKit

theorem PteTells_walk (a0 : Int) (a1 : Ent) (a2 : Bool) (w : World) (b0 : 0 ≤ a0 ∧ a0 ≤ 18446744073709551615) : Calls Try.prog 3 #[.int .u64 a0, .agg a1.cs, .bool a2] w fun x w' => x = .returned (.bool true) ∧ Chg [] w w' := by
  obtain ⟨v0, rfl⟩ := Int.eq_ofNat_of_zero_le b0.1
  exact PteTells_at v0 a1 a2 w (by omega)

end Go.Proofs.Ytgmdnglododhfaa
