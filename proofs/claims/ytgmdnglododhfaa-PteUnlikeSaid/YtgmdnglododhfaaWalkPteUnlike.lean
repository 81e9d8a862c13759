/-
  PteUnlike: the walk, for arguments as they come.
-/
import Derived.Test.YtgmdnglododhfaaLawPteUnlike
namespace Go.Proofs.Ytgmdnglododhfaa
open Go.RowKit

theorem PteUnlike_walk (a0 a1 : Ent) (a2 a3 : Int) (w : World) (b2 : 0 ≤ a2 ∧ a2 ≤ 18446744073709551615) (b3 : 0 ≤ a3 ∧ a3 ≤ 18446744073709551615) : Calls Try.prog 7 #[.agg a0.cs, .agg a1.cs, .int .u64 a2, .int .u64 a3] w fun x w' => x = .returned (.bool true) ∧ Chg [] w w' := by
  obtain ⟨v2, rfl⟩ := Int.eq_ofNat_of_zero_le b2.1
  obtain ⟨v3, rfl⟩ := Int.eq_ofNat_of_zero_le b3.1
  exact PteUnlike_at a0 a1 v2 v3 w (by omega) (by omega)

end Go.Proofs.Ytgmdnglododhfaa
