/-
  VaTables: the walk, for arguments as they come.
-/
import Derived.Test.YtnmaffgcbpjabaaLawVaTables
namespace Go.Proofs.Ytnmaffgcbpjabaa
open Go.RowKit

theorem VaTables_walk (a0 a1 : Int) (w : World) (b0 : 0 ≤ a0 ∧ a0 ≤ 65535) (b1 : 0 ≤ a1 ∧ a1 ≤ 65535) : Calls Try.prog 8 #[.int .u16 a0, .int .u16 a1] w fun x w' => x = .returned (.bool true) ∧ Chg [] w w' := by
  obtain ⟨v0, rfl⟩ := Int.eq_ofNat_of_zero_le b0.1
  obtain ⟨v1, rfl⟩ := Int.eq_ofNat_of_zero_le b1.1
  exact VaTables_at v0 v1 w (by omega) (by omega)

end Go.Proofs.Ytnmaffgcbpjabaa
