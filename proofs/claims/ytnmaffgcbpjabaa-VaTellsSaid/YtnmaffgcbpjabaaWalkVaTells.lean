/-
  VaTells: the walk, for arguments as they come.
-/
import Derived.Test.YtnmaffgcbpjabaaLawVaTells
namespace Go.Proofs.Ytnmaffgcbpjabaa
open Go.RowKit

theorem VaTells_walk (a0 a1 a2 a3 : Int) (w : World) (b0 : 0 ≤ a0 ∧ a0 ≤ 18446744073709551615) (b1 : -9223372036854775808 ≤ a1 ∧ a1 ≤ 9223372036854775807) (b2 : -9223372036854775808 ≤ a2 ∧ a2 ≤ 9223372036854775807) (b3 : -9223372036854775808 ≤ a3 ∧ a3 ≤ 9223372036854775807) : Calls Try.prog 3 #[.int .u64 a0, .int .i64 a1, .int .i64 a2, .int .i64 a3] w fun x w' => x = .returned (.bool true) ∧ Chg [] w w' := by
  obtain ⟨v0, rfl⟩ := Int.eq_ofNat_of_zero_le b0.1
  exact VaTells_at v0 a1 a2 a3 w (by omega) b3.1 b3.2

end Go.Proofs.Ytnmaffgcbpjabaa
