/-
  VaBack: the walk, for arguments as they come.
-/
import Derived.Test.YtnmaffgcbpjabaaLawVaBack
namespace Go.Proofs.Ytnmaffgcbpjabaa
open Go.RowKit

theorem VaBack_walk (a0 a1 a2 : Int) (w : World) (b0 : 0 ≤ a0 ∧ a0 ≤ 18446744073709551615) (b1 : 0 ≤ a1 ∧ a1 ≤ 65535) (b2 : 0 ≤ a2 ∧ a2 ≤ 255) : Calls Try.prog 4 #[.int .u64 a0, .int .u16 a1, .int .u8 a2] w fun x w' => x = .returned (.bool true) ∧ Chg [] w w' := by
  obtain ⟨v0, rfl⟩ := Int.eq_ofNat_of_zero_le b0.1
  obtain ⟨v1, rfl⟩ := Int.eq_ofNat_of_zero_le b1.1
  obtain ⟨v2, rfl⟩ := Int.eq_ofNat_of_zero_le b2.1
  exact VaBack_at v0 v1 v2 w (by omega) (by omega) (by omega)

end Go.Proofs.Ytnmaffgcbpjabaa
