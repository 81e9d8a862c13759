/-
  VaTells: the walk.
-/
import Derived.Test.YtnmaffgcbpjabaaVaHead
import Derived.Test.YtnmaffgcbpjabaaVaR
namespace Go.Proofs.Ytnmaffgcbpjabaa
open Go.RowKit

set_option maxRecDepth 100000 in
set_option maxHeartbeats 1000000 in
theorem VaTells_at (a : Nat) (p q l : Int) (w : World) (ha : a < 18446744073709551616) (h0 : -9223372036854775808 ≤ l) (h1 : l ≤ 9223372036854775807) :
    Calls Try.prog 3 #[.int .u64 a, .int .i64 p, .int .i64 q, .int .i64 l] w fun e w' => e = .returned (.bool true) ∧ Chg [] w w' := by
  have C1 := fun w => Canon_any a w
  have C2 := fun w => RCanon_any a w ha
  have A1 := fun w => Aligned_any a w ha
  have A2 := fun w => RAligned_any a w ha
  have P1 := fun w => Page_any a w ha
  have P2 := fun w => RPage_any a w ha
  have W1 := fun w => Word_any a w ha
  have W2 := fun w => RWord_any a w ha
  have J1 := fun w => Join_any p q w
  have J2 := fun w => RJoin_any p q w
  have I1 := fun w => Idx_any p l w h0 h1
  have I2 := fun w => RIdx_any p l w
  generalize canB a = cb at *
  generalize aliB a = ab at *
  generalize pageN a = pa at *
  generalize wordN a = wa at *
  generalize joinN p q = jo at *
  generalize idxI p l = ix at *
  go_enter Try.func3, Try.ntmps3
  go_wp2_with fail
  refine (head_any _).mono ?_; rintro e w1 ⟨rfl, d1⟩
  go_wp2_with fail
  refine (C1 _).mono ?_; rintro e w2 ⟨rfl, d2⟩
  go_wp2_with fail
  refine (C2 _).mono ?_; rintro e w3 ⟨rfl, d3⟩
  go_wp2_with fail
  refine (A1 _).mono ?_; rintro e w4 ⟨rfl, d4⟩
  go_wp2_with fail
  refine (A2 _).mono ?_; rintro e w5 ⟨rfl, d5⟩
  go_wp2_with fail
  refine (P1 _).mono ?_; rintro e w6 ⟨rfl, d6⟩
  go_wp2_with fail
  refine (P2 _).mono ?_; rintro e w7 ⟨rfl, d7⟩
  go_wp2_with fail
  refine (W1 _).mono ?_; rintro e w8 ⟨rfl, d8⟩
  go_wp2_with fail
  refine (W2 _).mono ?_; rintro e w9 ⟨rfl, d9⟩
  go_wp2_with fail
  refine (J1 _).mono ?_; rintro e w10 ⟨rfl, d10⟩
  go_wp2_with fail
  refine (J2 _).mono ?_; rintro e w11 ⟨rfl, d11⟩
  go_wp2_with fail
  refine (I1 _).mono ?_; rintro e w12 ⟨rfl, d12⟩
  go_wp2_with fail
  refine (I2 _).mono ?_; rintro e w13 ⟨rfl, d13⟩
  go_wp2_with fail
  go_ret
  exact ⟨rfl, ((((((((((((d1.trans d2).trans d3).trans d4).trans d5).trans d6).trans d7).trans d8).trans d9).trans d10).trans d11).trans d12).trans d13).chg⟩

end Go.Proofs.Ytnmaffgcbpjabaa
