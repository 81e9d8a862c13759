/-
  The laws' head.
-/
import Derived.Test.YtnmaffgcbpjabaaVaA
namespace Go.Proofs.Ytnmaffgcbpjabaa
open Go.RowKit

set_option maxRecDepth 100000 in
set_option maxHeartbeats 1000000 in
theorem head_any (w : World) : Calls Try.prog 9 #[] w fun e w' => e = .returned (.bool true) ∧ Dr w w' := by
  have J0 : ∀ w, Calls Try.prog 18 #[.int .i64 300, .int .i64 5] w fun e w' => e = .returned (.int .u64 18446744073709538088) ∧ Dr w w' := fun w => by have := Join_any 300 5 w; rwa [show joinN 300 5 = 18446744073709538088 by decide +kernel] at this
  have J1 : ∀ w, Calls Try.prog 18 #[.int .i64 3, .int .i64 1] w fun e w' => e = .returned (.int .u64 200) ∧ Dr w w' := fun w => Join_any 3 1 w
  have P0 : ∀ w, Calls Try.prog 14 #[.int .u64 18446744073709538088] w fun e w' => e = .returned (.int .i64 300) ∧ Dr w w' := fun w => by have := Page_any 18446744073709538088 w (by decide); rwa [show pageN 18446744073709538088 = 300 by decide +kernel] at this
  have W0 : ∀ w, Calls Try.prog 16 #[.int .u64 18446744073709538088] w fun e w' => e = .returned (.int .i64 5) ∧ Dr w w' := fun w => Word_any 18446744073709538088 w (by decide)
  have C0 : ∀ w, Calls Try.prog 10 #[.int .u64 18446744073709538088] w fun e w' => e = .returned (.bool true) ∧ Dr w w' := fun w => Canon_any 18446744073709538088 w
  have A0 : ∀ w, Calls Try.prog 12 #[.int .u64 18446744073709538088] w fun e w' => e = .returned (.bool true) ∧ Dr w w' := fun w => Aligned_any 18446744073709538088 w (by decide)
  have C1 : ∀ w, Calls Try.prog 10 #[.int .u64 16384] w fun e w' => e = .returned (.bool false) ∧ Dr w w' := fun w => Canon_any 16384 w
  have C2 : ∀ w, Calls Try.prog 10 #[.int .u64 32768] w fun e w' => e = .returned (.bool false) ∧ Dr w w' := fun w => Canon_any 32768 w
  have C3 : ∀ w, Calls Try.prog 10 #[.int .u64 16383] w fun e w' => e = .returned (.bool true) ∧ Dr w w' := fun w => Canon_any 16383 w
  have A1 : ∀ w, Calls Try.prog 12 #[.int .u64 4] w fun e w' => e = .returned (.bool false) ∧ Dr w w' := fun w => Aligned_any 4 w (by decide)
  have I3 : ∀ w, Calls Try.prog 20 #[.int .i64 300, .int .i64 3] w fun e w' => e = .returned (.int .i64 4) ∧ Dr w w' := fun w => Idx_any 300 3 w (by decide) (by decide)
  have I2 : ∀ w, Calls Try.prog 20 #[.int .i64 300, .int .i64 2] w fun e w' => e = .returned (.int .i64 5) ∧ Dr w w' := fun w => Idx_any 300 2 w (by decide) (by decide)
  have I1 : ∀ w, Calls Try.prog 20 #[.int .i64 300, .int .i64 1] w fun e w' => e = .returned (.int .i64 4) ∧ Dr w w' := fun w => Idx_any 300 1 w (by decide) (by decide)
  have I0 : ∀ w, Calls Try.prog 20 #[.int .i64 300, .int .i64 0] w fun e w' => e = .returned (.int .i64 0) ∧ Dr w w' := fun w => Idx_any 300 0 w (by decide) (by decide)
  go_enter Try.func9, Try.ntmps9
  go_wp2_with fail
  refine (J0 _).mono ?_; rintro e w1 ⟨rfl, d1⟩
  go_wp2_with fail
  refine (P0 _).mono ?_; rintro e w2 ⟨rfl, d2⟩
  go_wp2_with fail
  refine (W0 _).mono ?_; rintro e w3 ⟨rfl, d3⟩
  go_wp2_with fail
  refine (C0 _).mono ?_; rintro e w4 ⟨rfl, d4⟩
  go_wp2_with fail
  refine (A0 _).mono ?_; rintro e w5 ⟨rfl, d5⟩
  go_wp2_with fail
  refine (C1 _).mono ?_; rintro e w6 ⟨rfl, d6⟩
  go_wp2_with fail
  refine (C2 _).mono ?_; rintro e w7 ⟨rfl, d7⟩
  go_wp2_with fail
  refine (C3 _).mono ?_; rintro e w8 ⟨rfl, d8⟩
  go_wp2_with fail
  refine (A1 _).mono ?_; rintro e w9 ⟨rfl, d9⟩
  go_wp2_with fail
  refine (I3 _).mono ?_; rintro e w10 ⟨rfl, d10⟩
  go_wp2_with fail
  refine (I2 _).mono ?_; rintro e w11 ⟨rfl, d11⟩
  go_wp2_with fail
  refine (I1 _).mono ?_; rintro e w12 ⟨rfl, d12⟩
  go_wp2_with fail
  refine (I0 _).mono ?_; rintro e w13 ⟨rfl, d13⟩
  go_wp2_with fail
  refine (J1 _).mono ?_; rintro e w14 ⟨rfl, d14⟩
  go_wp2_with fail
  go_ret
  exact ⟨rfl, ((((((((((((d1.trans d2).trans d3).trans d4).trans d5).trans d6).trans d7).trans d8).trans d9).trans d10).trans d11).trans d12).trans d13).trans d14⟩

end Go.Proofs.Ytnmaffgcbpjabaa
