/-
  RightCodes: the walk.
-/
import Derived.Test.YthnhellobpceaaaRightHead
namespace Go.Proofs.Ythnhellobpceaaa
open Go.RowKit

theorem Code_lit (k : Int) (t th bad : Bool) (c : Int) (h : codeN k t th bad = c) : ∀ w : World, Calls Try.prog 21 #[.int .i64 k, .bool t, .bool th, .bool bad] w fun e w' => e = .returned (.int .i64 c) ∧ w' = w := fun w => h ▸ Code_any k t th bad w

set_option maxRecDepth 100000 in
set_option maxHeartbeats 1000000 in
theorem RightCodes_at (z : Nat) (t th bad : Bool) (w : World) (hz : z < 256) :
    Calls Try.prog 7 #[.int .u8 z, .bool t, .bool th, .bool bad] w fun e w' => e = .returned (.bool true) ∧ Chg [] w w' := by
  have hk : ((z : Int) % 3 = 0) ∨ ((z : Int) % 3 = 1) ∨ ((z : Int) % 3 = 2) := by omega
  rcases hk with hk | hk | hk
  · cases t <;> cases th <;> cases bad
    · have C1 := Code_lit 0 false false false 0 (by decide)
      have m1 : bits .and .i64 0 1 = 0 := by kernel_rfl
      have m2 : bits .and .i64 0 2 = 0 := by kernel_rfl
      have m4 : bits .and .i64 0 4 = 0 := by kernel_rfl
      have m8 : bits .and .i64 0 8 = 0 := by kernel_rfl
      have m16 : bits .and .i64 0 16 = 0 := by kernel_rfl
      go_enter Try.func7, Try.ntmps7
      go_wp2_with fail
      refine (head_any _).mono ?_; rintro e w1 ⟨rfl, hc1⟩
      go_wp2_with fail
      refine (C1 _).mono ?_; rintro e w2 ⟨rfl, rfl⟩
      go_wp2_with fail
      go_ret
      exact ⟨rfl, hc1⟩
    · have C1 := Code_lit 0 false false true 0 (by decide)
      have m1 : bits .and .i64 0 1 = 0 := by kernel_rfl
      have m2 : bits .and .i64 0 2 = 0 := by kernel_rfl
      have m4 : bits .and .i64 0 4 = 0 := by kernel_rfl
      have m8 : bits .and .i64 0 8 = 0 := by kernel_rfl
      have m16 : bits .and .i64 0 16 = 0 := by kernel_rfl
      go_enter Try.func7, Try.ntmps7
      go_wp2_with fail
      refine (head_any _).mono ?_; rintro e w1 ⟨rfl, hc1⟩
      go_wp2_with fail
      refine (C1 _).mono ?_; rintro e w2 ⟨rfl, rfl⟩
      go_wp2_with fail
      go_ret
      exact ⟨rfl, hc1⟩
    · have C1 := Code_lit 0 false true false 1 (by decide)
      have m1 : bits .and .i64 1 1 = 1 := by kernel_rfl
      have m2 : bits .and .i64 1 2 = 0 := by kernel_rfl
      have m4 : bits .and .i64 1 4 = 0 := by kernel_rfl
      have m8 : bits .and .i64 1 8 = 0 := by kernel_rfl
      have m16 : bits .and .i64 1 16 = 0 := by kernel_rfl
      go_enter Try.func7, Try.ntmps7
      go_wp2_with fail
      refine (head_any _).mono ?_; rintro e w1 ⟨rfl, hc1⟩
      go_wp2_with fail
      refine (C1 _).mono ?_; rintro e w2 ⟨rfl, rfl⟩
      go_wp2_with fail
      go_ret
      exact ⟨rfl, hc1⟩
    · have C1 := Code_lit 0 false true true 9 (by decide)
      have m1 : bits .and .i64 9 1 = 1 := by kernel_rfl
      have m2 : bits .and .i64 9 2 = 0 := by kernel_rfl
      have m4 : bits .and .i64 9 4 = 0 := by kernel_rfl
      have m8 : bits .and .i64 9 8 = 8 := by kernel_rfl
      have m16 : bits .and .i64 9 16 = 0 := by kernel_rfl
      go_enter Try.func7, Try.ntmps7
      go_wp2_with fail
      refine (head_any _).mono ?_; rintro e w1 ⟨rfl, hc1⟩
      go_wp2_with fail
      refine (C1 _).mono ?_; rintro e w2 ⟨rfl, rfl⟩
      go_wp2_with fail
      go_ret
      exact ⟨rfl, hc1⟩
    · have C1 := Code_lit 0 true false false 4 (by decide)
      have m1 : bits .and .i64 4 1 = 0 := by kernel_rfl
      have m2 : bits .and .i64 4 2 = 0 := by kernel_rfl
      have m4 : bits .and .i64 4 4 = 4 := by kernel_rfl
      have m8 : bits .and .i64 4 8 = 0 := by kernel_rfl
      have m16 : bits .and .i64 4 16 = 0 := by kernel_rfl
      go_enter Try.func7, Try.ntmps7
      go_wp2_with fail
      refine (head_any _).mono ?_; rintro e w1 ⟨rfl, hc1⟩
      go_wp2_with fail
      refine (C1 _).mono ?_; rintro e w2 ⟨rfl, rfl⟩
      go_wp2_with fail
      go_ret
      exact ⟨rfl, hc1⟩
    · have C1 := Code_lit 0 true false true 4 (by decide)
      have m1 : bits .and .i64 4 1 = 0 := by kernel_rfl
      have m2 : bits .and .i64 4 2 = 0 := by kernel_rfl
      have m4 : bits .and .i64 4 4 = 4 := by kernel_rfl
      have m8 : bits .and .i64 4 8 = 0 := by kernel_rfl
      have m16 : bits .and .i64 4 16 = 0 := by kernel_rfl
      go_enter Try.func7, Try.ntmps7
      go_wp2_with fail
      refine (head_any _).mono ?_; rintro e w1 ⟨rfl, hc1⟩
      go_wp2_with fail
      refine (C1 _).mono ?_; rintro e w2 ⟨rfl, rfl⟩
      go_wp2_with fail
      go_ret
      exact ⟨rfl, hc1⟩
    · have C1 := Code_lit 0 true true false 5 (by decide)
      have m1 : bits .and .i64 5 1 = 1 := by kernel_rfl
      have m2 : bits .and .i64 5 2 = 0 := by kernel_rfl
      have m4 : bits .and .i64 5 4 = 4 := by kernel_rfl
      have m8 : bits .and .i64 5 8 = 0 := by kernel_rfl
      have m16 : bits .and .i64 5 16 = 0 := by kernel_rfl
      go_enter Try.func7, Try.ntmps7
      go_wp2_with fail
      refine (head_any _).mono ?_; rintro e w1 ⟨rfl, hc1⟩
      go_wp2_with fail
      refine (C1 _).mono ?_; rintro e w2 ⟨rfl, rfl⟩
      go_wp2_with fail
      go_ret
      exact ⟨rfl, hc1⟩
    · have C1 := Code_lit 0 true true true 13 (by decide)
      have m1 : bits .and .i64 13 1 = 1 := by kernel_rfl
      have m2 : bits .and .i64 13 2 = 0 := by kernel_rfl
      have m4 : bits .and .i64 13 4 = 4 := by kernel_rfl
      have m8 : bits .and .i64 13 8 = 8 := by kernel_rfl
      have m16 : bits .and .i64 13 16 = 0 := by kernel_rfl
      go_enter Try.func7, Try.ntmps7
      go_wp2_with fail
      refine (head_any _).mono ?_; rintro e w1 ⟨rfl, hc1⟩
      go_wp2_with fail
      refine (C1 _).mono ?_; rintro e w2 ⟨rfl, rfl⟩
      go_wp2_with fail
      go_ret
      exact ⟨rfl, hc1⟩
  · cases t <;> cases th <;> cases bad
    · have C1 := Code_lit 1 false false false 2 (by decide)
      have m1 : bits .and .i64 2 1 = 0 := by kernel_rfl
      have m2 : bits .and .i64 2 2 = 2 := by kernel_rfl
      have m4 : bits .and .i64 2 4 = 0 := by kernel_rfl
      have m8 : bits .and .i64 2 8 = 0 := by kernel_rfl
      have m16 : bits .and .i64 2 16 = 0 := by kernel_rfl
      go_enter Try.func7, Try.ntmps7
      go_wp2_with fail
      refine (head_any _).mono ?_; rintro e w1 ⟨rfl, hc1⟩
      go_wp2_with fail
      refine (C1 _).mono ?_; rintro e w2 ⟨rfl, rfl⟩
      go_wp2_with fail
      go_ret
      exact ⟨rfl, hc1⟩
    · have C1 := Code_lit 1 false false true 2 (by decide)
      have m1 : bits .and .i64 2 1 = 0 := by kernel_rfl
      have m2 : bits .and .i64 2 2 = 2 := by kernel_rfl
      have m4 : bits .and .i64 2 4 = 0 := by kernel_rfl
      have m8 : bits .and .i64 2 8 = 0 := by kernel_rfl
      have m16 : bits .and .i64 2 16 = 0 := by kernel_rfl
      go_enter Try.func7, Try.ntmps7
      go_wp2_with fail
      refine (head_any _).mono ?_; rintro e w1 ⟨rfl, hc1⟩
      go_wp2_with fail
      refine (C1 _).mono ?_; rintro e w2 ⟨rfl, rfl⟩
      go_wp2_with fail
      go_ret
      exact ⟨rfl, hc1⟩
    · have C1 := Code_lit 1 false true false 3 (by decide)
      have m1 : bits .and .i64 3 1 = 1 := by kernel_rfl
      have m2 : bits .and .i64 3 2 = 2 := by kernel_rfl
      have m4 : bits .and .i64 3 4 = 0 := by kernel_rfl
      have m8 : bits .and .i64 3 8 = 0 := by kernel_rfl
      have m16 : bits .and .i64 3 16 = 0 := by kernel_rfl
      go_enter Try.func7, Try.ntmps7
      go_wp2_with fail
      refine (head_any _).mono ?_; rintro e w1 ⟨rfl, hc1⟩
      go_wp2_with fail
      refine (C1 _).mono ?_; rintro e w2 ⟨rfl, rfl⟩
      go_wp2_with fail
      go_ret
      exact ⟨rfl, hc1⟩
    · have C1 := Code_lit 1 false true true 11 (by decide)
      have m1 : bits .and .i64 11 1 = 1 := by kernel_rfl
      have m2 : bits .and .i64 11 2 = 2 := by kernel_rfl
      have m4 : bits .and .i64 11 4 = 0 := by kernel_rfl
      have m8 : bits .and .i64 11 8 = 8 := by kernel_rfl
      have m16 : bits .and .i64 11 16 = 0 := by kernel_rfl
      go_enter Try.func7, Try.ntmps7
      go_wp2_with fail
      refine (head_any _).mono ?_; rintro e w1 ⟨rfl, hc1⟩
      go_wp2_with fail
      refine (C1 _).mono ?_; rintro e w2 ⟨rfl, rfl⟩
      go_wp2_with fail
      go_ret
      exact ⟨rfl, hc1⟩
    · have C1 := Code_lit 1 true false false 6 (by decide)
      have m1 : bits .and .i64 6 1 = 0 := by kernel_rfl
      have m2 : bits .and .i64 6 2 = 2 := by kernel_rfl
      have m4 : bits .and .i64 6 4 = 4 := by kernel_rfl
      have m8 : bits .and .i64 6 8 = 0 := by kernel_rfl
      have m16 : bits .and .i64 6 16 = 0 := by kernel_rfl
      go_enter Try.func7, Try.ntmps7
      go_wp2_with fail
      refine (head_any _).mono ?_; rintro e w1 ⟨rfl, hc1⟩
      go_wp2_with fail
      refine (C1 _).mono ?_; rintro e w2 ⟨rfl, rfl⟩
      go_wp2_with fail
      go_ret
      exact ⟨rfl, hc1⟩
    · have C1 := Code_lit 1 true false true 6 (by decide)
      have m1 : bits .and .i64 6 1 = 0 := by kernel_rfl
      have m2 : bits .and .i64 6 2 = 2 := by kernel_rfl
      have m4 : bits .and .i64 6 4 = 4 := by kernel_rfl
      have m8 : bits .and .i64 6 8 = 0 := by kernel_rfl
      have m16 : bits .and .i64 6 16 = 0 := by kernel_rfl
      go_enter Try.func7, Try.ntmps7
      go_wp2_with fail
      refine (head_any _).mono ?_; rintro e w1 ⟨rfl, hc1⟩
      go_wp2_with fail
      refine (C1 _).mono ?_; rintro e w2 ⟨rfl, rfl⟩
      go_wp2_with fail
      go_ret
      exact ⟨rfl, hc1⟩
    · have C1 := Code_lit 1 true true false 7 (by decide)
      have m1 : bits .and .i64 7 1 = 1 := by kernel_rfl
      have m2 : bits .and .i64 7 2 = 2 := by kernel_rfl
      have m4 : bits .and .i64 7 4 = 4 := by kernel_rfl
      have m8 : bits .and .i64 7 8 = 0 := by kernel_rfl
      have m16 : bits .and .i64 7 16 = 0 := by kernel_rfl
      go_enter Try.func7, Try.ntmps7
      go_wp2_with fail
      refine (head_any _).mono ?_; rintro e w1 ⟨rfl, hc1⟩
      go_wp2_with fail
      refine (C1 _).mono ?_; rintro e w2 ⟨rfl, rfl⟩
      go_wp2_with fail
      go_ret
      exact ⟨rfl, hc1⟩
    · have C1 := Code_lit 1 true true true 15 (by decide)
      have m1 : bits .and .i64 15 1 = 1 := by kernel_rfl
      have m2 : bits .and .i64 15 2 = 2 := by kernel_rfl
      have m4 : bits .and .i64 15 4 = 4 := by kernel_rfl
      have m8 : bits .and .i64 15 8 = 8 := by kernel_rfl
      have m16 : bits .and .i64 15 16 = 0 := by kernel_rfl
      go_enter Try.func7, Try.ntmps7
      go_wp2_with fail
      refine (head_any _).mono ?_; rintro e w1 ⟨rfl, hc1⟩
      go_wp2_with fail
      refine (C1 _).mono ?_; rintro e w2 ⟨rfl, rfl⟩
      go_wp2_with fail
      go_ret
      exact ⟨rfl, hc1⟩
  · cases t <;> cases th <;> cases bad
    · have C1 := Code_lit 2 false false false 16 (by decide)
      have m1 : bits .and .i64 16 1 = 0 := by kernel_rfl
      have m2 : bits .and .i64 16 2 = 0 := by kernel_rfl
      have m4 : bits .and .i64 16 4 = 0 := by kernel_rfl
      have m8 : bits .and .i64 16 8 = 0 := by kernel_rfl
      have m16 : bits .and .i64 16 16 = 16 := by kernel_rfl
      go_enter Try.func7, Try.ntmps7
      go_wp2_with fail
      refine (head_any _).mono ?_; rintro e w1 ⟨rfl, hc1⟩
      go_wp2_with fail
      refine (C1 _).mono ?_; rintro e w2 ⟨rfl, rfl⟩
      go_wp2_with fail
      go_ret
      exact ⟨rfl, hc1⟩
    · have C1 := Code_lit 2 false false true 16 (by decide)
      have m1 : bits .and .i64 16 1 = 0 := by kernel_rfl
      have m2 : bits .and .i64 16 2 = 0 := by kernel_rfl
      have m4 : bits .and .i64 16 4 = 0 := by kernel_rfl
      have m8 : bits .and .i64 16 8 = 0 := by kernel_rfl
      have m16 : bits .and .i64 16 16 = 16 := by kernel_rfl
      go_enter Try.func7, Try.ntmps7
      go_wp2_with fail
      refine (head_any _).mono ?_; rintro e w1 ⟨rfl, hc1⟩
      go_wp2_with fail
      refine (C1 _).mono ?_; rintro e w2 ⟨rfl, rfl⟩
      go_wp2_with fail
      go_ret
      exact ⟨rfl, hc1⟩
    · have C1 := Code_lit 2 false true false 17 (by decide)
      have m1 : bits .and .i64 17 1 = 1 := by kernel_rfl
      have m2 : bits .and .i64 17 2 = 0 := by kernel_rfl
      have m4 : bits .and .i64 17 4 = 0 := by kernel_rfl
      have m8 : bits .and .i64 17 8 = 0 := by kernel_rfl
      have m16 : bits .and .i64 17 16 = 16 := by kernel_rfl
      go_enter Try.func7, Try.ntmps7
      go_wp2_with fail
      refine (head_any _).mono ?_; rintro e w1 ⟨rfl, hc1⟩
      go_wp2_with fail
      refine (C1 _).mono ?_; rintro e w2 ⟨rfl, rfl⟩
      go_wp2_with fail
      go_ret
      exact ⟨rfl, hc1⟩
    · have C1 := Code_lit 2 false true true 25 (by decide)
      have m1 : bits .and .i64 25 1 = 1 := by kernel_rfl
      have m2 : bits .and .i64 25 2 = 0 := by kernel_rfl
      have m4 : bits .and .i64 25 4 = 0 := by kernel_rfl
      have m8 : bits .and .i64 25 8 = 8 := by kernel_rfl
      have m16 : bits .and .i64 25 16 = 16 := by kernel_rfl
      go_enter Try.func7, Try.ntmps7
      go_wp2_with fail
      refine (head_any _).mono ?_; rintro e w1 ⟨rfl, hc1⟩
      go_wp2_with fail
      refine (C1 _).mono ?_; rintro e w2 ⟨rfl, rfl⟩
      go_wp2_with fail
      go_ret
      exact ⟨rfl, hc1⟩
    · have C1 := Code_lit 2 true false false 20 (by decide)
      have m1 : bits .and .i64 20 1 = 0 := by kernel_rfl
      have m2 : bits .and .i64 20 2 = 0 := by kernel_rfl
      have m4 : bits .and .i64 20 4 = 4 := by kernel_rfl
      have m8 : bits .and .i64 20 8 = 0 := by kernel_rfl
      have m16 : bits .and .i64 20 16 = 16 := by kernel_rfl
      go_enter Try.func7, Try.ntmps7
      go_wp2_with fail
      refine (head_any _).mono ?_; rintro e w1 ⟨rfl, hc1⟩
      go_wp2_with fail
      refine (C1 _).mono ?_; rintro e w2 ⟨rfl, rfl⟩
      go_wp2_with fail
      go_ret
      exact ⟨rfl, hc1⟩
    · have C1 := Code_lit 2 true false true 20 (by decide)
      have m1 : bits .and .i64 20 1 = 0 := by kernel_rfl
      have m2 : bits .and .i64 20 2 = 0 := by kernel_rfl
      have m4 : bits .and .i64 20 4 = 4 := by kernel_rfl
      have m8 : bits .and .i64 20 8 = 0 := by kernel_rfl
      have m16 : bits .and .i64 20 16 = 16 := by kernel_rfl
      go_enter Try.func7, Try.ntmps7
      go_wp2_with fail
      refine (head_any _).mono ?_; rintro e w1 ⟨rfl, hc1⟩
      go_wp2_with fail
      refine (C1 _).mono ?_; rintro e w2 ⟨rfl, rfl⟩
      go_wp2_with fail
      go_ret
      exact ⟨rfl, hc1⟩
    · have C1 := Code_lit 2 true true false 21 (by decide)
      have m1 : bits .and .i64 21 1 = 1 := by kernel_rfl
      have m2 : bits .and .i64 21 2 = 0 := by kernel_rfl
      have m4 : bits .and .i64 21 4 = 4 := by kernel_rfl
      have m8 : bits .and .i64 21 8 = 0 := by kernel_rfl
      have m16 : bits .and .i64 21 16 = 16 := by kernel_rfl
      go_enter Try.func7, Try.ntmps7
      go_wp2_with fail
      refine (head_any _).mono ?_; rintro e w1 ⟨rfl, hc1⟩
      go_wp2_with fail
      refine (C1 _).mono ?_; rintro e w2 ⟨rfl, rfl⟩
      go_wp2_with fail
      go_ret
      exact ⟨rfl, hc1⟩
    · have C1 := Code_lit 2 true true true 29 (by decide)
      have m1 : bits .and .i64 29 1 = 1 := by kernel_rfl
      have m2 : bits .and .i64 29 2 = 0 := by kernel_rfl
      have m4 : bits .and .i64 29 4 = 4 := by kernel_rfl
      have m8 : bits .and .i64 29 8 = 8 := by kernel_rfl
      have m16 : bits .and .i64 29 16 = 16 := by kernel_rfl
      go_enter Try.func7, Try.ntmps7
      go_wp2_with fail
      refine (head_any _).mono ?_; rintro e w1 ⟨rfl, hc1⟩
      go_wp2_with fail
      refine (C1 _).mono ?_; rintro e w2 ⟨rfl, rfl⟩
      go_wp2_with fail
      go_ret
      exact ⟨rfl, hc1⟩

end Go.Proofs.Ythnhellobpceaaa
