/-
  VaTables: the walk.
-/
import Derived.Test.YtnmaffgcbpjabaaVaHead
namespace Go.Proofs.Ytnmaffgcbpjabaa
open Go.RowKit

theorem idx3 (z : Nat) : idxI ((z : Int) % 512) 3 = ((z % 512 / 64 : Nat) : Int) := by unfold idxI; simp
theorem idx2 (z : Nat) : idxI ((z : Int) % 512) 2 = ((z % 512 / 8 % 8 : Nat) : Int) := by unfold idxI; simp
theorem idx1 (z : Nat) : idxI ((z : Int) % 512) 1 = ((z % 512 % 8 : Nat) : Int) := by unfold idxI; simp

set_option maxRecDepth 100000 in
set_option maxHeartbeats 1000000 in
theorem VaTables_at (z y : Nat) (w : World) (hz : z < 65536) (hy : y < 65536) :
    Calls Try.prog 8 #[.int .u16 z, .int .u16 y] w fun e w' => e = .returned (.bool true) ∧ Chg [] w w' := by
  have A3 := fun w => Idx_any ((z : Int) % 512) 3 w (by decide) (by decide)
  have B3 := fun w => Idx_any ((y : Int) % 512) 3 w (by decide) (by decide)
  have A2 := fun w => Idx_any ((z : Int) % 512) 2 w (by decide) (by decide)
  have B2 := fun w => Idx_any ((y : Int) % 512) 2 w (by decide) (by decide)
  have A1 := fun w => Idx_any ((z : Int) % 512) 1 w (by decide) (by decide)
  have hm : ((idxI ((z : Int) % 512) 3) == (idxI ((y : Int) % 512) 3)) = decide (z % 512 / 64 = y % 512 / 64) := by
    rw [idx3, idx3, Bool.eq_iff_iff]; simp only [beq_iff_eq, decide_eq_true_eq]; omega
  have hm2 : ((z : Int) % 512 / 64 == (y : Int) % 512 / 64) = decide (z % 512 / 64 = y % 512 / 64) := by
    rw [Bool.eq_iff_iff]; simp only [beq_iff_eq, decide_eq_true_eq]; omega
  have hl : (decide (z % 512 / 64 = y % 512 / 64) && ((idxI ((z : Int) % 512) 2) == (idxI ((y : Int) % 512) 2))) = decide (z % 512 / 8 = y % 512 / 8) := by
    rw [idx2, idx2, Bool.eq_iff_iff]; simp only [Bool.and_eq_true, beq_iff_eq, decide_eq_true_eq]; omega
  have hl2 : ((z : Int) % 512 / 8 == (y : Int) % 512 / 8) = decide (z % 512 / 8 = y % 512 / 8) := by
    rw [Bool.eq_iff_iff]; simp only [beq_iff_eq, decide_eq_true_eq]; omega
  have h1 : (idxI ((z : Int) % 512) 1 == (z : Int) % 8) = true := by rw [idx1]; simp
  generalize decide (z % 512 / 64 = y % 512 / 64) = t at *
  generalize decide (z % 512 / 8 = y % 512 / 8) = u at *
  generalize idxI ((z : Int) % 512) 3 = a3 at *
  generalize idxI ((y : Int) % 512) 3 = b3 at *
  generalize idxI ((z : Int) % 512) 2 = a2 at *
  generalize idxI ((y : Int) % 512) 2 = b2 at *
  generalize idxI ((z : Int) % 512) 1 = a1 at *
  cases t
  · rw [Bool.false_and] at hl
    subst hl
    clear A2 B2
    go_enter Try.func8, Try.ntmps8
    go_wp2_with fail
    refine (head_any _).mono ?_; rintro e w1 ⟨rfl, d1⟩
    go_wp2_with fail
    refine (A3 _).mono ?_; rintro e w2 ⟨rfl, d2⟩
    go_wp2_with fail
    refine (B3 _).mono ?_; rintro e w3 ⟨rfl, d3⟩
    go_wp2_with fail
    refine (A1 _).mono ?_; rintro e w4 ⟨rfl, d4⟩
    go_wp2_with fail
    go_ret
    exact ⟨rfl, (((d1.trans d2).trans d3).trans d4).chg⟩
  · rw [Bool.true_and] at hl
    go_enter Try.func8, Try.ntmps8
    go_wp2_with fail
    refine (head_any _).mono ?_; rintro e w1 ⟨rfl, d1⟩
    go_wp2_with fail
    refine (A3 _).mono ?_; rintro e w2 ⟨rfl, d2⟩
    go_wp2_with fail
    refine (B3 _).mono ?_; rintro e w3 ⟨rfl, d3⟩
    go_wp2_with fail
    refine (A2 _).mono ?_; rintro e w4 ⟨rfl, d4⟩
    go_wp2_with fail
    refine (B2 _).mono ?_; rintro e w5 ⟨rfl, d5⟩
    go_wp2_with fail
    refine (A1 _).mono ?_; rintro e w6 ⟨rfl, d6⟩
    go_wp2_with fail
    go_ret
    exact ⟨rfl, (((((d1.trans d2).trans d3).trans d4).trans d5).trans d6).chg⟩

end Go.Proofs.Ytnmaffgcbpjabaa
