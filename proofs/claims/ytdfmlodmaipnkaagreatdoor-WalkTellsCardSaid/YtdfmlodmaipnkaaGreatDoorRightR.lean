/-
  The contracts of the document's answers to right.
-/
import Derived.Test.YtdfmlodmaipnkaaGreatDoorRightB
import Derived.StillTailTactics
namespace Go.Proofs.YtdfmlodmaipnkaaGreatDoor
open Go.RowKit

set_option maxHeartbeats 400000 in
theorem RAll_any (w : World) : Calls Tryz.prog 28 #[] w fun e w' => e = .returned (.agg Rg.all.cs) ∧ Chg [] w w' := by
  go_enter Tryz.func28, Tryz.ntmps28
  go_wp2_with fail
  try simp only [Exit.inBlock, Exit.then]
  refine bodyPost_ret (cell_ret rfl (Blk.new _ _ _) rfl Tryz.underlying30 rfl (by kernel_rfl)) rfl ?_
  exact ⟨rfl, (Chg.refl [] w).alloc _⟩

set_option maxHeartbeats 400000 in
theorem ROf_any (p0 p1 p2 p3 p4 p5 p6 p7 : Bool) (f : Int) (w : World) :
    Calls Tryz.prog 34 #[.agg #[.bool p0, .bool p1, .bool p2, .bool p3, .bool p4, .bool p5, .bool p6, .bool p7, .int .i64 f]] w fun e w' => e = .returned (.agg #[.bool p1, .bool p2, .bool !p6]) ∧ Chg [] w w' := by
  go_enter Tryz.func34, Tryz.ntmps34
  go_wp2_with fail
  try simp only [Exit.inBlock, Exit.then]
  have hB := Blk.new (w.alloc (Obj.cells #[.bool p0, .bool p1, .bool p2, .bool p3, .bool p4, .bool p5, .bool p6, .bool p7, .int .i64 f] 77)) 30 #[.bool p1, .bool p2, .bool !p6]
  rw [show (w.alloc (Obj.cells #[.bool p0, .bool p1, .bool p2, .bool p3, .bool p4, .bool p5, .bool p6, .bool p7, .int .i64 f] 77)).heap.size = w.heap.size + 1 by simp] at hB
  refine bodyPost_ret (cell_ret rfl hB rfl Tryz.underlying30 rfl (by kernel_rfl)) rfl ?_
  exact ⟨rfl, ((Chg.refl [] w).alloc _).alloc _⟩

set_option maxRecDepth 100000 in
set_option maxHeartbeats 2000000 in
theorem RCode_any (k : Int) (t th bad : Bool) (w : World) :
    Calls Tryz.prog 32 #[.int .i64 k, .bool t, .bool th, .bool bad] w fun e w' => e = .returned (.int .i64 (codeN k t th bad)) ∧ w' = w := by
  have hk : (k = 1 ∧ (k == 1) = true ∧ (k == 2) = false) ∨ (k = 2 ∧ (k == 1) = false ∧ (k == 2) = true) ∨ (k ≠ 1 ∧ k ≠ 2 ∧ (k == 1) = false ∧ (k == 2) = false) := by
    by_cases h1 : k = 1
    · subst h1; simp
    · by_cases h2 : k = 2
      · subst h2; simp
      · simp [h1, h2]
  unfold codeN
  rcases hk with ⟨rfl, k1, k2⟩ | ⟨rfl, k1, k2⟩ | ⟨_, _, k1, k2⟩
  all_goals
    rw [k1, k2]
    cases th <;> cases t <;> cases bad
  all_goals
    go_enter Tryz.func32, Tryz.ntmps32
    go_wp2_with fail
    go_ret
    exact ⟨rfl, rfl⟩

theorem may_of (r : Rg) (k : Int) (t : Bool) : mayB r k t = ((!t || r.u) && (decide (k = 0) || (decide (k = 1) && r.w) || (decide (k = 2) && r.x))) := by
  obtain ⟨rw, ru, rx⟩ := r
  unfold mayB kindB askR under
  by_cases h0 : k = 0
  · subst h0; cases rw <;> cases ru <;> cases rx <;> cases t <;> decide
  · by_cases h1 : k = 1
    · subst h1; cases rw <;> cases ru <;> cases rx <;> cases t <;> decide
    · by_cases h2 : k = 2
      · subst h2; cases rw <;> cases ru <;> cases rx <;> cases t <;> decide
      · simp [h0, h1, h2]

set_option maxRecDepth 100000 in
set_option maxHeartbeats 2000000 in
theorem RMay_any (r : Rg) (k : Int) (t : Bool) (w : World) :
    Calls Tryz.prog 35 #[.agg r.cs, .int .i64 k, .bool t] w fun e w' => e = .returned (.bool (mayB r k t)) ∧ Chg [] w w' := by
  rw [may_of]
  obtain ⟨rw, ru, rx⟩ := r
  simp only [Rg.cs]
  have hk : (k = 0) ∨ (k = 1) ∨ (k = 2) ∨ (k ≠ 0 ∧ k ≠ 1 ∧ k ≠ 2) := by omega
  rcases hk with rfl | rfl | rfl | ⟨h0, h1, h2⟩
  · cases t <;> cases ru
    all_goals
      go_enter Tryz.func35, Tryz.ntmps35
      go_wp2_with fail
      go_ret
      exact ⟨ret_bool (by simp), (Chg.refl [] w).alloc _⟩
  · cases t <;> cases ru
    all_goals
      go_enter Tryz.func35, Tryz.ntmps35
      go_wp2_with fail
      go_ret
      exact ⟨ret_bool (by simp), (Chg.refl [] w).alloc _⟩
  · cases t <;> cases ru
    all_goals
      go_enter Tryz.func35, Tryz.ntmps35
      go_wp2_with fail
      go_ret
      exact ⟨ret_bool (by simp), (Chg.refl [] w).alloc _⟩
  · have e0 : (k == 0) = false := by simp [h0]
    have e1 : (k == 1) = false := by simp [h1]
    have e2 : (k == 2) = false := by simp [h2]
    cases t <;> cases ru
    all_goals
      go_enter Tryz.func35, Tryz.ntmps35
      go_wp2_with fail
      go_ret
      exact ⟨ret_bool (by simp [h0, h1, h2]), (Chg.refl [] w).alloc _⟩

end Go.Proofs.YtdfmlodmaipnkaaGreatDoor
