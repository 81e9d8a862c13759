/-
  The contracts of the document's answers to right.
-/
import Derived.Test.YtdfmlodmaipnkaaDoorRightB
import Derived.StillTailTactics
namespace Go.Proofs.YtdfmlodmaipnkaaDoor
open Go.RowKit

set_option maxHeartbeats 400000 in
theorem RAll_any (w : World) : Calls Tryd.prog 18 #[] w fun e w' => e = .returned (.agg Rg.all.cs) ∧ Chg [] w w' := by
  go_enter Tryd.func18, Tryd.ntmps18
  go_wp2_with fail
  try simp only [Exit.inBlock, Exit.then]
  refine bodyPost_ret (cell_ret rfl (Blk.new _ _ _) rfl Tryd.underlying32 rfl (by kernel_rfl)) rfl ?_
  exact ⟨rfl, (Chg.refl [] w).alloc _⟩

set_option maxHeartbeats 400000 in
theorem ROf_any (p0 p1 p2 p3 p4 p5 p6 p7 : Bool) (f : Int) (w : World) :
    Calls Tryd.prog 23 #[.agg #[.bool p0, .bool p1, .bool p2, .bool p3, .bool p4, .bool p5, .bool p6, .bool p7, .int .i64 f]] w fun e w' => e = .returned (.agg #[.bool p1, .bool p2, .bool !p6]) ∧ Chg [] w w' := by
  go_enter Tryd.func23, Tryd.ntmps23
  go_wp2_with fail
  try simp only [Exit.inBlock, Exit.then]
  have hB := Blk.new (w.alloc (Obj.cells #[.bool p0, .bool p1, .bool p2, .bool p3, .bool p4, .bool p5, .bool p6, .bool p7, .int .i64 f] 48)) 32 #[.bool p1, .bool p2, .bool !p6]
  rw [show (w.alloc (Obj.cells #[.bool p0, .bool p1, .bool p2, .bool p3, .bool p4, .bool p5, .bool p6, .bool p7, .int .i64 f] 48)).heap.size = w.heap.size + 1 by simp] at hB
  refine bodyPost_ret (cell_ret rfl hB rfl Tryd.underlying32 rfl (by kernel_rfl)) rfl ?_
  exact ⟨rfl, ((Chg.refl [] w).alloc _).alloc _⟩

set_option maxRecDepth 100000 in
set_option maxHeartbeats 1000000 in
theorem RUnder_any (a b : Rg) (w : World) :
    Calls Tryd.prog 22 #[.agg a.cs, .agg b.cs] w fun e w' => e = .returned (.bool (under a b)) ∧ Chg [] w w' := by
  obtain ⟨aw, au, ax⟩ := a
  obtain ⟨bw, bu, bx⟩ := b
  simp only [Rg.cs]
  cases aw <;> cases au <;> cases ax <;> cases bw <;> cases bu
  all_goals
    go_enter Tryd.func22, Tryd.ntmps22
    go_wp2_with fail
    go_ret
    exact ⟨ret_bool (by first | rfl | (cases bx <;> rfl)), ((Chg.refl [] w).alloc _).alloc _⟩

theorem may_of (r : Rg) (k : Int) (t : Bool) : mayB r k t = ((!t || r.u) && (decide (k = 0) || (decide (k = 1) && r.w) || (decide (k = 2) && r.x))) := by
  obtain ⟨rw, ru, rx⟩ := r
  unfold mayB kindB askR under
  by_cases h0 : k = 0
  · subst h0; cases rw <;> cases ru <;> cases rx <;> cases t <;> decide
  · by_cases h1 : k = 1
    · subst h1; cases rw <;> cases ru <;> cases rx <;> cases t <;> decide
    · by_cases h2 : k = 2
      · subst h2; cases rw <;> cases ru <;> cases rx <;> cases t <;> decide
      · simp [h0, h1, h2]

set_option maxRecDepth 100000 in
set_option maxHeartbeats 2000000 in
theorem RMay_any (r : Rg) (k : Int) (t : Bool) (w : World) :
    Calls Tryd.prog 25 #[.agg r.cs, .int .i64 k, .bool t] w fun e w' => e = .returned (.bool (mayB r k t)) ∧ Chg [] w w' := by
  rw [may_of]
  obtain ⟨rw, ru, rx⟩ := r
  simp only [Rg.cs]
  have hk : (k = 0) ∨ (k = 1) ∨ (k = 2) ∨ (k ≠ 0 ∧ k ≠ 1 ∧ k ≠ 2) := by omega
  rcases hk with rfl | rfl | rfl | ⟨h0, h1, h2⟩
  · cases t <;> cases ru
    all_goals
      go_enter Tryd.func25, Tryd.ntmps25
      go_wp2_with fail
      go_ret
      exact ⟨ret_bool (by simp), (Chg.refl [] w).alloc _⟩
  · cases t <;> cases ru
    all_goals
      go_enter Tryd.func25, Tryd.ntmps25
      go_wp2_with fail
      go_ret
      exact ⟨ret_bool (by simp), (Chg.refl [] w).alloc _⟩
  · cases t <;> cases ru
    all_goals
      go_enter Tryd.func25, Tryd.ntmps25
      go_wp2_with fail
      go_ret
      exact ⟨ret_bool (by simp), (Chg.refl [] w).alloc _⟩
  · have e0 : (k == 0) = false := by simp [h0]
    have e1 : (k == 1) = false := by simp [h1]
    have e2 : (k == 2) = false := by simp [h2]
    cases t <;> cases ru
    all_goals
      go_enter Tryd.func25, Tryd.ntmps25
      go_wp2_with fail
      go_ret
      exact ⟨ret_bool (by simp [h0, h1, h2]), (Chg.refl [] w).alloc _⟩

end Go.Proofs.YtdfmlodmaipnkaaDoor
