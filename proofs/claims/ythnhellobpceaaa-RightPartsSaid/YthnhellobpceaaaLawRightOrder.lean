/-
  RightOrder: the walk.
-/
import Derived.Test.YthnhellobpceaaaRightHead
namespace Go.Proofs.Ythnhellobpceaaa
open Go.RowKit

theorem under_iff (a b : Rg) : under a b = true ↔ (a.w = true → b.w = true) ∧ (a.u = true → b.u = true) ∧ (a.x = true → b.x = true) := by
  obtain ⟨aw, au, ax⟩ := a
  obtain ⟨bw, bu, bx⟩ := b
  cases aw <;> cases au <;> cases ax <;> cases bw <;> cases bu <;> cases bx <;> decide
theorem under_self (a : Rg) : under a a = true := by rw [under_iff]; exact ⟨id, id, id⟩
theorem under_both (a b : Rg) : a.eqb b = (under a b && under b a) := by
  obtain ⟨aw, au, ax⟩ := a
  obtain ⟨bw, bu, bx⟩ := b
  cases aw <;> cases au <;> cases ax <;> cases bw <;> cases bu <;> cases bx <;> decide
theorem under_trans {a b c : Rg} (h : under a b = true) (k : under b c = true) : under a c = true := by
  rw [under_iff] at *
  exact ⟨fun x => k.1 (h.1 x), fun x => k.2.1 (h.2.1 x), fun x => k.2.2 (h.2.2 x)⟩

set_option maxRecDepth 100000 in
set_option maxHeartbeats 600000 in
theorem RightOrder_at (a b c : Rg) (w : World) :
    Calls Try.prog 6 #[.agg a.cs, .agg b.cs, .agg c.cs] w fun e w' => e = .returned (.bool true) ∧ Chg [] w w' := by
  have U1 := fun w => Under_any a a w
  have U2 := fun w => Under_any a b w
  have U3 := fun w => Under_any b a w
  have U4 := fun w => Under_any b c w
  have U5 := fun w => Under_any a c w
  have hq := fun w => run_eqR a b w
  rw [under_both] at hq
  have ht : under a b = true → under b c = true → under a c = true := under_trans
  rw [under_self] at U1
  generalize under a b = p at *
  generalize under b a = q at *
  generalize under b c = r at *
  generalize under a c = s at *
  obtain ⟨aw, au, ax⟩ := a
  obtain ⟨bw, bu, bx⟩ := b
  obtain ⟨cw, cu, cx⟩ := c
  simp only [Rg.cs] at *
  have HT := Lib.hid ht
  clear ht
  have hps : s = true ∨ (s = false ∧ (p = false ∨ r = false)) := by
    cases s
    · right; refine ⟨rfl, ?_⟩
      cases p
      · exact .inl rfl
      · cases r
        · exact .inr rfl
        · exact absurd (HT.out rfl rfl) (by decide)
    · exact .inl rfl
  clear HT
  go_enter Try.func6, Try.ntmps6
  go_wp2_with fail
  refine (head_any _).mono ?_; rintro e w1 ⟨rfl, hc1⟩
  have hA := (((Blk.new w 26 #[.bool aw, .bool au, .bool ax]).alloc (Obj.cells #[.bool bw, .bool bu, .bool bx] 26)).alloc (Obj.cells #[.bool cw, .bool cu, .bool cx] 26)).chg_ hc1 (by simp)
  have hB := ((Blk.new (w.alloc (Obj.cells #[.bool aw, .bool au, .bool ax] 26)) 26 #[.bool bw, .bool bu, .bool bx]).alloc (Obj.cells #[.bool cw, .bool cu, .bool cx] 26)).chg_ hc1 (by simp)
  have hC := (Blk.new ((w.alloc (Obj.cells #[.bool aw, .bool au, .bool ax] 26)).alloc (Obj.cells #[.bool bw, .bool bu, .bool bx] 26)) 26 #[.bool cw, .bool cu, .bool cx]).chg_ hc1 (by simp)
  have hcw := ((((Chg.refl [] w).alloc (Obj.cells #[.bool aw, .bool au, .bool ax] 26)).alloc (Obj.cells #[.bool bw, .bool bu, .bool bx] 26)).alloc (Obj.cells #[.bool cw, .bool cu, .bool cx] 26)).trans hc1 (by simp)
  rw [show (w.alloc (Obj.cells #[.bool aw, .bool au, .bool ax] 26)).heap.size = w.heap.size + 1 by simp] at hB
  rw [show ((w.alloc (Obj.cells #[.bool aw, .bool au, .bool ax] 26)).alloc (Obj.cells #[.bool bw, .bool bu, .bool bx] 26)).heap.size = w.heap.size + 1 + 1 by simp] at hC
  clear hc1
  generalize w.heap.size = g at *
  have a0 := fun n : Cls w1 => n.cell (blk3 hA).1
  have a1 := fun n : Cls w1 => n.cell (blk3 hA).2.1
  have a2 := fun n : Cls w1 => n.cell (blk3 hA).2.2
  have b0 := fun n : Cls w1 => n.cell (blk3 hB).1
  have b1 := fun n : Cls w1 => n.cell (blk3 hB).2.1
  have b2 := fun n : Cls w1 => n.cell (blk3 hB).2.2
  have c0 := fun n : Cls w1 => n.cell (blk3 hC).1
  have c1 := fun n : Cls w1 => n.cell (blk3 hC).2.1
  have c2 := fun n : Cls w1 => n.cell (blk3 hC).2.2
  clear hA hB hC
  go_wp2_with fail
  rcases hps with rfl | ⟨rfl, hpr⟩
  · cases p <;> cases q <;> cases r
    all_goals
      refine wp_region_cls (by kernel_rfl) (by kernel_rfl) ?_
      repeat (go_big_quiet_step (first | (go_at_call 17; with_reducible exact Calls.cls (U1 _)) | (go_at_call 17; with_reducible exact Calls.cls (U2 _)) | (go_at_call 17; with_reducible exact Calls.cls (U3 _)) | (go_at_call 17; with_reducible exact Calls.cls (U4 _)) | (go_at_call 17; with_reducible exact Calls.cls (U5 _))))
      refine wpQuiet_nil ?_
      rintro _ ⟨n, rfl⟩
      go_wp2_with fail
      go_ret
      exact ⟨rfl, hcw.trans n.ok (by simp)⟩
  · have hpr' : (p = false) ∨ (p = true ∧ r = false) := by cases p <;> simp_all
    clear hpr
    rcases hpr' with rfl | ⟨rfl, rfl⟩
    · cases q <;> cases r
      all_goals
        refine wp_region_cls (by kernel_rfl) (by kernel_rfl) ?_
        repeat (go_big_quiet_step (first | (go_at_call 17; with_reducible exact Calls.cls (U1 _)) | (go_at_call 17; with_reducible exact Calls.cls (U2 _)) | (go_at_call 17; with_reducible exact Calls.cls (U3 _)) | (go_at_call 17; with_reducible exact Calls.cls (U4 _)) | (go_at_call 17; with_reducible exact Calls.cls (U5 _))))
        refine wpQuiet_nil ?_
        rintro _ ⟨n, rfl⟩
        go_wp2_with fail
        go_ret
        exact ⟨rfl, hcw.trans n.ok (by simp)⟩
    · cases q
      all_goals
        refine wp_region_cls (by kernel_rfl) (by kernel_rfl) ?_
        repeat (go_big_quiet_step (first | (go_at_call 17; with_reducible exact Calls.cls (U1 _)) | (go_at_call 17; with_reducible exact Calls.cls (U2 _)) | (go_at_call 17; with_reducible exact Calls.cls (U3 _)) | (go_at_call 17; with_reducible exact Calls.cls (U4 _)) | (go_at_call 17; with_reducible exact Calls.cls (U5 _))))
        refine wpQuiet_nil ?_
        rintro _ ⟨n, rfl⟩
        go_wp2_with fail
        go_ret
        exact ⟨rfl, hcw.trans n.ok (by simp)⟩

end Go.Proofs.Ythnhellobpceaaa
