/-
  RightTells: the walk.
-/
import Derived.Test.YthnhellobpceaaaRightHead
namespace Go.Proofs.Ythnhellobpceaaa
open Go.RowKit

set_option maxRecDepth 100000 in
set_option maxHeartbeats 1000000 in
theorem RightTells_at (p0 p1 p2 p3 p4 p5 p6 p7 : Bool) (f : Int) (A : Option Addr) (n c : Nat) (L : List Rg) (a b : Rg) (k : Int) (t th bad : Bool) (w : World) (h : SlR w A n L) (hn : n ≤ 9223372036854775807) :
    Calls Try.prog 3 #[.agg #[.bool p0, .bool p1, .bool p2, .bool p3, .bool p4, .bool p5, .bool p6, .bool p7, .int .i64 f], .slice A n c, .agg a.cs, .agg b.cs, .int .i64 k, .bool t, .bool th, .bool bad] w fun e w' => e = .returned (.bool true) ∧ Chg [] w w' := by
  have O1 := fun w => Of_any p0 p1 p2 p3 p4 p5 p6 p7 f w
  have O2 := fun w => ROf_any p0 p1 p2 p3 p4 p5 p6 p7 f w
  have A1 := fun w => All_any w
  have A2 := fun w => RAll_any w
  have U1 := fun w => Under_any a b w
  have U2 := fun w => RUnder_any a b w
  have Y1 := fun w => May_any a k t w
  have Y2 := fun w => RMay_any a k t w
  have C1 : ∀ w : World, Calls Try.prog 21 #[.int .i64 k, .bool t, .bool th, .bool bad] w fun e w' => e = .returned (.int .i64 (codeN k t th bad)) ∧ Chg [] w w' := fun w => (Code_any k t th bad w).mono fun e w' ⟨h1, h2⟩ => ⟨h1, h2 ▸ Chg.refl [] w⟩
  have C2 : ∀ w : World, Calls Try.prog 22 #[.int .i64 k, .bool t, .bool th, .bool bad] w fun e w' => e = .returned (.int .i64 (codeN k t th bad)) ∧ Chg [] w w' := fun w => (RCode_any k t th bad w).mono fun e w' ⟨h1, h2⟩ => ⟨h1, h2 ▸ Chg.refl [] w⟩
  have q1 := fun w => run_eqR ⟨p1, p2, !p6⟩ ⟨p1, p2, !p6⟩ w
  have q2 := fun w => run_eqR Rg.all Rg.all w
  have q3 := fun w => run_eqR (meetL L) (meetL L) w
  rw [Rg.eqb_self] at q1 q2 q3
  generalize codeN k t th bad = cc at *
  generalize under a b = u at *
  generalize mayB a k t = y at *
  obtain ⟨aw, au, ax⟩ := a
  obtain ⟨bw, bu, bx⟩ := b
  simp only [Rg.cs, Rg.all] at *
  by_cases hlen : n > 900
  · go_enter Try.func3, Try.ntmps3
    go_wp2_with fail
    refine (head_any _).mono ?_; rintro e w1 ⟨rfl, hc1⟩
    go_wp2_with fail
    go_ret
    exact ⟨rfl, ((((Chg.refl [] w).alloc _).alloc _).alloc _).trans hc1 (by simp)⟩
  go_enter Try.func3, Try.ntmps3
  go_wp2_with fail
  refine (head_any _).mono ?_; rintro e w1 ⟨rfl, hc1⟩
  have hP := (((Blk.new w 23 #[.bool p0, .bool p1, .bool p2, .bool p3, .bool p4, .bool p5, .bool p6, .bool p7, .int .i64 f]).alloc (Obj.cells #[.bool aw, .bool au, .bool ax] 26)).alloc (Obj.cells #[.bool bw, .bool bu, .bool bx] 26)).chg_ hc1 (by simp)
  have hA := ((Blk.new (w.alloc (Obj.cells #[.bool p0, .bool p1, .bool p2, .bool p3, .bool p4, .bool p5, .bool p6, .bool p7, .int .i64 f] 23)) 26 #[.bool aw, .bool au, .bool ax]).alloc (Obj.cells #[.bool bw, .bool bu, .bool bx] 26)).chg_ hc1 (by simp)
  have hB := (Blk.new ((w.alloc (Obj.cells #[.bool p0, .bool p1, .bool p2, .bool p3, .bool p4, .bool p5, .bool p6, .bool p7, .int .i64 f] 23)).alloc (Obj.cells #[.bool aw, .bool au, .bool ax] 26)) 26 #[.bool bw, .bool bu, .bool bx]).chg_ hc1 (by simp)
  rw [show ((w.alloc (Obj.cells #[.bool p0, .bool p1, .bool p2, .bool p3, .bool p4, .bool p5, .bool p6, .bool p7, .int .i64 f] 23))).heap.size = w.heap.size + 1 by simp] at hA
  rw [show (((w.alloc (Obj.cells #[.bool p0, .bool p1, .bool p2, .bool p3, .bool p4, .bool p5, .bool p6, .bool p7, .int .i64 f] 23)).alloc (Obj.cells #[.bool aw, .bool au, .bool ax] 26))).heap.size = w.heap.size + 1 + 1 by simp] at hB
  have hcw := ((((Chg.refl [] w).alloc (Obj.cells #[.bool p0, .bool p1, .bool p2, .bool p3, .bool p4, .bool p5, .bool p6, .bool p7, .int .i64 f] 23)).alloc (Obj.cells #[.bool aw, .bool au, .bool ax] 26)).alloc (Obj.cells #[.bool bw, .bool bu, .bool bx] 26)).trans hc1 (by simp)
  clear hc1
  generalize w.heap.size = g at *
  have hs := h.new hcw
  have M1 : ∀ n' : Cls w1, Calls Try.prog 15 #[.slice A n c] n'.val fun e w' => e = .returned (.agg (meetL L).cs) ∧ Chg [] n'.val w' := fun n' => Meet_any A n c L n'.val (hs.new n'.ok) hn
  have M2 : ∀ n' : Cls w1, Calls Try.prog 16 #[.slice A n c] n'.val fun e w' => e = .returned (.agg (meetL L).cs) ∧ Chg [] n'.val w' := fun n' => RMeet_any A n c L n'.val (hs.new n'.ok) hn
  simp only [Rg.cs] at M1 M2
  generalize (meetL L).w = mw at *
  generalize (meetL L).u = mu at *
  generalize (meetL L).x = mx at *
  clear hs h
  have e0 := fun n : Cls w1 => n.cell (show w1.cell? ⟨_, 0, none⟩ = _ from hP.cell 0)
  have e1 := fun n : Cls w1 => n.cell (show w1.cell? ⟨_, 1, none⟩ = _ from hP.cell 1)
  have e2 := fun n : Cls w1 => n.cell (show w1.cell? ⟨_, 2, none⟩ = _ from hP.cell 2)
  have e3 := fun n : Cls w1 => n.cell (show w1.cell? ⟨_, 3, none⟩ = _ from hP.cell 3)
  have e4 := fun n : Cls w1 => n.cell (show w1.cell? ⟨_, 4, none⟩ = _ from hP.cell 4)
  have e5 := fun n : Cls w1 => n.cell (show w1.cell? ⟨_, 5, none⟩ = _ from hP.cell 5)
  have e6 := fun n : Cls w1 => n.cell (show w1.cell? ⟨_, 6, none⟩ = _ from hP.cell 6)
  have e7 := fun n : Cls w1 => n.cell (show w1.cell? ⟨_, 7, none⟩ = _ from hP.cell 7)
  have e8 := fun n : Cls w1 => n.cell (show w1.cell? ⟨_, 8, none⟩ = _ from hP.cell 8)
  have a0 := fun n : Cls w1 => n.cell (show w1.cell? ⟨_, 0, none⟩ = _ from hA.cell 0)
  have a1 := fun n : Cls w1 => n.cell (show w1.cell? ⟨_, 1, none⟩ = _ from hA.cell 1)
  have a2 := fun n : Cls w1 => n.cell (show w1.cell? ⟨_, 2, none⟩ = _ from hA.cell 2)
  have b0 := fun n : Cls w1 => n.cell (show w1.cell? ⟨_, 0, none⟩ = _ from hB.cell 0)
  have b1 := fun n : Cls w1 => n.cell (show w1.cell? ⟨_, 1, none⟩ = _ from hB.cell 1)
  have b2 := fun n : Cls w1 => n.cell (show w1.cell? ⟨_, 2, none⟩ = _ from hB.cell 2)
  clear hP hA hB
  go_wp2_with fail
  refine wp_region_cls (by kernel_rfl) (by kernel_rfl) ?_
  repeat (go_big_quiet_step (first | (go_at_call 11; with_reducible exact Calls.cls (O1 _)) | (go_at_call 12; with_reducible exact Calls.cls (O2 _)) | (go_at_call 13; with_reducible exact Calls.cls (A1 _)) | (go_at_call 14; with_reducible exact Calls.cls (A2 _)) | (go_at_call 15; with_reducible exact Calls.cls (M1 _)) | (go_at_call 16; with_reducible exact Calls.cls (M2 _)) | (go_at_call 17; with_reducible exact Calls.cls (U1 _)) | (go_at_call 18; with_reducible exact Calls.cls (U2 _)) | (go_at_call 19; with_reducible exact Calls.cls (Y1 _)) | (go_at_call 20; with_reducible exact Calls.cls (Y2 _)) | (go_at_call 21; with_reducible exact Calls.cls (C1 _)) | (go_at_call 22; with_reducible exact Calls.cls (C2 _))))
  refine wpQuiet_nil ?_
  rintro _ ⟨n, rfl⟩
  go_wp2_with fail
  go_ret
  exact ⟨rfl, hcw.trans n.ok (by simp)⟩

end Go.Proofs.Ythnhellobpceaaa
