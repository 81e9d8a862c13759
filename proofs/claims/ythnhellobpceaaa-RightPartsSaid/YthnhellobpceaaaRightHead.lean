/-
  The laws' head; the contracts as the laws use them.
-/
import Derived.Test.YthnhellobpceaaaRightS
namespace Go.Proofs.Ythnhellobpceaaa
open Go.RowKit

set_option maxRecDepth 100000 in
set_option maxHeartbeats 4000000 in
theorem head_any (w : World) : Calls Try.prog 10 #[] w fun e w' => e = .returned (.bool true) ∧ Chg [] w w' := by
  have M1 : ∀ (g : Nat) (w : World), Blk w g 26 #[.bool true, .bool true, .bool false, .bool false, .bool true, .bool true] → Calls Try.prog 15 #[.slice (some ⟨g, 0, none⟩) 2 2] w fun e w' => e = .returned (.agg #[.bool false, .bool true, .bool false]) ∧ Chg [] w w' := fun g w h => Meet_any _ 2 2 [⟨true, true, false⟩, ⟨false, true, true⟩] w (SlR.made2 ⟨true, true, false⟩ ⟨false, true, true⟩ h) (by decide)
  have M0 : ∀ w : World, Calls Try.prog 15 #[.slice none 0 0] w fun e w' => e = .returned (.agg #[.bool true, .bool true, .bool true]) ∧ Chg [] w w' := fun w => Meet_any _ 0 0 [] w ⟨rfl, fun h => absurd h (by decide)⟩ (by decide)
  have A0 : ∀ w : World, Calls Try.prog 13 #[] w fun e w' => e = .returned (.agg #[.bool true, .bool true, .bool true]) ∧ Chg [] w w' := fun w => All_any w
  have U1 : ∀ w : World, Calls Try.prog 17 #[.agg #[.bool false, .bool true, .bool false], .agg #[.bool true, .bool true, .bool false]] w fun e w' => e = .returned (.bool true) ∧ Chg [] w w' := fun w => Under_any ⟨false, true, false⟩ ⟨true, true, false⟩ w
  have U2 : ∀ w : World, Calls Try.prog 17 #[.agg #[.bool true, .bool true, .bool false], .agg #[.bool false, .bool true, .bool true]] w fun e w' => e = .returned (.bool false) ∧ Chg [] w w' := fun w => Under_any ⟨true, true, false⟩ ⟨false, true, true⟩ w
  have Y1 : ∀ w : World, Calls Try.prog 19 #[.agg #[.bool true, .bool true, .bool false], .int .i64 1, .bool true] w fun e w' => e = .returned (.bool true) ∧ Chg [] w w' := fun w => May_any ⟨true, true, false⟩ 1 true w
  have Y2 : ∀ w : World, Calls Try.prog 19 #[.agg #[.bool true, .bool true, .bool false], .int .i64 2, .bool false] w fun e w' => e = .returned (.bool false) ∧ Chg [] w w' := fun w => May_any ⟨true, true, false⟩ 2 false w
  have Y3 : ∀ w : World, Calls Try.prog 19 #[.agg #[.bool true, .bool false, .bool false], .int .i64 0, .bool true] w fun e w' => e = .returned (.bool false) ∧ Chg [] w w' := fun w => May_any ⟨true, false, false⟩ 0 true w
  have Y4 : ∀ w : World, Calls Try.prog 19 #[.agg #[.bool false, .bool false, .bool false], .int .i64 0, .bool false] w fun e w' => e = .returned (.bool true) ∧ Chg [] w w' := fun w => May_any ⟨false, false, false⟩ 0 false w
  have Y5 : ∀ w : World, Calls Try.prog 19 #[.agg #[.bool true, .bool true, .bool false], .int .i64 3, .bool false] w fun e w' => e = .returned (.bool false) ∧ Chg [] w w' := fun w => May_any ⟨true, true, false⟩ 3 false w
  have C1 : ∀ w : World, Calls Try.prog 21 #[.int .i64 1, .bool true, .bool true, .bool true] w fun e w' => e = .returned (.int .i64 15) ∧ w' = w := fun w => Code_any 1 true true true w
  have C2 : ∀ w : World, Calls Try.prog 21 #[.int .i64 2, .bool false, .bool false, .bool true] w fun e w' => e = .returned (.int .i64 16) ∧ w' = w := fun w => Code_any 2 false false true w
  have O1 : ∀ w : World, Calls Try.prog 11 #[.agg #[.bool false, .bool true, .bool false, .bool false, .bool false, .bool false, .bool false, .bool false, .int .i64 0]] w fun e w' => e = .returned (.agg #[.bool true, .bool false, .bool true]) ∧ Chg [] w w' := fun w => Of_any false true false false false false false false 0 w
  have q1 : ∀ w : World, (binOp .eql 26 (.agg #[.bool false, .bool true, .bool false]) (.agg #[.bool false, .bool true, .bool false])).run Try.prog w = .ok (.bool true) w := fun w => run_eqR ⟨false, true, false⟩ ⟨false, true, false⟩ w
  have q2 : ∀ w : World, (binOp .eql 26 (.agg #[.bool true, .bool true, .bool true]) (.agg #[.bool true, .bool true, .bool true])).run Try.prog w = .ok (.bool true) w := fun w => run_eqR ⟨true, true, true⟩ ⟨true, true, true⟩ w
  have q3 : ∀ w : World, (binOp .eql 26 (.agg #[.bool true, .bool false, .bool true]) (.agg #[.bool true, .bool false, .bool true])).run Try.prog w = .ok (.bool true) w := fun w => run_eqR ⟨true, false, true⟩ ⟨true, false, true⟩ w
  go_enter Try.func10, Try.ntmps10
  have hA := (Blk.new w 26 #[.bool true, .bool true, .bool false]).alloc (Obj.cells #[.bool false, .bool true, .bool true] 26)
  have hB := Blk.new (w.alloc (Obj.cells #[.bool true, .bool true, .bool false] 26)) 26 #[.bool false, .bool true, .bool true]
  have hM := Blk.new ((w.alloc (Obj.cells #[.bool true, .bool true, .bool false] 26)).alloc (Obj.cells #[.bool false, .bool true, .bool true] 26)) 26 #[.bool true, .bool true, .bool false, .bool false, .bool true, .bool true]
  rw [show (w.alloc (Obj.cells #[.bool true, .bool true, .bool false] 26)).heap.size = w.heap.size + 1 by simp] at hB
  rw [show ((w.alloc (Obj.cells #[.bool true, .bool true, .bool false] 26)).alloc (Obj.cells #[.bool false, .bool true, .bool true] 26)).heap.size = w.heap.size + 1 + 1 by simp] at hM
  have hc := (((Chg.refl [] w).alloc (Obj.cells #[.bool true, .bool true, .bool false] 26)).alloc (Obj.cells #[.bool false, .bool true, .bool true] 26)).alloc (Obj.cells #[.bool true, .bool true, .bool false, .bool false, .bool true, .bool true] 26)
  replace hA := hA.alloc (Obj.cells #[.bool true, .bool true, .bool false, .bool false, .bool true, .bool true] 26)
  replace hB := hB.alloc (Obj.cells #[.bool true, .bool true, .bool false, .bool false, .bool true, .bool true] 26)
  go_wp2_with fail
  generalize ((w.alloc (Obj.cells #[.bool true, .bool true, .bool false] 26)).alloc (Obj.cells #[.bool false, .bool true, .bool true] 26)).alloc (Obj.cells #[.bool true, .bool true, .bool false, .bool false, .bool true, .bool true] 26) = w0 at *
  generalize w.heap.size = g at *
  refine (M1 _ _ hM).mono ?_; rintro e w1 ⟨rfl, hc1⟩
  have h1 := hc.trans hc1 (by simp)
  replace hA := hA.chg_ hc1 (by simp); replace hB := hB.chg_ hc1 (by simp); obtain ⟨a0, a1, a2⟩ := blk3 hA; obtain ⟨b0, b1, b2⟩ := blk3 hB
  clear hc1
  go_wp2_with fail
  clear a0 a1 a2 b0 b1 b2
  refine (M0 _).mono ?_; rintro e w2 ⟨rfl, hc2⟩
  have h2 := h1.trans hc2 (by simp)
  replace hA := hA.chg_ hc2 (by simp); replace hB := hB.chg_ hc2 (by simp); obtain ⟨a0, a1, a2⟩ := blk3 hA; obtain ⟨b0, b1, b2⟩ := blk3 hB
  clear hc2
  go_wp2_with fail
  clear a0 a1 a2 b0 b1 b2
  refine (A0 _).mono ?_; rintro e w3 ⟨rfl, hc3⟩
  have h3 := h2.trans hc3 (by simp)
  replace hA := hA.chg_ hc3 (by simp); replace hB := hB.chg_ hc3 (by simp); obtain ⟨a0, a1, a2⟩ := blk3 hA; obtain ⟨b0, b1, b2⟩ := blk3 hB
  clear hc3
  go_wp2_with fail
  clear a0 a1 a2 b0 b1 b2
  refine (U1 _).mono ?_; rintro e w4 ⟨rfl, hc4⟩
  have h4 := h3.trans hc4 (by simp)
  replace hA := hA.chg_ hc4 (by simp); replace hB := hB.chg_ hc4 (by simp); obtain ⟨a0, a1, a2⟩ := blk3 hA; obtain ⟨b0, b1, b2⟩ := blk3 hB
  clear hc4
  go_wp2_with fail
  clear a0 a1 a2 b0 b1 b2
  refine (U2 _).mono ?_; rintro e w5 ⟨rfl, hc5⟩
  have h5 := h4.trans hc5 (by simp)
  replace hA := hA.chg_ hc5 (by simp); replace hB := hB.chg_ hc5 (by simp); obtain ⟨a0, a1, a2⟩ := blk3 hA; obtain ⟨b0, b1, b2⟩ := blk3 hB
  clear hc5
  go_wp2_with fail
  clear a0 a1 a2 b0 b1 b2
  refine (Y1 _).mono ?_; rintro e w6 ⟨rfl, hc6⟩
  have h6 := h5.trans hc6 (by simp)
  replace hA := hA.chg_ hc6 (by simp); replace hB := hB.chg_ hc6 (by simp); obtain ⟨a0, a1, a2⟩ := blk3 hA; obtain ⟨b0, b1, b2⟩ := blk3 hB
  clear hc6
  go_wp2_with fail
  clear a0 a1 a2 b0 b1 b2
  refine (Y2 _).mono ?_; rintro e w7 ⟨rfl, hc7⟩
  have h7 := h6.trans hc7 (by simp)
  replace hA := hA.chg_ hc7 (by simp); replace hB := hB.chg_ hc7 (by simp); obtain ⟨a0, a1, a2⟩ := blk3 hA; obtain ⟨b0, b1, b2⟩ := blk3 hB
  clear hc7
  go_wp2_with fail
  clear a0 a1 a2 b0 b1 b2
  refine (Y3 _).mono ?_; rintro e w8 ⟨rfl, hc8⟩
  have h8 := h7.trans hc8 (by simp)
  replace hA := hA.chg_ hc8 (by simp); replace hB := hB.chg_ hc8 (by simp); obtain ⟨a0, a1, a2⟩ := blk3 hA; obtain ⟨b0, b1, b2⟩ := blk3 hB
  clear hc8
  go_wp2_with fail
  clear a0 a1 a2 b0 b1 b2
  refine (Y4 _).mono ?_; rintro e w9 ⟨rfl, hc9⟩
  have h9 := h8.trans hc9 (by simp)
  replace hA := hA.chg_ hc9 (by simp); replace hB := hB.chg_ hc9 (by simp); obtain ⟨a0, a1, a2⟩ := blk3 hA; obtain ⟨b0, b1, b2⟩ := blk3 hB
  clear hc9
  go_wp2_with fail
  clear a0 a1 a2 b0 b1 b2
  refine (Y5 _).mono ?_; rintro e w10 ⟨rfl, hc10⟩
  have h10 := h9.trans hc10 (by simp)
  replace hA := hA.chg_ hc10 (by simp); replace hB := hB.chg_ hc10 (by simp); obtain ⟨a0, a1, a2⟩ := blk3 hA; obtain ⟨b0, b1, b2⟩ := blk3 hB
  clear hc10
  go_wp2_with fail
  clear a0 a1 a2 b0 b1 b2
  refine (C1 _).mono ?_; rintro e w11 ⟨rfl, rfl⟩
  go_wp2_with fail
  refine (C2 _).mono ?_; rintro e w12 ⟨rfl, rfl⟩
  go_wp2_with fail
  refine (O1 _).mono ?_; rintro e w13 ⟨rfl, hc13⟩
  have h13 := h10.trans hc13 (by simp)
  clear hc13
  go_wp2_with fail
  go_ret
  exact ⟨rfl, h13⟩

end Go.Proofs.Ythnhellobpceaaa
