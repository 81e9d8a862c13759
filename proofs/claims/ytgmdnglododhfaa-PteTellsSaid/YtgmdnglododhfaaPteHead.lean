/-
  The laws' head, and the contracts as the laws use them.
-/
import Derived.Test.YtgmdnglododhfaaPteQ
import Derived.BigQuiet
namespace Go.Proofs.Ytgmdnglododhfaa
open Go.RowKit

/-- whether an entry that came as a result is bad -/
theorem bad_field (p w0 u a d s n b : Bool) (f : Int) (w : World) : (Instr.field 24 (.agg #[.bool p, .bool w0, .bool u, .bool a, .bool d, .bool s, .bool n, .bool b, .int .i64 f]) 7).run Try.prog w = .ok (.bool b) w := by kernel_rfl

/-- nine cells of a block -/
theorem blk9 {w : World} {g : Nat} {t : TypeId} {x0 x1 x2 x3 x4 x5 x6 x7 x8 : Value} (h : Blk w g t #[x0, x1, x2, x3, x4, x5, x6, x7, x8]) :
    w.cell? ⟨g, 0, none⟩ = some x0 ∧ w.cell? ⟨g, 1, none⟩ = some x1 ∧ w.cell? ⟨g, 2, none⟩ = some x2 ∧ w.cell? ⟨g, 3, none⟩ = some x3 ∧ w.cell? ⟨g, 4, none⟩ = some x4 ∧ w.cell? ⟨g, 5, none⟩ = some x5 ∧ w.cell? ⟨g, 6, none⟩ = some x6 ∧ w.cell? ⟨g, 7, none⟩ = some x7 ∧ w.cell? ⟨g, 8, none⟩ = some x8 :=
  ⟨h.cell 0, h.cell 1, h.cell 2, h.cell 3, h.cell 4, h.cell 5, h.cell 6, h.cell 7, h.cell 8⟩

theorem Used_at (v : Nat) (t : Bool) (w : World) (hv : v < 18446744073709551616) :
    Calls Try.prog 14 #[.int .u64 v, .bool t] w fun e w' => e = .returned (.int .u64 (usedN v t : Nat)) ∧ w = w' := Used_any v t w hv

set_option maxRecDepth 100000 in
set_option maxHeartbeats 2000000 in
theorem head_any (w : World) : Calls Try.prog 9 #[] w fun e w' => e = .returned (.bool true) ∧ Chg [] w w' := by
  have G0 : ∀ w : World, Calls Try.prog 12 #[.int .u64 9223372037160194083] w fun e w' => e = .returned (.agg #[.bool true, .bool true, .bool false, .bool true, .bool false, .bool false, .bool true, .bool false, .int .i64 74565]) ∧ Chg [] w w' := fun w => Get_any 9223372037160194083 w (by decide)
  have P0 : ∀ w : World, Calls Try.prog 10 #[.agg #[.bool true, .bool false, .bool true, .bool false, .bool true, .bool true, .bool false, .bool false, .int .i64 3]] w fun e w' => e = .returned (.tuple #[.int .u64 12485, .bool true]) ∧ Chg [] w w' := fun w => Put_at ⟨true, false, true, false, true, true, false, false, 3⟩ w
  have P1 : ∀ w : World, Calls Try.prog 10 #[.agg #[.bool false, .bool false, .bool false, .bool false, .bool false, .bool false, .bool false, .bool false, .int .i64 1048576]] w fun e w' => e = .returned (.tuple #[.int .u64 0, .bool false]) ∧ Chg [] w w' := fun w => Put_at ⟨false, false, false, false, false, false, false, false, 1048576⟩ w
  have P2 : ∀ w : World, Calls Try.prog 10 #[.agg #[.bool false, .bool false, .bool false, .bool false, .bool false, .bool false, .bool false, .bool true, .int .i64 0]] w fun e w' => e = .returned (.tuple #[.int .u64 0, .bool false]) ∧ Chg [] w w' := fun w => Put_at ⟨false, false, false, false, false, false, false, true, 0⟩ w
  have G1 : ∀ w : World, Calls Try.prog 12 #[.int .u64 8] w fun e w' => e = .returned (.agg #[.bool false, .bool false, .bool false, .bool false, .bool false, .bool false, .bool false, .bool true, .int .i64 0]) ∧ Chg [] w w' := fun w => Get_any 8 w (by decide)
  have G2 : ∀ w : World, Calls Try.prog 12 #[.int .u64 4611686018427387904] w fun e w' => e = .returned (.agg #[.bool false, .bool false, .bool false, .bool false, .bool false, .bool false, .bool false, .bool true, .int .i64 0]) ∧ Chg [] w w' := fun w => Get_any 4611686018427387904 w (by decide)
  have U0 : ∀ w : World, Calls Try.prog 14 #[.int .u64 1, .bool false] w fun e w' => e = .returned (.int .u64 33) ∧ w = w' := fun w => Used_at 1 false w (by decide)
  have U1 : ∀ w : World, Calls Try.prog 14 #[.int .u64 33, .bool true] w fun e w' => e = .returned (.int .u64 97) ∧ w = w' := fun w => Used_at 33 true w (by decide)
  have hq : ∀ w : World, (binOp .eql 24 (.agg #[.bool true, .bool true, .bool false, .bool true, .bool false, .bool false, .bool true, .bool false, .int .i64 74565]) (.agg #[.bool true, .bool true, .bool false, .bool true, .bool false, .bool false, .bool true, .bool false, .int .i64 74565])).run Try.prog w = .ok (.bool true) w := fun w => by
    have := run_eqE ⟨true, true, false, true, false, false, true, false, 74565⟩ ⟨true, true, false, true, false, false, true, false, 74565⟩ w
    rwa [eqb_self] at this
  have hfb := bad_field false false false false false false false true 0
  go_enter Try.func9, Try.ntmps9
  go_wp2_with fail
  refine (G0 _).mono ?_; rintro e w1 ⟨rfl, hc1⟩
  have hB := Blk.new w1 24 #[.bool true, .bool true, .bool false, .bool true, .bool false, .bool false, .bool true, .bool false, .int .i64 74565]
  have hcB := hc1.alloc (Obj.cells #[.bool true, .bool true, .bool false, .bool true, .bool false, .bool false, .bool true, .bool false, .int .i64 74565] 24)
  go_wp2_with fail
  generalize w1.heap.size = g at *
  refine (P0 _).mono ?_; rintro e w2 ⟨rfl, hc2⟩
  have hB2 := hB.chg_ hc2 (by simp)
  have hcB2 := hcB.trans hc2 (by simp)
  clear hB hcB hc2 hc1
  go_wp2_with fail
  refine (P1 _).mono ?_; rintro e w3 ⟨rfl, hc3⟩
  have hB3 := hB2.chg_ hc3 (by simp)
  have hcB3 := hcB2.trans hc3 (by simp)
  clear hB2 hcB2 hc3
  go_wp2_with fail
  refine (P2 _).mono ?_; rintro e w4 ⟨rfl, hc4⟩
  have hB4 := hB3.chg_ hc4 (by simp)
  have hcB4 := hcB3.trans hc4 (by simp)
  clear hB3 hcB3 hc4
  have e0 := hB4.cell 0
  have e1 := hB4.cell 1
  have e2 := hB4.cell 2
  have e3 := hB4.cell 3
  have e4 := hB4.cell 4
  have e5 := hB4.cell 5
  have e6 := hB4.cell 6
  have e7 := hB4.cell 7
  have e8 := hB4.cell 8
  simp at e0 e1 e2 e3 e4 e5 e6 e7 e8
  go_wp2_with fail
  refine (G1 _).mono ?_; rintro e w5 ⟨rfl, hc5⟩
  have hcB5 := hcB4.trans hc5 (by simp)
  clear hcB4 hc5 hB4 e0 e1 e2 e3 e4 e5 e6 e7 e8
  go_wp2_with fail
  refine (G2 _).mono ?_; rintro e w6 ⟨rfl, hc6⟩
  have hcB6 := hcB5.trans hc6 (by simp)
  clear hcB5 hc6
  go_wp2_with fail
  refine (U0 _).mono ?_; rintro e w7 ⟨rfl, rfl⟩
  go_wp2_with fail
  refine (U1 _).mono ?_; rintro e w7 ⟨rfl, rfl⟩
  go_wp2_with fail
  go_ret
  exact ⟨rfl, hcB6⟩

end Go.Proofs.Ytgmdnglododhfaa
