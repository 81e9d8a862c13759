/-
  RightUsers: the walk.
-/
import Derived.Test.YthnhellobpceaaaRightHead
namespace Go.Proofs.Ythnhellobpceaaa
open Go.RowKit

theorem May_lit (a b c : Bool) (k : Int) (t : Bool) (r : Bool) (h : mayB ⟨a, b, c⟩ k t = r) : ∀ w : World, Calls Try.prog 19 #[.agg #[.bool a, .bool b, .bool c], .int .i64 k, .bool t] w fun e w' => e = .returned (.bool r) ∧ Chg [] w w' := fun w => h ▸ May_any ⟨a, b, c⟩ k t w

set_option maxRecDepth 100000 in
set_option maxHeartbeats 1000000 in
theorem RightUsers_at (t : Bool) (w : World) :
    Calls Try.prog 9 #[.bool t] w fun e w' => e = .returned (.bool true) ∧ Chg [] w w' := by
  have A1 := fun w => All_any w
  simp only [Rg.cs, Rg.all] at A1
  go_enter Try.func9, Try.ntmps9
  go_wp2_with fail
  refine (head_any _).mono ?_; rintro e w1 ⟨rfl, hc1⟩
  go_wp2_with fail
  refine (A1 _).mono ?_; rintro e w2 ⟨rfl, hc2⟩
  have hcw := hc1.trans hc2 (by simp)
  clear hc1 hc2 A1
  go_wp2_with fail
  have hA := ((((Blk.new w2 26 #[.bool true, .bool true, .bool true]).alloc (Obj.cells #[.bool false, .bool true, .bool true] 26)).alloc (Obj.cells #[.bool true, .bool true, .bool false] 26)).alloc (Obj.cells #[.bool true, .bool false, .bool true] 26))
  have hW := (((Blk.new (w2.alloc (Obj.cells #[.bool true, .bool true, .bool true] 26)) 26 #[.bool false, .bool true, .bool true]).alloc (Obj.cells #[.bool true, .bool true, .bool false] 26)).alloc (Obj.cells #[.bool true, .bool false, .bool true] 26))
  rw [show ((w2.alloc (Obj.cells #[.bool true, .bool true, .bool true] 26))).heap.size = w2.heap.size + 1 by simp] at hW
  have hX := ((Blk.new ((w2.alloc (Obj.cells #[.bool true, .bool true, .bool true] 26)).alloc (Obj.cells #[.bool false, .bool true, .bool true] 26)) 26 #[.bool true, .bool true, .bool false]).alloc (Obj.cells #[.bool true, .bool false, .bool true] 26))
  rw [show (((w2.alloc (Obj.cells #[.bool true, .bool true, .bool true] 26)).alloc (Obj.cells #[.bool false, .bool true, .bool true] 26))).heap.size = w2.heap.size + 1 + 1 by simp] at hX
  have hN := (Blk.new (((w2.alloc (Obj.cells #[.bool true, .bool true, .bool true] 26)).alloc (Obj.cells #[.bool false, .bool true, .bool true] 26)).alloc (Obj.cells #[.bool true, .bool true, .bool false] 26)) 26 #[.bool true, .bool false, .bool true])
  rw [show ((((w2.alloc (Obj.cells #[.bool true, .bool true, .bool true] 26)).alloc (Obj.cells #[.bool false, .bool true, .bool true] 26)).alloc (Obj.cells #[.bool true, .bool true, .bool false] 26))).heap.size = w2.heap.size + 1 + 1 + 1 by simp] at hN
  replace hcw := ((((hcw.alloc (Obj.cells #[.bool true, .bool true, .bool true] 26)).alloc (Obj.cells #[.bool false, .bool true, .bool true] 26)).alloc (Obj.cells #[.bool true, .bool true, .bool false] 26)).alloc (Obj.cells #[.bool true, .bool false, .bool true] 26))
  generalize w2.heap.size = g at *
  go_loopw [8] (fun i w' => ∃ k : Nat, k ≤ 3 ∧ i = .int .i64 k ∧ Chg [] w w' ∧ Blk w' (g) 26 #[.bool true, .bool true, .bool true] ∧ Blk w' (g + 1) 26 #[.bool false, .bool true, .bool true] ∧ Blk w' (g + 1 + 1) 26 #[.bool true, .bool true, .bool false] ∧ Blk w' (g + 1 + 1 + 1) 26 #[.bool true, .bool false, .bool true]) (fun i _ => 3 - (intOf i).toNat)
  case atStart => exact ⟨0, by omega, rfl, hcw, hA, hW, hX, hN⟩
  case round =>
    clear hcw hA hW hX hN
    obtain ⟨k, hk, rfl, hcw, hA, hW, hX, hN⟩ := hrel
    obtain rfl | rfl | rfl | rfl : k = 0 ∨ k = 1 ∨ k = 2 ∨ k = 3 := by omega
    · cases t
      · have e0 : ((0 : Nat) : Int) = 0 := rfl
        have Y0 := May_lit true true true 0 false true (by decide)
        have Y1 := May_lit false true true 0 false true (by decide)
        have Y2 := May_lit true true false 0 false true (by decide)
        have Y3 := May_lit true false true 0 false true (by decide)
        rw [e0]
        obtain ⟨a0, a1, a2⟩ := blk3 hA
        go_wp2_with fail
        refine (Y0 _).mono ?_; rintro e v0 ⟨rfl, hc0⟩
        have k0 := hcw.trans hc0 (by simp)
        replace hA := hA.chg_ hc0 (by simp)
        replace hW := hW.chg_ hc0 (by simp)
        replace hX := hX.chg_ hc0 (by simp)
        replace hN := hN.chg_ hc0 (by simp)
        clear hc0 a0 a1 a2
        obtain ⟨a0, a1, a2⟩ := blk3 hW
        go_wp2_with fail
        refine (Y1 _).mono ?_; rintro e v1 ⟨rfl, hc1⟩
        have k1 := k0.trans hc1 (by simp)
        replace hA := hA.chg_ hc1 (by simp)
        replace hW := hW.chg_ hc1 (by simp)
        replace hX := hX.chg_ hc1 (by simp)
        replace hN := hN.chg_ hc1 (by simp)
        clear hc1 a0 a1 a2
        obtain ⟨a0, a1, a2⟩ := blk3 hX
        go_wp2_with fail
        refine (Y2 _).mono ?_; rintro e v2 ⟨rfl, hc2⟩
        have k2 := k1.trans hc2 (by simp)
        replace hA := hA.chg_ hc2 (by simp)
        replace hW := hW.chg_ hc2 (by simp)
        replace hX := hX.chg_ hc2 (by simp)
        replace hN := hN.chg_ hc2 (by simp)
        clear hc2 a0 a1 a2
        obtain ⟨a0, a1, a2⟩ := blk3 hN
        go_wp2_with fail
        refine (Y3 _).mono ?_; rintro e v3 ⟨rfl, hc3⟩
        have k3 := k2.trans hc3 (by simp)
        replace hA := hA.chg_ hc3 (by simp)
        replace hW := hW.chg_ hc3 (by simp)
        replace hX := hX.chg_ hc3 (by simp)
        replace hN := hN.chg_ hc3 (by simp)
        clear hc3 a0 a1 a2
        go_wp2_with fail
        go_roundw
        case rel => exact ⟨1, by omega, by go_num, k3, hA, hW, hX, hN⟩
        case measure => simp [intOf]
      · have e0 : ((0 : Nat) : Int) = 0 := rfl
        have Y0 := May_lit true true true 0 true true (by decide)
        have Y1 := May_lit false true true 0 true true (by decide)
        have Y2 := May_lit true true false 0 true true (by decide)
        have Y3 := May_lit true false true 0 true false (by decide)
        rw [e0]
        obtain ⟨a0, a1, a2⟩ := blk3 hA
        go_wp2_with fail
        refine (Y0 _).mono ?_; rintro e v0 ⟨rfl, hc0⟩
        have k0 := hcw.trans hc0 (by simp)
        replace hA := hA.chg_ hc0 (by simp)
        replace hW := hW.chg_ hc0 (by simp)
        replace hX := hX.chg_ hc0 (by simp)
        replace hN := hN.chg_ hc0 (by simp)
        clear hc0 a0 a1 a2
        obtain ⟨a0, a1, a2⟩ := blk3 hW
        go_wp2_with fail
        refine (Y1 _).mono ?_; rintro e v1 ⟨rfl, hc1⟩
        have k1 := k0.trans hc1 (by simp)
        replace hA := hA.chg_ hc1 (by simp)
        replace hW := hW.chg_ hc1 (by simp)
        replace hX := hX.chg_ hc1 (by simp)
        replace hN := hN.chg_ hc1 (by simp)
        clear hc1 a0 a1 a2
        obtain ⟨a0, a1, a2⟩ := blk3 hX
        go_wp2_with fail
        refine (Y2 _).mono ?_; rintro e v2 ⟨rfl, hc2⟩
        have k2 := k1.trans hc2 (by simp)
        replace hA := hA.chg_ hc2 (by simp)
        replace hW := hW.chg_ hc2 (by simp)
        replace hX := hX.chg_ hc2 (by simp)
        replace hN := hN.chg_ hc2 (by simp)
        clear hc2 a0 a1 a2
        obtain ⟨a0, a1, a2⟩ := blk3 hN
        go_wp2_with fail
        refine (Y3 _).mono ?_; rintro e v3 ⟨rfl, hc3⟩
        have k3 := k2.trans hc3 (by simp)
        replace hA := hA.chg_ hc3 (by simp)
        replace hW := hW.chg_ hc3 (by simp)
        replace hX := hX.chg_ hc3 (by simp)
        replace hN := hN.chg_ hc3 (by simp)
        clear hc3 a0 a1 a2
        go_wp2_with fail
        go_roundw
        case rel => exact ⟨1, by omega, by go_num, k3, hA, hW, hX, hN⟩
        case measure => simp [intOf]
    · cases t
      · have e0 : ((1 : Nat) : Int) = 1 := rfl
        have Y0 := May_lit true true true 1 false true (by decide)
        have Y1 := May_lit false true true 1 false false (by decide)
        have Y2 := May_lit true true false 1 false true (by decide)
        have Y3 := May_lit true false true 1 false true (by decide)
        rw [e0]
        obtain ⟨a0, a1, a2⟩ := blk3 hA
        go_wp2_with fail
        refine (Y0 _).mono ?_; rintro e v0 ⟨rfl, hc0⟩
        have k0 := hcw.trans hc0 (by simp)
        replace hA := hA.chg_ hc0 (by simp)
        replace hW := hW.chg_ hc0 (by simp)
        replace hX := hX.chg_ hc0 (by simp)
        replace hN := hN.chg_ hc0 (by simp)
        clear hc0 a0 a1 a2
        obtain ⟨a0, a1, a2⟩ := blk3 hW
        go_wp2_with fail
        refine (Y1 _).mono ?_; rintro e v1 ⟨rfl, hc1⟩
        have k1 := k0.trans hc1 (by simp)
        replace hA := hA.chg_ hc1 (by simp)
        replace hW := hW.chg_ hc1 (by simp)
        replace hX := hX.chg_ hc1 (by simp)
        replace hN := hN.chg_ hc1 (by simp)
        clear hc1 a0 a1 a2
        obtain ⟨a0, a1, a2⟩ := blk3 hX
        go_wp2_with fail
        refine (Y2 _).mono ?_; rintro e v2 ⟨rfl, hc2⟩
        have k2 := k1.trans hc2 (by simp)
        replace hA := hA.chg_ hc2 (by simp)
        replace hW := hW.chg_ hc2 (by simp)
        replace hX := hX.chg_ hc2 (by simp)
        replace hN := hN.chg_ hc2 (by simp)
        clear hc2 a0 a1 a2
        obtain ⟨a0, a1, a2⟩ := blk3 hN
        go_wp2_with fail
        refine (Y3 _).mono ?_; rintro e v3 ⟨rfl, hc3⟩
        have k3 := k2.trans hc3 (by simp)
        replace hA := hA.chg_ hc3 (by simp)
        replace hW := hW.chg_ hc3 (by simp)
        replace hX := hX.chg_ hc3 (by simp)
        replace hN := hN.chg_ hc3 (by simp)
        clear hc3 a0 a1 a2
        go_wp2_with fail
        go_roundw
        case rel => exact ⟨2, by omega, by go_num, k3, hA, hW, hX, hN⟩
        case measure => simp [intOf]
      · have e0 : ((1 : Nat) : Int) = 1 := rfl
        have Y0 := May_lit true true true 1 true true (by decide)
        have Y1 := May_lit false true true 1 true false (by decide)
        have Y2 := May_lit true true false 1 true true (by decide)
        have Y3 := May_lit true false true 1 true false (by decide)
        rw [e0]
        obtain ⟨a0, a1, a2⟩ := blk3 hA
        go_wp2_with fail
        refine (Y0 _).mono ?_; rintro e v0 ⟨rfl, hc0⟩
        have k0 := hcw.trans hc0 (by simp)
        replace hA := hA.chg_ hc0 (by simp)
        replace hW := hW.chg_ hc0 (by simp)
        replace hX := hX.chg_ hc0 (by simp)
        replace hN := hN.chg_ hc0 (by simp)
        clear hc0 a0 a1 a2
        obtain ⟨a0, a1, a2⟩ := blk3 hW
        go_wp2_with fail
        refine (Y1 _).mono ?_; rintro e v1 ⟨rfl, hc1⟩
        have k1 := k0.trans hc1 (by simp)
        replace hA := hA.chg_ hc1 (by simp)
        replace hW := hW.chg_ hc1 (by simp)
        replace hX := hX.chg_ hc1 (by simp)
        replace hN := hN.chg_ hc1 (by simp)
        clear hc1 a0 a1 a2
        obtain ⟨a0, a1, a2⟩ := blk3 hX
        go_wp2_with fail
        refine (Y2 _).mono ?_; rintro e v2 ⟨rfl, hc2⟩
        have k2 := k1.trans hc2 (by simp)
        replace hA := hA.chg_ hc2 (by simp)
        replace hW := hW.chg_ hc2 (by simp)
        replace hX := hX.chg_ hc2 (by simp)
        replace hN := hN.chg_ hc2 (by simp)
        clear hc2 a0 a1 a2
        obtain ⟨a0, a1, a2⟩ := blk3 hN
        go_wp2_with fail
        refine (Y3 _).mono ?_; rintro e v3 ⟨rfl, hc3⟩
        have k3 := k2.trans hc3 (by simp)
        replace hA := hA.chg_ hc3 (by simp)
        replace hW := hW.chg_ hc3 (by simp)
        replace hX := hX.chg_ hc3 (by simp)
        replace hN := hN.chg_ hc3 (by simp)
        clear hc3 a0 a1 a2
        go_wp2_with fail
        go_roundw
        case rel => exact ⟨2, by omega, by go_num, k3, hA, hW, hX, hN⟩
        case measure => simp [intOf]
    · cases t
      · have e0 : ((2 : Nat) : Int) = 2 := rfl
        have Y0 := May_lit true true true 2 false true (by decide)
        have Y1 := May_lit false true true 2 false true (by decide)
        have Y2 := May_lit true true false 2 false false (by decide)
        have Y3 := May_lit true false true 2 false true (by decide)
        rw [e0]
        obtain ⟨a0, a1, a2⟩ := blk3 hA
        go_wp2_with fail
        refine (Y0 _).mono ?_; rintro e v0 ⟨rfl, hc0⟩
        have k0 := hcw.trans hc0 (by simp)
        replace hA := hA.chg_ hc0 (by simp)
        replace hW := hW.chg_ hc0 (by simp)
        replace hX := hX.chg_ hc0 (by simp)
        replace hN := hN.chg_ hc0 (by simp)
        clear hc0 a0 a1 a2
        obtain ⟨a0, a1, a2⟩ := blk3 hW
        go_wp2_with fail
        refine (Y1 _).mono ?_; rintro e v1 ⟨rfl, hc1⟩
        have k1 := k0.trans hc1 (by simp)
        replace hA := hA.chg_ hc1 (by simp)
        replace hW := hW.chg_ hc1 (by simp)
        replace hX := hX.chg_ hc1 (by simp)
        replace hN := hN.chg_ hc1 (by simp)
        clear hc1 a0 a1 a2
        obtain ⟨a0, a1, a2⟩ := blk3 hX
        go_wp2_with fail
        refine (Y2 _).mono ?_; rintro e v2 ⟨rfl, hc2⟩
        have k2 := k1.trans hc2 (by simp)
        replace hA := hA.chg_ hc2 (by simp)
        replace hW := hW.chg_ hc2 (by simp)
        replace hX := hX.chg_ hc2 (by simp)
        replace hN := hN.chg_ hc2 (by simp)
        clear hc2 a0 a1 a2
        obtain ⟨a0, a1, a2⟩ := blk3 hN
        go_wp2_with fail
        refine (Y3 _).mono ?_; rintro e v3 ⟨rfl, hc3⟩
        have k3 := k2.trans hc3 (by simp)
        replace hA := hA.chg_ hc3 (by simp)
        replace hW := hW.chg_ hc3 (by simp)
        replace hX := hX.chg_ hc3 (by simp)
        replace hN := hN.chg_ hc3 (by simp)
        clear hc3 a0 a1 a2
        go_wp2_with fail
        go_roundw
        case rel => exact ⟨3, by omega, by go_num, k3, hA, hW, hX, hN⟩
        case measure => simp [intOf]
      · have e0 : ((2 : Nat) : Int) = 2 := rfl
        have Y0 := May_lit true true true 2 true true (by decide)
        have Y1 := May_lit false true true 2 true true (by decide)
        have Y2 := May_lit true true false 2 true false (by decide)
        have Y3 := May_lit true false true 2 true false (by decide)
        rw [e0]
        obtain ⟨a0, a1, a2⟩ := blk3 hA
        go_wp2_with fail
        refine (Y0 _).mono ?_; rintro e v0 ⟨rfl, hc0⟩
        have k0 := hcw.trans hc0 (by simp)
        replace hA := hA.chg_ hc0 (by simp)
        replace hW := hW.chg_ hc0 (by simp)
        replace hX := hX.chg_ hc0 (by simp)
        replace hN := hN.chg_ hc0 (by simp)
        clear hc0 a0 a1 a2
        obtain ⟨a0, a1, a2⟩ := blk3 hW
        go_wp2_with fail
        refine (Y1 _).mono ?_; rintro e v1 ⟨rfl, hc1⟩
        have k1 := k0.trans hc1 (by simp)
        replace hA := hA.chg_ hc1 (by simp)
        replace hW := hW.chg_ hc1 (by simp)
        replace hX := hX.chg_ hc1 (by simp)
        replace hN := hN.chg_ hc1 (by simp)
        clear hc1 a0 a1 a2
        obtain ⟨a0, a1, a2⟩ := blk3 hX
        go_wp2_with fail
        refine (Y2 _).mono ?_; rintro e v2 ⟨rfl, hc2⟩
        have k2 := k1.trans hc2 (by simp)
        replace hA := hA.chg_ hc2 (by simp)
        replace hW := hW.chg_ hc2 (by simp)
        replace hX := hX.chg_ hc2 (by simp)
        replace hN := hN.chg_ hc2 (by simp)
        clear hc2 a0 a1 a2
        obtain ⟨a0, a1, a2⟩ := blk3 hN
        go_wp2_with fail
        refine (Y3 _).mono ?_; rintro e v3 ⟨rfl, hc3⟩
        have k3 := k2.trans hc3 (by simp)
        replace hA := hA.chg_ hc3 (by simp)
        replace hW := hW.chg_ hc3 (by simp)
        replace hX := hX.chg_ hc3 (by simp)
        replace hN := hN.chg_ hc3 (by simp)
        clear hc3 a0 a1 a2
        go_wp2_with fail
        go_roundw
        case rel => exact ⟨3, by omega, by go_num, k3, hA, hW, hX, hN⟩
        case measure => simp [intOf]
    · go_wp2_with fail
      go_ret
      exact ⟨rfl, hcw⟩

end Go.Proofs.Ythnhellobpceaaa
