/-
  RightMore: the walk.
-/
import Derived.Test.YthnhellobpceaaaLawRightOrder
namespace Go.Proofs.Ythnhellobpceaaa
open Go.RowKit

theorem may_iff (r : Rg) (k : Int) (t : Bool) : mayB r k t = true ↔ (t = true → r.u = true) ∧ (k = 0 ∨ (k = 1 ∧ r.w = true) ∨ (k = 2 ∧ r.x = true)) := by
  rw [may_of]
  cases t <;> simp [or_assoc]
theorem may_more {a b : Rg} {k : Int} {t : Bool} (h : under a b = true) (m : mayB a k t = true) : mayB b k t = true := by
  rw [under_iff] at h
  rw [may_iff] at *
  exact ⟨fun x => h.2.1 (m.1 x), by rcases m.2 with h0 | h1 | h2
                                    · exact .inl h0
                                    · exact .inr (.inl ⟨h1.1, h.1 h1.2⟩)
                                    · exact .inr (.inr ⟨h2.1, h.2.2 h2.2⟩)⟩
theorem may_load {a : Rg} {k : Int} {t : Bool} (m : mayB a k t = true) : mayB a 0 t = true := by
  rw [may_iff] at *; exact ⟨m.1, .inl rfl⟩
theorem may_system {a : Rg} {k : Int} (m : mayB a k true = true) : mayB a k false = true := by
  rw [may_iff] at *; exact ⟨fun h => (by cases h), m.2⟩
theorem may_kind {a : Rg} {k : Int} {t : Bool} (h : k < 0 ∨ 2 < k) : mayB a k t = false := by
  rw [← Bool.not_eq_true, may_iff]; omega

set_option maxRecDepth 100000 in
set_option maxHeartbeats 1000000 in
theorem RightMore_at (a b : Rg) (k : Int) (w : World) :
    Calls Try.prog 5 #[.agg a.cs, .agg b.cs, .int .i64 k] w fun e w' => e = .returned (.bool true) ∧ Chg [] w w' := by
  have A1 := fun w => All_any w
  have U1 := fun w => Under_any a b w
  have Ya0 := fun w => May_any a k false w
  have Ya1 := fun w => May_any a k true w
  have Yb0 := fun w => May_any b k false w
  have Yb1 := fun w => May_any b k true w
  have Yc0 := fun w => May_any a 0 false w
  have Yc1 := fun w => May_any a 0 true w
  have YA := fun w => May_any Rg.all k false w
  have h0 : under a b = true → mayB a k false = true → mayB b k false = true := may_more
  have h1 : under a b = true → mayB a k true = true → mayB b k true = true := may_more
  have l0 : mayB a k false = true → mayB a 0 false = true := may_load
  have l1 : mayB a k true = true → mayB a 0 true = true := may_load
  have hs : mayB a k true = true → mayB a k false = true := may_system
  have hk : (k < 0 ∨ 2 < k) → mayB Rg.all k false = false := may_kind
  generalize under a b = p at *
  generalize mayB a k false = m0 at *
  generalize mayB a k true = m1 at *
  generalize mayB b k false = n0 at *
  generalize mayB b k true = n1 at *
  generalize mayB a 0 false = z0 at *
  generalize mayB a 0 true = z1 at *
  generalize mayB Rg.all k false = y at *
  obtain ⟨aw, au, ax⟩ := a
  obtain ⟨bw, bu, bx⟩ := b
  simp only [Rg.cs, Rg.all] at *
  have H0 := Lib.hid h0; have H1 := Lib.hid h1; have L0 := Lib.hid l0; have L1 := Lib.hid l1; have HS := Lib.hid hs; have HK := Lib.hid hk
  clear h0 h1 l0 l1 hs hk
  go_enter Try.func5, Try.ntmps5
  go_wp2_with fail
  refine (head_any _).mono ?_; rintro e w1 ⟨rfl, hc1⟩
  have hA := ((Blk.new w 26 #[.bool aw, .bool au, .bool ax]).alloc (Obj.cells #[.bool bw, .bool bu, .bool bx] 26)).chg_ hc1 (by simp)
  have hB := (Blk.new (w.alloc (Obj.cells #[.bool aw, .bool au, .bool ax] 26)) 26 #[.bool bw, .bool bu, .bool bx]).chg_ hc1 (by simp)
  rw [show ((w.alloc (Obj.cells #[.bool aw, .bool au, .bool ax] 26))).heap.size = w.heap.size + 1 by simp] at hB
  have hcw := (((Chg.refl [] w).alloc (Obj.cells #[.bool aw, .bool au, .bool ax] 26)).alloc (Obj.cells #[.bool bw, .bool bu, .bool bx] 26)).trans hc1 (by simp)
  clear hc1
  generalize w.heap.size = g at *
  go_wp2_with fail
  go_loopw [8, 9] (fun i _ w' => ∃ q : Nat, q ≤ 2 ∧ i = .int .i64 q ∧ Chg [] w w' ∧ Blk w' g 26 #[.bool aw, .bool au, .bool ax] ∧ Blk w' (g + 1) 26 #[.bool bw, .bool bu, .bool bx]) (fun i _ _ => 2 - (intOf i).toNat)
  case atStart => exact ⟨0, by omega, rfl, hcw, hA, hB⟩
  case round =>
    clear hcw hA hB
    obtain ⟨q, hq, rfl, hcw, hA, hB⟩ := hrel
    obtain ⟨a0, a1, a2⟩ := blk3 hA; obtain ⟨b0, b1, b2⟩ := blk3 hB
    obtain rfl | rfl | rfl : q = 0 ∨ q = 1 ∨ q = 2 := by omega
    · have e0 : ((0 : Nat) : Int) = 0 := rfl
      rw [e0]
      cases p
      · cases m0
        · clear e0
          go_wp2_with fail
          refine (U1 _).mono ?_; rintro e v0 ⟨rfl, hc0⟩
          replace hcw := hcw.trans hc0 (by simp)
          replace hA := hA.chg_ hc0 (by simp); replace hB := hB.chg_ hc0 (by simp)
          clear hc0 a0 a1 a2 b0 b1 b2
          obtain ⟨a0, a1, a2⟩ := blk3 hA; obtain ⟨b0, b1, b2⟩ := blk3 hB
          go_wp2_with fail
          refine (Ya0 _).mono ?_; rintro e v1 ⟨rfl, hc1⟩
          replace hcw := hcw.trans hc1 (by simp)
          replace hA := hA.chg_ hc1 (by simp); replace hB := hB.chg_ hc1 (by simp)
          clear hc1 a0 a1 a2 b0 b1 b2
          obtain ⟨a0, a1, a2⟩ := blk3 hA; obtain ⟨b0, b1, b2⟩ := blk3 hB
          go_wp2_with fail
          go_roundw
          case rel => exact ⟨1, by omega, by go_num, hcw, hA, hB⟩
          case measure => simp [intOf]
        · clear e0
          obtain rfl := L0.out rfl
          go_wp2_with fail
          refine (U1 _).mono ?_; rintro e v0 ⟨rfl, hc0⟩
          replace hcw := hcw.trans hc0 (by simp)
          replace hA := hA.chg_ hc0 (by simp); replace hB := hB.chg_ hc0 (by simp)
          clear hc0 a0 a1 a2 b0 b1 b2
          obtain ⟨a0, a1, a2⟩ := blk3 hA; obtain ⟨b0, b1, b2⟩ := blk3 hB
          go_wp2_with fail
          refine (Ya0 _).mono ?_; rintro e v1 ⟨rfl, hc1⟩
          replace hcw := hcw.trans hc1 (by simp)
          replace hA := hA.chg_ hc1 (by simp); replace hB := hB.chg_ hc1 (by simp)
          clear hc1 a0 a1 a2 b0 b1 b2
          obtain ⟨a0, a1, a2⟩ := blk3 hA; obtain ⟨b0, b1, b2⟩ := blk3 hB
          go_wp2_with fail
          refine (Yc0 _).mono ?_; rintro e v2 ⟨rfl, hc2⟩
          replace hcw := hcw.trans hc2 (by simp)
          replace hA := hA.chg_ hc2 (by simp); replace hB := hB.chg_ hc2 (by simp)
          clear hc2 a0 a1 a2 b0 b1 b2
          obtain ⟨a0, a1, a2⟩ := blk3 hA; obtain ⟨b0, b1, b2⟩ := blk3 hB
          go_wp2_with fail
          go_roundw
          case rel => exact ⟨1, by omega, by go_num, hcw, hA, hB⟩
          case measure => simp [intOf]
      · cases m0
        · clear e0
          go_wp2_with fail
          refine (U1 _).mono ?_; rintro e v0 ⟨rfl, hc0⟩
          replace hcw := hcw.trans hc0 (by simp)
          replace hA := hA.chg_ hc0 (by simp); replace hB := hB.chg_ hc0 (by simp)
          clear hc0 a0 a1 a2 b0 b1 b2
          obtain ⟨a0, a1, a2⟩ := blk3 hA; obtain ⟨b0, b1, b2⟩ := blk3 hB
          go_wp2_with fail
          refine (Ya0 _).mono ?_; rintro e v1 ⟨rfl, hc1⟩
          replace hcw := hcw.trans hc1 (by simp)
          replace hA := hA.chg_ hc1 (by simp); replace hB := hB.chg_ hc1 (by simp)
          clear hc1 a0 a1 a2 b0 b1 b2
          obtain ⟨a0, a1, a2⟩ := blk3 hA; obtain ⟨b0, b1, b2⟩ := blk3 hB
          go_wp2_with fail
          refine (Ya0 _).mono ?_; rintro e v2 ⟨rfl, hc2⟩
          replace hcw := hcw.trans hc2 (by simp)
          replace hA := hA.chg_ hc2 (by simp); replace hB := hB.chg_ hc2 (by simp)
          clear hc2 a0 a1 a2 b0 b1 b2
          obtain ⟨a0, a1, a2⟩ := blk3 hA; obtain ⟨b0, b1, b2⟩ := blk3 hB
          go_wp2_with fail
          go_roundw
          case rel => exact ⟨1, by omega, by go_num, hcw, hA, hB⟩
          case measure => simp [intOf]
        · clear e0
          obtain rfl := L0.out rfl
          obtain rfl := H0.out rfl rfl
          go_wp2_with fail
          refine (U1 _).mono ?_; rintro e v0 ⟨rfl, hc0⟩
          replace hcw := hcw.trans hc0 (by simp)
          replace hA := hA.chg_ hc0 (by simp); replace hB := hB.chg_ hc0 (by simp)
          clear hc0 a0 a1 a2 b0 b1 b2
          obtain ⟨a0, a1, a2⟩ := blk3 hA; obtain ⟨b0, b1, b2⟩ := blk3 hB
          go_wp2_with fail
          refine (Ya0 _).mono ?_; rintro e v1 ⟨rfl, hc1⟩
          replace hcw := hcw.trans hc1 (by simp)
          replace hA := hA.chg_ hc1 (by simp); replace hB := hB.chg_ hc1 (by simp)
          clear hc1 a0 a1 a2 b0 b1 b2
          obtain ⟨a0, a1, a2⟩ := blk3 hA; obtain ⟨b0, b1, b2⟩ := blk3 hB
          go_wp2_with fail
          refine (Yb0 _).mono ?_; rintro e v2 ⟨rfl, hc2⟩
          replace hcw := hcw.trans hc2 (by simp)
          replace hA := hA.chg_ hc2 (by simp); replace hB := hB.chg_ hc2 (by simp)
          clear hc2 a0 a1 a2 b0 b1 b2
          obtain ⟨a0, a1, a2⟩ := blk3 hA; obtain ⟨b0, b1, b2⟩ := blk3 hB
          go_wp2_with fail
          refine (Ya0 _).mono ?_; rintro e v3 ⟨rfl, hc3⟩
          replace hcw := hcw.trans hc3 (by simp)
          replace hA := hA.chg_ hc3 (by simp); replace hB := hB.chg_ hc3 (by simp)
          clear hc3 a0 a1 a2 b0 b1 b2
          obtain ⟨a0, a1, a2⟩ := blk3 hA; obtain ⟨b0, b1, b2⟩ := blk3 hB
          go_wp2_with fail
          refine (Yc0 _).mono ?_; rintro e v4 ⟨rfl, hc4⟩
          replace hcw := hcw.trans hc4 (by simp)
          replace hA := hA.chg_ hc4 (by simp); replace hB := hB.chg_ hc4 (by simp)
          clear hc4 a0 a1 a2 b0 b1 b2
          obtain ⟨a0, a1, a2⟩ := blk3 hA; obtain ⟨b0, b1, b2⟩ := blk3 hB
          go_wp2_with fail
          go_roundw
          case rel => exact ⟨1, by omega, by go_num, hcw, hA, hB⟩
          case measure => simp [intOf]
    · have e0 : ((1 : Nat) : Int) = 1 := rfl
      rw [e0]
      cases p
      · cases m1
        · clear e0
          go_wp2_with fail
          refine (U1 _).mono ?_; rintro e v0 ⟨rfl, hc0⟩
          replace hcw := hcw.trans hc0 (by simp)
          replace hA := hA.chg_ hc0 (by simp); replace hB := hB.chg_ hc0 (by simp)
          clear hc0 a0 a1 a2 b0 b1 b2
          obtain ⟨a0, a1, a2⟩ := blk3 hA; obtain ⟨b0, b1, b2⟩ := blk3 hB
          go_wp2_with fail
          refine (Ya1 _).mono ?_; rintro e v1 ⟨rfl, hc1⟩
          replace hcw := hcw.trans hc1 (by simp)
          replace hA := hA.chg_ hc1 (by simp); replace hB := hB.chg_ hc1 (by simp)
          clear hc1 a0 a1 a2 b0 b1 b2
          obtain ⟨a0, a1, a2⟩ := blk3 hA; obtain ⟨b0, b1, b2⟩ := blk3 hB
          go_wp2_with fail
          go_roundw
          case rel => exact ⟨2, by omega, by go_num, hcw, hA, hB⟩
          case measure => simp [intOf]
        · clear e0
          obtain rfl := L1.out rfl
          go_wp2_with fail
          refine (U1 _).mono ?_; rintro e v0 ⟨rfl, hc0⟩
          replace hcw := hcw.trans hc0 (by simp)
          replace hA := hA.chg_ hc0 (by simp); replace hB := hB.chg_ hc0 (by simp)
          clear hc0 a0 a1 a2 b0 b1 b2
          obtain ⟨a0, a1, a2⟩ := blk3 hA; obtain ⟨b0, b1, b2⟩ := blk3 hB
          go_wp2_with fail
          refine (Ya1 _).mono ?_; rintro e v1 ⟨rfl, hc1⟩
          replace hcw := hcw.trans hc1 (by simp)
          replace hA := hA.chg_ hc1 (by simp); replace hB := hB.chg_ hc1 (by simp)
          clear hc1 a0 a1 a2 b0 b1 b2
          obtain ⟨a0, a1, a2⟩ := blk3 hA; obtain ⟨b0, b1, b2⟩ := blk3 hB
          go_wp2_with fail
          refine (Yc1 _).mono ?_; rintro e v2 ⟨rfl, hc2⟩
          replace hcw := hcw.trans hc2 (by simp)
          replace hA := hA.chg_ hc2 (by simp); replace hB := hB.chg_ hc2 (by simp)
          clear hc2 a0 a1 a2 b0 b1 b2
          obtain ⟨a0, a1, a2⟩ := blk3 hA; obtain ⟨b0, b1, b2⟩ := blk3 hB
          go_wp2_with fail
          go_roundw
          case rel => exact ⟨2, by omega, by go_num, hcw, hA, hB⟩
          case measure => simp [intOf]
      · cases m1
        · clear e0
          go_wp2_with fail
          refine (U1 _).mono ?_; rintro e v0 ⟨rfl, hc0⟩
          replace hcw := hcw.trans hc0 (by simp)
          replace hA := hA.chg_ hc0 (by simp); replace hB := hB.chg_ hc0 (by simp)
          clear hc0 a0 a1 a2 b0 b1 b2
          obtain ⟨a0, a1, a2⟩ := blk3 hA; obtain ⟨b0, b1, b2⟩ := blk3 hB
          go_wp2_with fail
          refine (Ya1 _).mono ?_; rintro e v1 ⟨rfl, hc1⟩
          replace hcw := hcw.trans hc1 (by simp)
          replace hA := hA.chg_ hc1 (by simp); replace hB := hB.chg_ hc1 (by simp)
          clear hc1 a0 a1 a2 b0 b1 b2
          obtain ⟨a0, a1, a2⟩ := blk3 hA; obtain ⟨b0, b1, b2⟩ := blk3 hB
          go_wp2_with fail
          refine (Ya1 _).mono ?_; rintro e v2 ⟨rfl, hc2⟩
          replace hcw := hcw.trans hc2 (by simp)
          replace hA := hA.chg_ hc2 (by simp); replace hB := hB.chg_ hc2 (by simp)
          clear hc2 a0 a1 a2 b0 b1 b2
          obtain ⟨a0, a1, a2⟩ := blk3 hA; obtain ⟨b0, b1, b2⟩ := blk3 hB
          go_wp2_with fail
          go_roundw
          case rel => exact ⟨2, by omega, by go_num, hcw, hA, hB⟩
          case measure => simp [intOf]
        · clear e0
          obtain rfl := L1.out rfl
          obtain rfl := H1.out rfl rfl
          go_wp2_with fail
          refine (U1 _).mono ?_; rintro e v0 ⟨rfl, hc0⟩
          replace hcw := hcw.trans hc0 (by simp)
          replace hA := hA.chg_ hc0 (by simp); replace hB := hB.chg_ hc0 (by simp)
          clear hc0 a0 a1 a2 b0 b1 b2
          obtain ⟨a0, a1, a2⟩ := blk3 hA; obtain ⟨b0, b1, b2⟩ := blk3 hB
          go_wp2_with fail
          refine (Ya1 _).mono ?_; rintro e v1 ⟨rfl, hc1⟩
          replace hcw := hcw.trans hc1 (by simp)
          replace hA := hA.chg_ hc1 (by simp); replace hB := hB.chg_ hc1 (by simp)
          clear hc1 a0 a1 a2 b0 b1 b2
          obtain ⟨a0, a1, a2⟩ := blk3 hA; obtain ⟨b0, b1, b2⟩ := blk3 hB
          go_wp2_with fail
          refine (Yb1 _).mono ?_; rintro e v2 ⟨rfl, hc2⟩
          replace hcw := hcw.trans hc2 (by simp)
          replace hA := hA.chg_ hc2 (by simp); replace hB := hB.chg_ hc2 (by simp)
          clear hc2 a0 a1 a2 b0 b1 b2
          obtain ⟨a0, a1, a2⟩ := blk3 hA; obtain ⟨b0, b1, b2⟩ := blk3 hB
          go_wp2_with fail
          refine (Ya1 _).mono ?_; rintro e v3 ⟨rfl, hc3⟩
          replace hcw := hcw.trans hc3 (by simp)
          replace hA := hA.chg_ hc3 (by simp); replace hB := hB.chg_ hc3 (by simp)
          clear hc3 a0 a1 a2 b0 b1 b2
          obtain ⟨a0, a1, a2⟩ := blk3 hA; obtain ⟨b0, b1, b2⟩ := blk3 hB
          go_wp2_with fail
          refine (Yc1 _).mono ?_; rintro e v4 ⟨rfl, hc4⟩
          replace hcw := hcw.trans hc4 (by simp)
          replace hA := hA.chg_ hc4 (by simp); replace hB := hB.chg_ hc4 (by simp)
          clear hc4 a0 a1 a2 b0 b1 b2
          obtain ⟨a0, a1, a2⟩ := blk3 hA; obtain ⟨b0, b1, b2⟩ := blk3 hB
          go_wp2_with fail
          go_roundw
          case rel => exact ⟨2, by omega, by go_num, hcw, hA, hB⟩
          case measure => simp [intOf]
    · clear U1 Yb0 Yb1 Yc0 Yc1
      have hm : m1 = false ∨ (m1 = true ∧ m0 = true) := by
        cases m1
        · exact .inl rfl
        · exact .inr ⟨rfl, HS.out rfl⟩
      have hkk : (k < 0 ∧ y = false) ∨ (2 < k ∧ y = false) ∨ (0 ≤ k ∧ k ≤ 2) := by
        by_cases hk0 : k < 0
        · exact .inl ⟨hk0, HK.out (.inl hk0)⟩
        · by_cases hk2 : 2 < k
          · exact .inr (.inl ⟨hk2, HK.out (.inr hk2)⟩)
          · exact .inr (.inr ⟨by omega, by omega⟩)
      rcases hm with rfl | ⟨rfl, rfl⟩ <;> rcases hkk with ⟨hk0, rfl⟩ | ⟨hk2, rfl⟩ | ⟨hk0, hk2⟩
      · have d0 : decide (k ≥ 0) = false := by simp; omega
        go_wp2_with fail
        refine (Ya1 _).mono ?_; rintro e v0 ⟨rfl, hc0⟩
        replace hcw := hcw.trans hc0 (by simp)
        replace hA := hA.chg_ hc0 (by simp); replace hB := hB.chg_ hc0 (by simp)
        clear hc0 a0 a1 a2 b0 b1 b2
        obtain ⟨a0, a1, a2⟩ := blk3 hA; obtain ⟨b0, b1, b2⟩ := blk3 hB
        go_wp2_with fail
        refine (A1 _).mono ?_; rintro e v1 ⟨rfl, hc1⟩
        replace hcw := hcw.trans hc1 (by simp)
        replace hA := hA.chg_ hc1 (by simp); replace hB := hB.chg_ hc1 (by simp)
        clear hc1 a0 a1 a2 b0 b1 b2
        obtain ⟨a0, a1, a2⟩ := blk3 hA; obtain ⟨b0, b1, b2⟩ := blk3 hB
        go_wp2_with fail
        refine (YA _).mono ?_; rintro e v2 ⟨rfl, hc2⟩
        replace hcw := hcw.trans hc2 (by simp)
        replace hA := hA.chg_ hc2 (by simp); replace hB := hB.chg_ hc2 (by simp)
        clear hc2 a0 a1 a2 b0 b1 b2
        obtain ⟨a0, a1, a2⟩ := blk3 hA; obtain ⟨b0, b1, b2⟩ := blk3 hB
        go_wp2_with fail
        go_ret
        exact ⟨rfl, hcw⟩
      · go_wp2_with fail
        refine (Ya1 _).mono ?_; rintro e v0 ⟨rfl, hc0⟩
        replace hcw := hcw.trans hc0 (by simp)
        replace hA := hA.chg_ hc0 (by simp); replace hB := hB.chg_ hc0 (by simp)
        clear hc0 a0 a1 a2 b0 b1 b2
        obtain ⟨a0, a1, a2⟩ := blk3 hA; obtain ⟨b0, b1, b2⟩ := blk3 hB
        go_wp2_with fail
        refine (A1 _).mono ?_; rintro e v1 ⟨rfl, hc1⟩
        replace hcw := hcw.trans hc1 (by simp)
        replace hA := hA.chg_ hc1 (by simp); replace hB := hB.chg_ hc1 (by simp)
        clear hc1 a0 a1 a2 b0 b1 b2
        obtain ⟨a0, a1, a2⟩ := blk3 hA; obtain ⟨b0, b1, b2⟩ := blk3 hB
        go_wp2_with fail
        refine (YA _).mono ?_; rintro e v2 ⟨rfl, hc2⟩
        replace hcw := hcw.trans hc2 (by simp)
        replace hA := hA.chg_ hc2 (by simp); replace hB := hB.chg_ hc2 (by simp)
        clear hc2 a0 a1 a2 b0 b1 b2
        obtain ⟨a0, a1, a2⟩ := blk3 hA; obtain ⟨b0, b1, b2⟩ := blk3 hB
        go_wp2_with fail
        go_ret
        exact ⟨rfl, hcw⟩
      · go_wp2_with fail
        refine (Ya1 _).mono ?_; rintro e v0 ⟨rfl, hc0⟩
        replace hcw := hcw.trans hc0 (by simp)
        replace hA := hA.chg_ hc0 (by simp); replace hB := hB.chg_ hc0 (by simp)
        clear hc0 a0 a1 a2 b0 b1 b2
        obtain ⟨a0, a1, a2⟩ := blk3 hA; obtain ⟨b0, b1, b2⟩ := blk3 hB
        go_wp2_with fail
        go_ret
        exact ⟨rfl, hcw⟩
      · have d0 : decide (k ≥ 0) = false := by simp; omega
        go_wp2_with fail
        refine (Ya1 _).mono ?_; rintro e v0 ⟨rfl, hc0⟩
        replace hcw := hcw.trans hc0 (by simp)
        replace hA := hA.chg_ hc0 (by simp); replace hB := hB.chg_ hc0 (by simp)
        clear hc0 a0 a1 a2 b0 b1 b2
        obtain ⟨a0, a1, a2⟩ := blk3 hA; obtain ⟨b0, b1, b2⟩ := blk3 hB
        go_wp2_with fail
        refine (Ya0 _).mono ?_; rintro e v1 ⟨rfl, hc1⟩
        replace hcw := hcw.trans hc1 (by simp)
        replace hA := hA.chg_ hc1 (by simp); replace hB := hB.chg_ hc1 (by simp)
        clear hc1 a0 a1 a2 b0 b1 b2
        obtain ⟨a0, a1, a2⟩ := blk3 hA; obtain ⟨b0, b1, b2⟩ := blk3 hB
        go_wp2_with fail
        refine (A1 _).mono ?_; rintro e v2 ⟨rfl, hc2⟩
        replace hcw := hcw.trans hc2 (by simp)
        replace hA := hA.chg_ hc2 (by simp); replace hB := hB.chg_ hc2 (by simp)
        clear hc2 a0 a1 a2 b0 b1 b2
        obtain ⟨a0, a1, a2⟩ := blk3 hA; obtain ⟨b0, b1, b2⟩ := blk3 hB
        go_wp2_with fail
        refine (YA _).mono ?_; rintro e v3 ⟨rfl, hc3⟩
        replace hcw := hcw.trans hc3 (by simp)
        replace hA := hA.chg_ hc3 (by simp); replace hB := hB.chg_ hc3 (by simp)
        clear hc3 a0 a1 a2 b0 b1 b2
        obtain ⟨a0, a1, a2⟩ := blk3 hA; obtain ⟨b0, b1, b2⟩ := blk3 hB
        go_wp2_with fail
        go_ret
        exact ⟨rfl, hcw⟩
      · go_wp2_with fail
        refine (Ya1 _).mono ?_; rintro e v0 ⟨rfl, hc0⟩
        replace hcw := hcw.trans hc0 (by simp)
        replace hA := hA.chg_ hc0 (by simp); replace hB := hB.chg_ hc0 (by simp)
        clear hc0 a0 a1 a2 b0 b1 b2
        obtain ⟨a0, a1, a2⟩ := blk3 hA; obtain ⟨b0, b1, b2⟩ := blk3 hB
        go_wp2_with fail
        refine (Ya0 _).mono ?_; rintro e v1 ⟨rfl, hc1⟩
        replace hcw := hcw.trans hc1 (by simp)
        replace hA := hA.chg_ hc1 (by simp); replace hB := hB.chg_ hc1 (by simp)
        clear hc1 a0 a1 a2 b0 b1 b2
        obtain ⟨a0, a1, a2⟩ := blk3 hA; obtain ⟨b0, b1, b2⟩ := blk3 hB
        go_wp2_with fail
        refine (A1 _).mono ?_; rintro e v2 ⟨rfl, hc2⟩
        replace hcw := hcw.trans hc2 (by simp)
        replace hA := hA.chg_ hc2 (by simp); replace hB := hB.chg_ hc2 (by simp)
        clear hc2 a0 a1 a2 b0 b1 b2
        obtain ⟨a0, a1, a2⟩ := blk3 hA; obtain ⟨b0, b1, b2⟩ := blk3 hB
        go_wp2_with fail
        refine (YA _).mono ?_; rintro e v3 ⟨rfl, hc3⟩
        replace hcw := hcw.trans hc3 (by simp)
        replace hA := hA.chg_ hc3 (by simp); replace hB := hB.chg_ hc3 (by simp)
        clear hc3 a0 a1 a2 b0 b1 b2
        obtain ⟨a0, a1, a2⟩ := blk3 hA; obtain ⟨b0, b1, b2⟩ := blk3 hB
        go_wp2_with fail
        go_ret
        exact ⟨rfl, hcw⟩
      · go_wp2_with fail
        refine (Ya1 _).mono ?_; rintro e v0 ⟨rfl, hc0⟩
        replace hcw := hcw.trans hc0 (by simp)
        replace hA := hA.chg_ hc0 (by simp); replace hB := hB.chg_ hc0 (by simp)
        clear hc0 a0 a1 a2 b0 b1 b2
        obtain ⟨a0, a1, a2⟩ := blk3 hA; obtain ⟨b0, b1, b2⟩ := blk3 hB
        go_wp2_with fail
        refine (Ya0 _).mono ?_; rintro e v1 ⟨rfl, hc1⟩
        replace hcw := hcw.trans hc1 (by simp)
        replace hA := hA.chg_ hc1 (by simp); replace hB := hB.chg_ hc1 (by simp)
        clear hc1 a0 a1 a2 b0 b1 b2
        obtain ⟨a0, a1, a2⟩ := blk3 hA; obtain ⟨b0, b1, b2⟩ := blk3 hB
        go_wp2_with fail
        go_ret
        exact ⟨rfl, hcw⟩

end Go.Proofs.Ythnhellobpceaaa
