/-
  The document's answer to package pte: Get.
-/
import Derived.Test.YtgmdnglododhfaaPteR
namespace Go.Proofs.Ytgmdnglododhfaa
open Go.RowKit

/-- is one of the first n bits of v one that no entry has? -/
def badK (v n : Nat) : Bool := (List.range n).any fun i => v.testBit i && isB i
theorem badK_succ (v n : Nat) : badK v (n + 1) = (badK v n || v.testBit n && isB n) := by simp [badK, List.range_succ]
theorem badK_all (v : Nat) : badK v 64 = (getE v).bad := by
  rw [Bool.eq_iff_iff, bad_iff]
  simp only [badK, List.any_eq_true, List.mem_range, Bool.and_eq_true]
  constructor
  · rintro ⟨i, _, h1, h2⟩; exact ⟨i, h2, h1⟩
  · rintro ⟨i, h1, h2⟩; exact ⟨i, by simp [isB] at h1; omega, h2, h1⟩

set_option maxRecDepth 100000 in
set_option maxHeartbeats 4000000 in
theorem RGet_any (v : Nat) (w : World) (hv : v < 18446744073709551616) :
    Calls Try.prog 13 #[.int .u64 v] w fun e w' => e = .returned (.agg (getE v).cs) ∧ Chg [] w w' := by
  have g0 := Lib.hid (get_p v)
  have g1 := Lib.hid (get_w v)
  have g2 := Lib.hid (get_u v)
  have g3 := Lib.hid (get_a v)
  have g4 := Lib.hid (get_d v)
  have g5 := Lib.hid (get_s v)
  have g6 := Lib.hid (get_n v)
  have HB0 := Lib.hid (badK_all v)
  have HZ : Hid (badK v 0 = false) := Lib.hid rfl
  have HS := Lib.hid (fun n => badK_succ v n)
  have hcs : (getE v).cs = #[.bool (getE v).p, .bool (getE v).w, .bool (getE v).u, .bool (getE v).a, .bool (getE v).d, .bool (getE v).s, .bool (getE v).n, .bool (getE v).bad, .int .i64 ((v : Int) / 4096 % 1048576)] := rfl
  have HR := Lib.hid hcs; clear hcs
  generalize (getE v).p = ep at *
  generalize (getE v).w = ew at *
  generalize (getE v).u = eu at *
  generalize (getE v).a = ea at *
  generalize (getE v).d = ed at *
  generalize (getE v).s = es at *
  generalize (getE v).n = en at *
  generalize (getE v).bad = eb at *
  go_enter Try.func13, Try.ntmps13
  go_wp2_with fail
  refine (bit_any v 0 _ hv (by decide)).mono ?_; rintro e w1 ⟨rfl, rfl⟩
  rw [← g0.out]
  go_wp2_with fail
  refine (bit_any v 1 _ hv (by decide)).mono ?_; rintro e w1 ⟨rfl, rfl⟩
  rw [← g1.out]
  go_wp2_with fail
  refine (bit_any v 2 _ hv (by decide)).mono ?_; rintro e w1 ⟨rfl, rfl⟩
  rw [← g2.out]
  go_wp2_with fail
  refine (bit_any v 5 _ hv (by decide)).mono ?_; rintro e w1 ⟨rfl, rfl⟩
  rw [← g3.out]
  go_wp2_with fail
  refine (bit_any v 6 _ hv (by decide)).mono ?_; rintro e w1 ⟨rfl, rfl⟩
  rw [← g4.out]
  go_wp2_with fail
  refine (bit_any v 7 _ hv (by decide)).mono ?_; rintro e w1 ⟨rfl, rfl⟩
  rw [← g5.out]
  go_wp2_with fail
  refine (bit_any v 63 _ hv (by decide)).mono ?_; rintro e w1 ⟨rfl, rfl⟩
  rw [← g6.out]
  clear g0 g1 g2 g3 g4 g5 g6
  go_wp2_with fail
  have hR := (Blk.new w 24 #[.bool false, .bool false, .bool false, .bool false, .bool false, .bool false, .bool false, .bool false, .int .i64 0]).alloc (Obj.cells #[.bool ep, .bool ew, .bool eu, .bool ea, .bool ed, .bool es, .bool en, .bool false, .int .i64 0] 24)
  have hP := Blk.new (w.alloc (Obj.cells #[.bool false, .bool false, .bool false, .bool false, .bool false, .bool false, .bool false, .bool false, .int .i64 0] 24)) 24 #[.bool ep, .bool ew, .bool eu, .bool ea, .bool ed, .bool es, .bool en, .bool false, .int .i64 0]
  have hc0 := ((Chg.refl [] w).alloc (Obj.cells #[.bool false, .bool false, .bool false, .bool false, .bool false, .bool false, .bool false, .bool false, .int .i64 0] 24)).alloc (Obj.cells #[.bool ep, .bool ew, .bool eu, .bool ea, .bool ed, .bool es, .bool en, .bool false, .int .i64 0] 24)
  simp only [World.size_alloc] at hP
  generalize hg1 : w.heap.size + 1 = g1 at *
  generalize hg0 : w.heap.size = g0 at *
  go_loopw [4] (fun i w' => ∃ n : Nat, n ≤ 64 ∧ i = .int .i64 n ∧ Chg [] w w' ∧ Blk w' g0 24 #[.bool false, .bool false, .bool false, .bool false, .bool false, .bool false, .bool false, .bool false, .int .i64 0] ∧ Blk w' g1 24 #[.bool ep, .bool ew, .bool eu, .bool ea, .bool ed, .bool es, .bool en, .bool (badK v n), .int .i64 0]) (fun i _ => 64 - (intOf i).toNat)
  case atStart => exact ⟨0, by omega, rfl, hc0, hR, by rw [HZ.out]; exact hP⟩
  case round =>
    obtain ⟨n, hn, rfl, hck, hRk, hPk⟩ := hrel
    clear hc0 hR hP
    have hne : g0 ≠ g1 := by omega
    by_cases hlt : n < 64
    · have HB := HS.out n
      generalize badK v n = bk at *
      have e7 := hPk.cell 7
      have f7 := hPk.frozen 7
      simp at e7
      have HB := Lib.hid HB
      go_wp2_with fail
      refine (bit_any v n _ hv hlt).mono ?_; rintro e w1 ⟨rfl, rfl⟩
      have HB := HB.out
      generalize v.testBit n = t at *
      cases t
      · rw [Bool.false_and, Bool.or_false] at HB
        go_wp2_with fail
        go_roundw
        case rel => exact ⟨n + 1, by omega, by go_num, hck, hRk, by rw [HB]; exact hPk⟩
        case measure => simp [intOf]; omega
      · rw [Bool.true_and] at HB
        rcases (by omega : n < 3 ∨ n = 3 ∨ n = 4 ∨ 5 ≤ n ∧ n ≤ 7 ∨ 8 ≤ n ∧ n ≤ 11 ∨ 12 ≤ n ∧ n ≤ 31 ∨ 32 ≤ n ∧ n ≤ 62 ∨ n = 63) with hnn | hnn | hnn | hnn | hnn | hnn | hnn | hnn
        · have hi : isB n = false := by simp [isB]; omega
          rw [hi] at HB
          have t3 : ((n : Int) == 3) = decide (n = 3) := by rw [Bool.eq_iff_iff]; simp; omega
          have t4 : ((n : Int) == 4) = decide (n = 4) := by rw [Bool.eq_iff_iff]; simp; omega
          rw [decide_eq_false (by omega)] at t3
          rw [decide_eq_false (by omega)] at t4
          go_wp2_with fail
          go_roundw
          case rel => exact ⟨n + 1, by omega, by go_num, hck, hRk, by rw [HB, Bool.or_false]; exact hPk⟩
          case measure => simp [intOf]; omega
        · have hi : isB n = true := by simp [isB]; omega
          rw [hi] at HB
          have t3 : ((n : Int) == 3) = decide (n = 3) := by rw [Bool.eq_iff_iff]; simp; omega
          have t4 : ((n : Int) == 4) = decide (n = 4) := by rw [Bool.eq_iff_iff]; simp; omega
          rw [decide_eq_true (by omega)] at t3
          rw [decide_eq_false (by omega)] at t4
          go_wp2_with fail
          go_roundw
          case rel => exact ⟨n + 1, by omega, by go_num, (hck.setCell (by simp; omega) _), hRk.far (p := ⟨g1, 7, none⟩) hne _, by have := hPk.set_ 7 (.bool true); simp only [List.setIfInBounds_toArray, List.set_cons_zero, List.set_cons_succ] at this; rw [HB, Bool.or_true]; exact this⟩
          case measure => simp [intOf]; omega
        · have hi : isB n = true := by simp [isB]; omega
          rw [hi] at HB
          have t3 : ((n : Int) == 3) = decide (n = 3) := by rw [Bool.eq_iff_iff]; simp; omega
          have t4 : ((n : Int) == 4) = decide (n = 4) := by rw [Bool.eq_iff_iff]; simp; omega
          rw [decide_eq_false (by omega)] at t3
          rw [decide_eq_true (by omega)] at t4
          go_wp2_with fail
          go_roundw
          case rel => exact ⟨n + 1, by omega, by go_num, (hck.setCell (by simp; omega) _), hRk.far (p := ⟨g1, 7, none⟩) hne _, by have := hPk.set_ 7 (.bool true); simp only [List.setIfInBounds_toArray, List.set_cons_zero, List.set_cons_succ] at this; rw [HB, Bool.or_true]; exact this⟩
          case measure => simp [intOf]; omega
        · have hi : isB n = false := by simp [isB]; omega
          rw [hi] at HB
          have t3 : ((n : Int) == 3) = decide (n = 3) := by rw [Bool.eq_iff_iff]; simp; omega
          have t4 : ((n : Int) == 4) = decide (n = 4) := by rw [Bool.eq_iff_iff]; simp; omega
          rw [decide_eq_false (by omega)] at t3
          rw [decide_eq_false (by omega)] at t4
          go_wp2_with fail
          go_roundw
          case rel => exact ⟨n + 1, by omega, by go_num, hck, hRk, by rw [HB, Bool.or_false]; exact hPk⟩
          case measure => simp [intOf]; omega
        · have hi : isB n = true := by simp [isB]; omega
          rw [hi] at HB
          have t3 : ((n : Int) == 3) = decide (n = 3) := by rw [Bool.eq_iff_iff]; simp; omega
          have t4 : ((n : Int) == 4) = decide (n = 4) := by rw [Bool.eq_iff_iff]; simp; omega
          rw [decide_eq_false (by omega)] at t3
          rw [decide_eq_false (by omega)] at t4
          go_wp2_with fail
          go_roundw
          case rel => exact ⟨n + 1, by omega, by go_num, (hck.setCell (by simp; omega) _), hRk.far (p := ⟨g1, 7, none⟩) hne _, by have := hPk.set_ 7 (.bool true); simp only [List.setIfInBounds_toArray, List.set_cons_zero, List.set_cons_succ] at this; rw [HB, Bool.or_true]; exact this⟩
          case measure => simp [intOf]; omega
        · have hi : isB n = false := by simp [isB]; omega
          rw [hi] at HB
          have t3 : ((n : Int) == 3) = decide (n = 3) := by rw [Bool.eq_iff_iff]; simp; omega
          have t4 : ((n : Int) == 4) = decide (n = 4) := by rw [Bool.eq_iff_iff]; simp; omega
          rw [decide_eq_false (by omega)] at t3
          rw [decide_eq_false (by omega)] at t4
          go_wp2_with fail
          go_roundw
          case rel => exact ⟨n + 1, by omega, by go_num, hck, hRk, by rw [HB, Bool.or_false]; exact hPk⟩
          case measure => simp [intOf]; omega
        · have hi : isB n = true := by simp [isB]; omega
          rw [hi] at HB
          have t3 : ((n : Int) == 3) = decide (n = 3) := by rw [Bool.eq_iff_iff]; simp; omega
          have t4 : ((n : Int) == 4) = decide (n = 4) := by rw [Bool.eq_iff_iff]; simp; omega
          rw [decide_eq_false (by omega)] at t3
          rw [decide_eq_false (by omega)] at t4
          go_wp2_with fail
          go_roundw
          case rel => exact ⟨n + 1, by omega, by go_num, (hck.setCell (by simp; omega) _), hRk.far (p := ⟨g1, 7, none⟩) hne _, by have := hPk.set_ 7 (.bool true); simp only [List.setIfInBounds_toArray, List.set_cons_zero, List.set_cons_succ] at this; rw [HB, Bool.or_true]; exact this⟩
          case measure => simp [intOf]; omega
        · have hi : isB n = false := by simp [isB]; omega
          rw [hi] at HB
          have t3 : ((n : Int) == 3) = decide (n = 3) := by rw [Bool.eq_iff_iff]; simp; omega
          have t4 : ((n : Int) == 4) = decide (n = 4) := by rw [Bool.eq_iff_iff]; simp; omega
          rw [decide_eq_false (by omega)] at t3
          rw [decide_eq_false (by omega)] at t4
          go_wp2_with fail
          go_roundw
          case rel => exact ⟨n + 1, by omega, by go_num, hck, hRk, by rw [HB, Bool.or_false]; exact hPk⟩
          case measure => simp [intOf]; omega
    · obtain rfl : n = 64 := by omega
      rw [HB0.out] at hPk
      have e0 := hPk.cell 0
      have e1 := hPk.cell 1
      have e2 := hPk.cell 2
      have e3 := hPk.cell 3
      have e4 := hPk.cell 4
      have e5 := hPk.cell 5
      have e6 := hPk.cell 6
      have e7 := hPk.cell 7
      have e8 := hPk.cell 8
      have f8 := hPk.frozen 8
      have r0 := hRk.cell 0
      have q0 := hRk.frozen 0
      have r1 := hRk.cell 1
      have q1 := hRk.frozen 1
      have r2 := hRk.cell 2
      have q2 := hRk.frozen 2
      have r3 := hRk.cell 3
      have q3 := hRk.frozen 3
      have r4 := hRk.cell 4
      have q4 := hRk.frozen 4
      have r5 := hRk.cell 5
      have q5 := hRk.frozen 5
      have r6 := hRk.cell 6
      have q6 := hRk.frozen 6
      have r7 := hRk.cell 7
      have q7 := hRk.frozen 7
      have r8 := hRk.cell 8
      have q8 := hRk.frozen 8
      have hne' : ¬ g1 = g0 := by omega
      have hne2 : ¬ g0 = g1 := by omega
      simp at e0 e1 e2 e3 e4 e5 e6 e7 e8 r0 r1 r2 r3 r4 r5 r6 r7 r8
      go_wp2_with fail
      have hB := ((((((((((hRk.far (p := ⟨g1, 8, none⟩) hne (.int .i64 ((v : Int) / 4096 % 1048576))).set_ 0 (.bool ep)).set_ 1 (.bool ew)).set_ 2 (.bool eu)).set_ 3 (.bool ea)).set_ 4 (.bool ed)).set_ 5 (.bool es)).set_ 6 (.bool en)).set_ 7 (.bool eb)).set_ 8 (.int .i64 ((v : Int) / 4096 % 1048576)))
      simp only [List.setIfInBounds_toArray, List.set_cons_zero, List.set_cons_succ] at hB
      refine bodyPost_ret (cell_ret rfl hB rfl Try.underlying24 rfl (by kernel_rfl)) rfl ?_
      exact ⟨by rw [HR.out], ((((((((((hck.setCell (by simp; omega) _).setCell (by simp; omega) _).setCell (by simp; omega) _).setCell (by simp; omega) _).setCell (by simp; omega) _).setCell (by simp; omega) _).setCell (by simp; omega) _).setCell (by simp; omega) _).setCell (by simp; omega) _).setCell (by simp; omega) _)⟩

end Go.Proofs.Ytgmdnglododhfaa
