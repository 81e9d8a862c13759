/-
  PteBits: the walk.
-/
import Derived.Test.YtgmdnglododhfaaPteHead
import Derived.BigQuiet
namespace Go.Proofs.Ytgmdnglododhfaa
open Go.RowKit

/-- the word v with its bit k turned -/
def turn (v k : Nat) : Nat := v ^^^ 2 ^ k
theorem turn_lt (v k : Nat) (hv : v < 18446744073709551616) (hk : k < 64) : turn v k < 18446744073709551616 := Nat.xor_lt_two_pow (n := 64) hv (Nat.pow_lt_pow_right (by decide) hk)
theorem turn_bit (v k i : Nat) : (turn v k).testBit i = (v.testBit i ^^ decide (k = i)) := by
  unfold turn
  rw [Nat.testBit_xor, Nat.testBit_two_pow]
theorem turn_same (v k i : Nat) (h : k ≠ i) : (turn v k).testBit i = v.testBit i := by rw [turn_bit, decide_eq_false h, Bool.xor_false]
theorem turn_frame (v k : Nat) (h : k < 12 ∨ 32 ≤ k) : frameN (turn v k) = frameN v := by
  apply Nat.eq_of_testBit_eq
  intro j
  rw [frameN_bit, frameN_bit]
  by_cases hj : j < 20
  · rw [turn_same v k _ (by omega)]
  · rw [decide_eq_false hj]; rfl
theorem turn_frame' (v k : Nat) (h : 12 ≤ k ∧ k < 32) : frameN (turn v k) = frameN v ^^^ 2 ^ (k - 12) := by
  apply Nat.eq_of_testBit_eq
  intro j
  rw [Nat.testBit_xor, Nat.testBit_two_pow, frameN_bit, frameN_bit, turn_bit]
  by_cases hj : j < 20
  · rw [decide_eq_true hj, Bool.true_and, Bool.true_and]
    congr 1
    rw [Bool.eq_iff_iff, decide_eq_true_eq, decide_eq_true_eq]; omega
  · rw [decide_eq_false hj, decide_eq_false (show ¬ k - 12 = j by omega)]; rfl
theorem turn_bad (v k : Nat) (h : isB k = false) : (getE (turn v k)).bad = (getE v).bad := by
  have h' : ∀ i, isB i = true → (turn v k).testBit i = v.testBit i := fun i hi => turn_same v k i fun e => by subst e; rw [hi] at h; cases h
  rw [Bool.eq_iff_iff, bad_iff, bad_iff]
  constructor
  · rintro ⟨i, h1, h2⟩; exact ⟨i, h1, by rw [← h' i h1]; exact h2⟩
  · rintro ⟨i, h1, h2⟩; exact ⟨i, h1, by rw [h' i h1]; exact h2⟩
theorem turn_bad' (v k : Nat) (h : isB k = true) (hb : (getE v).bad = false) : (getE (turn v k)).bad = true := by
  rw [bad_iff]
  exact ⟨k, h, by rw [turn_bit, (bad_not v).1 hb k h]; simp⟩
theorem turn_E (v k : Nat) (h : isB k = true) : getE (turn v k) = { getE v with bad := (getE (turn v k)).bad } := by
  have hk : k ≠ 0 ∧ k ≠ 1 ∧ k ≠ 2 ∧ k ≠ 5 ∧ k ≠ 6 ∧ k ≠ 7 ∧ k ≠ 63 ∧ (k < 12 ∨ 32 ≤ k) := by simp [isB] at h; omega
  refine Ent.ext_ ?_ ?_ ?_ ?_ ?_ ?_ ?_ rfl ?_
  · show _ = (getE v).p; rw [get_p, get_p, turn_same _ _ _ (by omega)]
  · show _ = (getE v).w; rw [get_w, get_w, turn_same _ _ _ (by omega)]
  · show _ = (getE v).u; rw [get_u, get_u, turn_same _ _ _ (by omega)]
  · show _ = (getE v).a; rw [get_a, get_a, turn_same _ _ _ (by omega)]
  · show _ = (getE v).d; rw [get_d, get_d, turn_same _ _ _ (by omega)]
  · show _ = (getE v).s; rw [get_s, get_s, turn_same _ _ _ (by omega)]
  · show _ = (getE v).n; rw [get_n, get_n, turn_same _ _ _ (by omega)]
  · show _ = (getE v).f; rw [get_f, get_f, turn_frame v k (by omega)]
theorem turn_ne (v k : Nat) (h : k = 0 ∨ k = 1 ∨ k = 2 ∨ k = 5 ∨ k = 6 ∨ k = 7 ∨ k = 63) : getE v ≠ getE (turn v k) := by
  intro e
  have key : ∀ i, v.testBit i = (turn v i).testBit i → False := fun i hi => by
    rw [turn_bit] at hi; cases hb : v.testBit i <;> rw [hb] at hi <;> simp at hi
  rcases h with rfl | rfl | rfl | rfl | rfl | rfl | rfl
  · exact key 0 (by rw [← get_p, ← get_p, ← e])
  · exact key 1 (by rw [← get_w, ← get_w, ← e])
  · exact key 2 (by rw [← get_u, ← get_u, ← e])
  · exact key 5 (by rw [← get_a, ← get_a, ← e])
  · exact key 6 (by rw [← get_d, ← get_d, ← e])
  · exact key 7 (by rw [← get_s, ← get_s, ← e])
  · exact key 63 (by rw [← get_n, ← get_n, ← e])
theorem turn_word (v k : Nat) (hv : v < 18446744073709551616) (hk : k < 64) : bits .xor .u64 (v : Int) (IntKind.u64.wrap (2 ^ k)) = (turn v k : Nat) := by
  have h2 : 2 ^ k < 2 ^ 64 := Nat.pow_lt_pow_right (by decide) hk
  have hw : IntKind.u64.wrap (2 ^ k) = ((2 ^ k : Nat) : Int) := by
    rw [IntKind.wrap_u64, show (2 : Int) ^ k = ((2 ^ k : Nat) : Int) by simp]
    generalize 2 ^ k = q at *
    omega
  rw [hw]
  exact u64_xor_nat v (2 ^ k) hv h2

set_option maxRecDepth 100000 in
set_option maxHeartbeats 4000000 in
theorem bitsB_3_true (v z : Nat) (w : World) (hv : v < 18446744073709551616) (hz : z ≤ 255) (hk : 3 ≤ z % 64 ∧ z % 64 ≤ 3) (hb : (getE v).bad = true) :
    Calls Try.prog 6 #[.int .u64 v, .int .u8 z] w fun x w' => x = .returned (.bool true) ∧ Chg [] w w' := by
  have hk64 : z % 64 < 64 := Nat.mod_lt _ (by decide)
  have G1 := fun w => Get_any v w hv
  have G2 := fun w => Get_any (turn v (z % 64)) w (turn_lt v _ hv hk64)
  have hx := turn_word v (z % 64) hv hk64
  have hB : isB (z % 64) = true := by simp [isB]; omega
  have hq := fun w => run_eqE (getE v) (getE v) w
  simp only [eqb_self] at hq
  have hgcs : (getE v).cs = #[.bool (getE v).p, .bool (getE v).w, .bool (getE v).u, .bool (getE v).a, .bool (getE v).d, .bool (getE v).s, .bool (getE v).n, .bool (getE v).bad, .int .i64 (getE v).f] := rfl
  have hhcs : (getE (turn v (z % 64))).cs = #[.bool (getE v).p, .bool (getE v).w, .bool (getE v).u, .bool (getE v).a, .bool (getE v).d, .bool (getE v).s, .bool (getE v).n, .bool (getE (turn v (z % 64))).bad, .int .i64 (getE v).f] := by rw [turn_E v _ hB]; rfl
  rw [hb] at hgcs
  simp only [hgcs] at G1 hq
  simp only [hhcs] at G2
  clear hhcs hB hb
  generalize (getE (turn v (z % 64))).bad = hb at *
  generalize turn v (z % 64) = N at *
  have HgCS := Lib.hid hgcs; clear hgcs
  generalize (getE v).p = gp at *
  generalize (getE v).w = gw at *
  generalize (getE v).u = gu at *
  generalize (getE v).a = ga at *
  generalize (getE v).d = gd at *
  generalize (getE v).s = gs at *
  generalize (getE v).n = gn at *
  generalize (getE v).f = gf at *
  have t3 : ((z : Int) % 64 == 3) = true := by rw [Bool.eq_iff_iff]; simp; omega
  have t4 : ((z : Int) % 64 == 4) = false := by rw [Bool.eq_iff_iff]; simp; omega
  have hf1 := bad_field gp gw gu ga gd gs gn true gf
  have hf2 := bad_field gp gw gu ga gd gs gn hb gf
  go_enter Try.func6, Try.ntmps6
  go_wp2_with fail
  refine (head_any _).mono ?_; rintro x w1 ⟨rfl, hc1⟩
  go_wp2_with fail
  refine (G1 _).mono ?_; rintro x w2 ⟨rfl, hc2⟩
  have hX2 := Blk.new w2 24 #[.bool gp, .bool gw, .bool gu, .bool ga, .bool gd, .bool gs, .bool gn, .bool true, .int .i64 gf]
  have hcX := (hc1.trans hc2 (by simp)).alloc (Obj.cells #[.bool gp, .bool gw, .bool gu, .bool ga, .bool gd, .bool gs, .bool gn, .bool true, .int .i64 gf] 24)
  clear hc1 hc2
  go_wp2_with fail
  generalize w2.heap.size = gx at *
  refine (G2 _).mono ?_; rintro x w3 ⟨rfl, hc3⟩
  have hX3 := hX2.chg_ hc3 (by simp)
  have hcX3 := hcX.trans hc3 (by simp)
  have hX4 := hX3.alloc (Obj.cells #[.bool gp, .bool gw, .bool gu, .bool ga, .bool gd, .bool gs, .bool gn, .bool hb, .int .i64 gf] 24)
  have hX5 := hX3.alloc (Obj.cells #[.bool gp, .bool gw, .bool gu, .bool ga, .bool gd, .bool gs, .bool gn, .bool true, .int .i64 gf] 24)
  clear hX2 hcX hc3 hX3
  obtain ⟨d0, d1, d2, d3, d4, d5, d6, d7, d8⟩ := blk9 hX4
  obtain ⟨e0, e1, e2, e3, e4, e5, e6, e7, e8⟩ := blk9 hX5
  go_wp2_with fail
  refine (G1 _).mono ?_; rintro x w4 ⟨rfl, hc4⟩
  have hc := (hcX3.alloc (Obj.cells #[.bool gp, .bool gw, .bool gu, .bool ga, .bool gd, .bool gs, .bool gn, .bool true, .int .i64 gf] 24)).trans hc4 (by simp)
  go_wp2_with fail
  go_ret
  exact ⟨rfl, hc⟩

set_option maxRecDepth 100000 in
set_option maxHeartbeats 4000000 in
theorem bitsB_3_false (v z : Nat) (w : World) (hv : v < 18446744073709551616) (hz : z ≤ 255) (hk : 3 ≤ z % 64 ∧ z % 64 ≤ 3) (hb : (getE v).bad = false) :
    Calls Try.prog 6 #[.int .u64 v, .int .u8 z] w fun x w' => x = .returned (.bool true) ∧ Chg [] w w' := by
  have hk64 : z % 64 < 64 := Nat.mod_lt _ (by decide)
  have G1 := fun w => Get_any v w hv
  have G2 := fun w => Get_any (turn v (z % 64)) w (turn_lt v _ hv hk64)
  have hx := turn_word v (z % 64) hv hk64
  have hB : isB (z % 64) = true := by simp [isB]; omega
  have hb' := turn_bad' v (z % 64) hB hb
  have hq := fun w => run_eqE (getE v) (getE v) w
  simp only [eqb_self] at hq
  have hgcs : (getE v).cs = #[.bool (getE v).p, .bool (getE v).w, .bool (getE v).u, .bool (getE v).a, .bool (getE v).d, .bool (getE v).s, .bool (getE v).n, .bool (getE v).bad, .int .i64 (getE v).f] := rfl
  have hhcs : (getE (turn v (z % 64))).cs = #[.bool (getE v).p, .bool (getE v).w, .bool (getE v).u, .bool (getE v).a, .bool (getE v).d, .bool (getE v).s, .bool (getE v).n, .bool true, .int .i64 (getE v).f] := by rw [turn_E v _ hB]; rw [hb']; rfl
  rw [hb] at hgcs
  simp only [hgcs] at G1 hq
  simp only [hhcs] at G2
  clear hhcs hB hb hb'
  generalize turn v (z % 64) = N at *
  have HgCS := Lib.hid hgcs; clear hgcs
  generalize (getE v).p = gp at *
  generalize (getE v).w = gw at *
  generalize (getE v).u = gu at *
  generalize (getE v).a = ga at *
  generalize (getE v).d = gd at *
  generalize (getE v).s = gs at *
  generalize (getE v).n = gn at *
  generalize (getE v).f = gf at *
  have t3 : ((z : Int) % 64 == 3) = true := by rw [Bool.eq_iff_iff]; simp; omega
  have t4 : ((z : Int) % 64 == 4) = false := by rw [Bool.eq_iff_iff]; simp; omega
  have hf1 := bad_field gp gw gu ga gd gs gn false gf
  have hf2 := bad_field gp gw gu ga gd gs gn true gf
  go_enter Try.func6, Try.ntmps6
  go_wp2_with fail
  refine (head_any _).mono ?_; rintro x w1 ⟨rfl, hc1⟩
  go_wp2_with fail
  refine (G1 _).mono ?_; rintro x w2 ⟨rfl, hc2⟩
  have hX2 := Blk.new w2 24 #[.bool gp, .bool gw, .bool gu, .bool ga, .bool gd, .bool gs, .bool gn, .bool false, .int .i64 gf]
  have hcX := (hc1.trans hc2 (by simp)).alloc (Obj.cells #[.bool gp, .bool gw, .bool gu, .bool ga, .bool gd, .bool gs, .bool gn, .bool false, .int .i64 gf] 24)
  clear hc1 hc2
  go_wp2_with fail
  generalize w2.heap.size = gx at *
  refine (G2 _).mono ?_; rintro x w3 ⟨rfl, hc3⟩
  have hX3 := hX2.chg_ hc3 (by simp)
  have hcX3 := hcX.trans hc3 (by simp)
  have hX4 := hX3.alloc (Obj.cells #[.bool gp, .bool gw, .bool gu, .bool ga, .bool gd, .bool gs, .bool gn, .bool true, .int .i64 gf] 24)
  have hX5 := hX3.alloc (Obj.cells #[.bool gp, .bool gw, .bool gu, .bool ga, .bool gd, .bool gs, .bool gn, .bool false, .int .i64 gf] 24)
  clear hX2 hcX hc3 hX3
  obtain ⟨d0, d1, d2, d3, d4, d5, d6, d7, d8⟩ := blk9 hX4
  obtain ⟨e0, e1, e2, e3, e4, e5, e6, e7, e8⟩ := blk9 hX5
  go_wp2_with fail
  refine (G1 _).mono ?_; rintro x w4 ⟨rfl, hc4⟩
  have hc := (hcX3.alloc (Obj.cells #[.bool gp, .bool gw, .bool gu, .bool ga, .bool gd, .bool gs, .bool gn, .bool false, .int .i64 gf] 24)).trans hc4 (by simp)
  go_wp2_with fail
  refine (G2 _).mono ?_; rintro x w5 ⟨rfl, hc5⟩
  have hc := hc.trans hc5 (by simp)
  go_wp2_with fail
  go_ret
  exact ⟨rfl, hc⟩

set_option maxRecDepth 100000 in
set_option maxHeartbeats 4000000 in
theorem bitsB_4_true (v z : Nat) (w : World) (hv : v < 18446744073709551616) (hz : z ≤ 255) (hk : 4 ≤ z % 64 ∧ z % 64 ≤ 4) (hb : (getE v).bad = true) :
    Calls Try.prog 6 #[.int .u64 v, .int .u8 z] w fun x w' => x = .returned (.bool true) ∧ Chg [] w w' := by
  have hk64 : z % 64 < 64 := Nat.mod_lt _ (by decide)
  have G1 := fun w => Get_any v w hv
  have G2 := fun w => Get_any (turn v (z % 64)) w (turn_lt v _ hv hk64)
  have hx := turn_word v (z % 64) hv hk64
  have hB : isB (z % 64) = true := by simp [isB]; omega
  have hq := fun w => run_eqE (getE v) (getE v) w
  simp only [eqb_self] at hq
  have hgcs : (getE v).cs = #[.bool (getE v).p, .bool (getE v).w, .bool (getE v).u, .bool (getE v).a, .bool (getE v).d, .bool (getE v).s, .bool (getE v).n, .bool (getE v).bad, .int .i64 (getE v).f] := rfl
  have hhcs : (getE (turn v (z % 64))).cs = #[.bool (getE v).p, .bool (getE v).w, .bool (getE v).u, .bool (getE v).a, .bool (getE v).d, .bool (getE v).s, .bool (getE v).n, .bool (getE (turn v (z % 64))).bad, .int .i64 (getE v).f] := by rw [turn_E v _ hB]; rfl
  rw [hb] at hgcs
  simp only [hgcs] at G1 hq
  simp only [hhcs] at G2
  clear hhcs hB hb
  generalize (getE (turn v (z % 64))).bad = hb at *
  generalize turn v (z % 64) = N at *
  have HgCS := Lib.hid hgcs; clear hgcs
  generalize (getE v).p = gp at *
  generalize (getE v).w = gw at *
  generalize (getE v).u = gu at *
  generalize (getE v).a = ga at *
  generalize (getE v).d = gd at *
  generalize (getE v).s = gs at *
  generalize (getE v).n = gn at *
  generalize (getE v).f = gf at *
  have t3 : ((z : Int) % 64 == 3) = false := by rw [Bool.eq_iff_iff]; simp; omega
  have t4 : ((z : Int) % 64 == 4) = true := by rw [Bool.eq_iff_iff]; simp; omega
  have hf1 := bad_field gp gw gu ga gd gs gn true gf
  have hf2 := bad_field gp gw gu ga gd gs gn hb gf
  go_enter Try.func6, Try.ntmps6
  go_wp2_with fail
  refine (head_any _).mono ?_; rintro x w1 ⟨rfl, hc1⟩
  go_wp2_with fail
  refine (G1 _).mono ?_; rintro x w2 ⟨rfl, hc2⟩
  have hX2 := Blk.new w2 24 #[.bool gp, .bool gw, .bool gu, .bool ga, .bool gd, .bool gs, .bool gn, .bool true, .int .i64 gf]
  have hcX := (hc1.trans hc2 (by simp)).alloc (Obj.cells #[.bool gp, .bool gw, .bool gu, .bool ga, .bool gd, .bool gs, .bool gn, .bool true, .int .i64 gf] 24)
  clear hc1 hc2
  go_wp2_with fail
  generalize w2.heap.size = gx at *
  refine (G2 _).mono ?_; rintro x w3 ⟨rfl, hc3⟩
  have hX3 := hX2.chg_ hc3 (by simp)
  have hcX3 := hcX.trans hc3 (by simp)
  have hX4 := hX3.alloc (Obj.cells #[.bool gp, .bool gw, .bool gu, .bool ga, .bool gd, .bool gs, .bool gn, .bool hb, .int .i64 gf] 24)
  have hX5 := hX3.alloc (Obj.cells #[.bool gp, .bool gw, .bool gu, .bool ga, .bool gd, .bool gs, .bool gn, .bool true, .int .i64 gf] 24)
  clear hX2 hcX hc3 hX3
  obtain ⟨d0, d1, d2, d3, d4, d5, d6, d7, d8⟩ := blk9 hX4
  obtain ⟨e0, e1, e2, e3, e4, e5, e6, e7, e8⟩ := blk9 hX5
  go_wp2_with fail
  refine (G1 _).mono ?_; rintro x w4 ⟨rfl, hc4⟩
  have hc := (hcX3.alloc (Obj.cells #[.bool gp, .bool gw, .bool gu, .bool ga, .bool gd, .bool gs, .bool gn, .bool true, .int .i64 gf] 24)).trans hc4 (by simp)
  go_wp2_with fail
  go_ret
  exact ⟨rfl, hc⟩

set_option maxRecDepth 100000 in
set_option maxHeartbeats 4000000 in
theorem bitsB_4_false (v z : Nat) (w : World) (hv : v < 18446744073709551616) (hz : z ≤ 255) (hk : 4 ≤ z % 64 ∧ z % 64 ≤ 4) (hb : (getE v).bad = false) :
    Calls Try.prog 6 #[.int .u64 v, .int .u8 z] w fun x w' => x = .returned (.bool true) ∧ Chg [] w w' := by
  have hk64 : z % 64 < 64 := Nat.mod_lt _ (by decide)
  have G1 := fun w => Get_any v w hv
  have G2 := fun w => Get_any (turn v (z % 64)) w (turn_lt v _ hv hk64)
  have hx := turn_word v (z % 64) hv hk64
  have hB : isB (z % 64) = true := by simp [isB]; omega
  have hb' := turn_bad' v (z % 64) hB hb
  have hq := fun w => run_eqE (getE v) (getE v) w
  simp only [eqb_self] at hq
  have hgcs : (getE v).cs = #[.bool (getE v).p, .bool (getE v).w, .bool (getE v).u, .bool (getE v).a, .bool (getE v).d, .bool (getE v).s, .bool (getE v).n, .bool (getE v).bad, .int .i64 (getE v).f] := rfl
  have hhcs : (getE (turn v (z % 64))).cs = #[.bool (getE v).p, .bool (getE v).w, .bool (getE v).u, .bool (getE v).a, .bool (getE v).d, .bool (getE v).s, .bool (getE v).n, .bool true, .int .i64 (getE v).f] := by rw [turn_E v _ hB]; rw [hb']; rfl
  rw [hb] at hgcs
  simp only [hgcs] at G1 hq
  simp only [hhcs] at G2
  clear hhcs hB hb hb'
  generalize turn v (z % 64) = N at *
  have HgCS := Lib.hid hgcs; clear hgcs
  generalize (getE v).p = gp at *
  generalize (getE v).w = gw at *
  generalize (getE v).u = gu at *
  generalize (getE v).a = ga at *
  generalize (getE v).d = gd at *
  generalize (getE v).s = gs at *
  generalize (getE v).n = gn at *
  generalize (getE v).f = gf at *
  have t3 : ((z : Int) % 64 == 3) = false := by rw [Bool.eq_iff_iff]; simp; omega
  have t4 : ((z : Int) % 64 == 4) = true := by rw [Bool.eq_iff_iff]; simp; omega
  have hf1 := bad_field gp gw gu ga gd gs gn false gf
  have hf2 := bad_field gp gw gu ga gd gs gn true gf
  go_enter Try.func6, Try.ntmps6
  go_wp2_with fail
  refine (head_any _).mono ?_; rintro x w1 ⟨rfl, hc1⟩
  go_wp2_with fail
  refine (G1 _).mono ?_; rintro x w2 ⟨rfl, hc2⟩
  have hX2 := Blk.new w2 24 #[.bool gp, .bool gw, .bool gu, .bool ga, .bool gd, .bool gs, .bool gn, .bool false, .int .i64 gf]
  have hcX := (hc1.trans hc2 (by simp)).alloc (Obj.cells #[.bool gp, .bool gw, .bool gu, .bool ga, .bool gd, .bool gs, .bool gn, .bool false, .int .i64 gf] 24)
  clear hc1 hc2
  go_wp2_with fail
  generalize w2.heap.size = gx at *
  refine (G2 _).mono ?_; rintro x w3 ⟨rfl, hc3⟩
  have hX3 := hX2.chg_ hc3 (by simp)
  have hcX3 := hcX.trans hc3 (by simp)
  have hX4 := hX3.alloc (Obj.cells #[.bool gp, .bool gw, .bool gu, .bool ga, .bool gd, .bool gs, .bool gn, .bool true, .int .i64 gf] 24)
  have hX5 := hX3.alloc (Obj.cells #[.bool gp, .bool gw, .bool gu, .bool ga, .bool gd, .bool gs, .bool gn, .bool false, .int .i64 gf] 24)
  clear hX2 hcX hc3 hX3
  obtain ⟨d0, d1, d2, d3, d4, d5, d6, d7, d8⟩ := blk9 hX4
  obtain ⟨e0, e1, e2, e3, e4, e5, e6, e7, e8⟩ := blk9 hX5
  go_wp2_with fail
  refine (G1 _).mono ?_; rintro x w4 ⟨rfl, hc4⟩
  have hc := (hcX3.alloc (Obj.cells #[.bool gp, .bool gw, .bool gu, .bool ga, .bool gd, .bool gs, .bool gn, .bool false, .int .i64 gf] 24)).trans hc4 (by simp)
  go_wp2_with fail
  refine (G2 _).mono ?_; rintro x w5 ⟨rfl, hc5⟩
  have hc := hc.trans hc5 (by simp)
  go_wp2_with fail
  go_ret
  exact ⟨rfl, hc⟩

set_option maxRecDepth 100000 in
set_option maxHeartbeats 4000000 in
theorem bitsB_8_true (v z : Nat) (w : World) (hv : v < 18446744073709551616) (hz : z ≤ 255) (hk : 8 ≤ z % 64 ∧ z % 64 ≤ 11) (hb : (getE v).bad = true) :
    Calls Try.prog 6 #[.int .u64 v, .int .u8 z] w fun x w' => x = .returned (.bool true) ∧ Chg [] w w' := by
  have hk64 : z % 64 < 64 := Nat.mod_lt _ (by decide)
  have G1 := fun w => Get_any v w hv
  have G2 := fun w => Get_any (turn v (z % 64)) w (turn_lt v _ hv hk64)
  have hx := turn_word v (z % 64) hv hk64
  have hB : isB (z % 64) = true := by simp [isB]; omega
  have hq := fun w => run_eqE (getE v) (getE v) w
  simp only [eqb_self] at hq
  have hgcs : (getE v).cs = #[.bool (getE v).p, .bool (getE v).w, .bool (getE v).u, .bool (getE v).a, .bool (getE v).d, .bool (getE v).s, .bool (getE v).n, .bool (getE v).bad, .int .i64 (getE v).f] := rfl
  have hhcs : (getE (turn v (z % 64))).cs = #[.bool (getE v).p, .bool (getE v).w, .bool (getE v).u, .bool (getE v).a, .bool (getE v).d, .bool (getE v).s, .bool (getE v).n, .bool (getE (turn v (z % 64))).bad, .int .i64 (getE v).f] := by rw [turn_E v _ hB]; rfl
  rw [hb] at hgcs
  simp only [hgcs] at G1 hq
  simp only [hhcs] at G2
  clear hhcs hB hb
  generalize (getE (turn v (z % 64))).bad = hb at *
  generalize turn v (z % 64) = N at *
  have HgCS := Lib.hid hgcs; clear hgcs
  generalize (getE v).p = gp at *
  generalize (getE v).w = gw at *
  generalize (getE v).u = gu at *
  generalize (getE v).a = ga at *
  generalize (getE v).d = gd at *
  generalize (getE v).s = gs at *
  generalize (getE v).n = gn at *
  generalize (getE v).f = gf at *
  have t3 : ((z : Int) % 64 == 3) = false := by rw [Bool.eq_iff_iff]; simp; omega
  have t4 : ((z : Int) % 64 == 4) = false := by rw [Bool.eq_iff_iff]; simp; omega
  have hf1 := bad_field gp gw gu ga gd gs gn true gf
  have hf2 := bad_field gp gw gu ga gd gs gn hb gf
  go_enter Try.func6, Try.ntmps6
  go_wp2_with fail
  refine (head_any _).mono ?_; rintro x w1 ⟨rfl, hc1⟩
  go_wp2_with fail
  refine (G1 _).mono ?_; rintro x w2 ⟨rfl, hc2⟩
  have hX2 := Blk.new w2 24 #[.bool gp, .bool gw, .bool gu, .bool ga, .bool gd, .bool gs, .bool gn, .bool true, .int .i64 gf]
  have hcX := (hc1.trans hc2 (by simp)).alloc (Obj.cells #[.bool gp, .bool gw, .bool gu, .bool ga, .bool gd, .bool gs, .bool gn, .bool true, .int .i64 gf] 24)
  clear hc1 hc2
  go_wp2_with fail
  generalize w2.heap.size = gx at *
  refine (G2 _).mono ?_; rintro x w3 ⟨rfl, hc3⟩
  have hX3 := hX2.chg_ hc3 (by simp)
  have hcX3 := hcX.trans hc3 (by simp)
  have hX4 := hX3.alloc (Obj.cells #[.bool gp, .bool gw, .bool gu, .bool ga, .bool gd, .bool gs, .bool gn, .bool hb, .int .i64 gf] 24)
  have hX5 := hX3.alloc (Obj.cells #[.bool gp, .bool gw, .bool gu, .bool ga, .bool gd, .bool gs, .bool gn, .bool true, .int .i64 gf] 24)
  clear hX2 hcX hc3 hX3
  obtain ⟨d0, d1, d2, d3, d4, d5, d6, d7, d8⟩ := blk9 hX4
  obtain ⟨e0, e1, e2, e3, e4, e5, e6, e7, e8⟩ := blk9 hX5
  go_wp2_with fail
  refine (G1 _).mono ?_; rintro x w4 ⟨rfl, hc4⟩
  have hc := (hcX3.alloc (Obj.cells #[.bool gp, .bool gw, .bool gu, .bool ga, .bool gd, .bool gs, .bool gn, .bool true, .int .i64 gf] 24)).trans hc4 (by simp)
  go_wp2_with fail
  go_ret
  exact ⟨rfl, hc⟩

set_option maxRecDepth 100000 in
set_option maxHeartbeats 4000000 in
theorem bitsB_8_false (v z : Nat) (w : World) (hv : v < 18446744073709551616) (hz : z ≤ 255) (hk : 8 ≤ z % 64 ∧ z % 64 ≤ 11) (hb : (getE v).bad = false) :
    Calls Try.prog 6 #[.int .u64 v, .int .u8 z] w fun x w' => x = .returned (.bool true) ∧ Chg [] w w' := by
  have hk64 : z % 64 < 64 := Nat.mod_lt _ (by decide)
  have G1 := fun w => Get_any v w hv
  have G2 := fun w => Get_any (turn v (z % 64)) w (turn_lt v _ hv hk64)
  have hx := turn_word v (z % 64) hv hk64
  have hB : isB (z % 64) = true := by simp [isB]; omega
  have hb' := turn_bad' v (z % 64) hB hb
  have hq := fun w => run_eqE (getE v) (getE v) w
  simp only [eqb_self] at hq
  have hgcs : (getE v).cs = #[.bool (getE v).p, .bool (getE v).w, .bool (getE v).u, .bool (getE v).a, .bool (getE v).d, .bool (getE v).s, .bool (getE v).n, .bool (getE v).bad, .int .i64 (getE v).f] := rfl
  have hhcs : (getE (turn v (z % 64))).cs = #[.bool (getE v).p, .bool (getE v).w, .bool (getE v).u, .bool (getE v).a, .bool (getE v).d, .bool (getE v).s, .bool (getE v).n, .bool true, .int .i64 (getE v).f] := by rw [turn_E v _ hB]; rw [hb']; rfl
  rw [hb] at hgcs
  simp only [hgcs] at G1 hq
  simp only [hhcs] at G2
  clear hhcs hB hb hb'
  generalize turn v (z % 64) = N at *
  have HgCS := Lib.hid hgcs; clear hgcs
  generalize (getE v).p = gp at *
  generalize (getE v).w = gw at *
  generalize (getE v).u = gu at *
  generalize (getE v).a = ga at *
  generalize (getE v).d = gd at *
  generalize (getE v).s = gs at *
  generalize (getE v).n = gn at *
  generalize (getE v).f = gf at *
  have t3 : ((z : Int) % 64 == 3) = false := by rw [Bool.eq_iff_iff]; simp; omega
  have t4 : ((z : Int) % 64 == 4) = false := by rw [Bool.eq_iff_iff]; simp; omega
  have hf1 := bad_field gp gw gu ga gd gs gn false gf
  have hf2 := bad_field gp gw gu ga gd gs gn true gf
  go_enter Try.func6, Try.ntmps6
  go_wp2_with fail
  refine (head_any _).mono ?_; rintro x w1 ⟨rfl, hc1⟩
  go_wp2_with fail
  refine (G1 _).mono ?_; rintro x w2 ⟨rfl, hc2⟩
  have hX2 := Blk.new w2 24 #[.bool gp, .bool gw, .bool gu, .bool ga, .bool gd, .bool gs, .bool gn, .bool false, .int .i64 gf]
  have hcX := (hc1.trans hc2 (by simp)).alloc (Obj.cells #[.bool gp, .bool gw, .bool gu, .bool ga, .bool gd, .bool gs, .bool gn, .bool false, .int .i64 gf] 24)
  clear hc1 hc2
  go_wp2_with fail
  generalize w2.heap.size = gx at *
  refine (G2 _).mono ?_; rintro x w3 ⟨rfl, hc3⟩
  have hX3 := hX2.chg_ hc3 (by simp)
  have hcX3 := hcX.trans hc3 (by simp)
  have hX4 := hX3.alloc (Obj.cells #[.bool gp, .bool gw, .bool gu, .bool ga, .bool gd, .bool gs, .bool gn, .bool true, .int .i64 gf] 24)
  have hX5 := hX3.alloc (Obj.cells #[.bool gp, .bool gw, .bool gu, .bool ga, .bool gd, .bool gs, .bool gn, .bool false, .int .i64 gf] 24)
  clear hX2 hcX hc3 hX3
  obtain ⟨d0, d1, d2, d3, d4, d5, d6, d7, d8⟩ := blk9 hX4
  obtain ⟨e0, e1, e2, e3, e4, e5, e6, e7, e8⟩ := blk9 hX5
  go_wp2_with fail
  refine (G1 _).mono ?_; rintro x w4 ⟨rfl, hc4⟩
  have hc := (hcX3.alloc (Obj.cells #[.bool gp, .bool gw, .bool gu, .bool ga, .bool gd, .bool gs, .bool gn, .bool false, .int .i64 gf] 24)).trans hc4 (by simp)
  go_wp2_with fail
  refine (G2 _).mono ?_; rintro x w5 ⟨rfl, hc5⟩
  have hc := hc.trans hc5 (by simp)
  go_wp2_with fail
  go_ret
  exact ⟨rfl, hc⟩

set_option maxRecDepth 100000 in
set_option maxHeartbeats 4000000 in
theorem bitsB_32_true (v z : Nat) (w : World) (hv : v < 18446744073709551616) (hz : z ≤ 255) (hk : 32 ≤ z % 64 ∧ z % 64 ≤ 62) (hb : (getE v).bad = true) :
    Calls Try.prog 6 #[.int .u64 v, .int .u8 z] w fun x w' => x = .returned (.bool true) ∧ Chg [] w w' := by
  have hk64 : z % 64 < 64 := Nat.mod_lt _ (by decide)
  have G1 := fun w => Get_any v w hv
  have G2 := fun w => Get_any (turn v (z % 64)) w (turn_lt v _ hv hk64)
  have hx := turn_word v (z % 64) hv hk64
  have hB : isB (z % 64) = true := by simp [isB]; omega
  have hq := fun w => run_eqE (getE v) (getE v) w
  simp only [eqb_self] at hq
  have hgcs : (getE v).cs = #[.bool (getE v).p, .bool (getE v).w, .bool (getE v).u, .bool (getE v).a, .bool (getE v).d, .bool (getE v).s, .bool (getE v).n, .bool (getE v).bad, .int .i64 (getE v).f] := rfl
  have hhcs : (getE (turn v (z % 64))).cs = #[.bool (getE v).p, .bool (getE v).w, .bool (getE v).u, .bool (getE v).a, .bool (getE v).d, .bool (getE v).s, .bool (getE v).n, .bool (getE (turn v (z % 64))).bad, .int .i64 (getE v).f] := by rw [turn_E v _ hB]; rfl
  rw [hb] at hgcs
  simp only [hgcs] at G1 hq
  simp only [hhcs] at G2
  clear hhcs hB hb
  generalize (getE (turn v (z % 64))).bad = hb at *
  generalize turn v (z % 64) = N at *
  have HgCS := Lib.hid hgcs; clear hgcs
  generalize (getE v).p = gp at *
  generalize (getE v).w = gw at *
  generalize (getE v).u = gu at *
  generalize (getE v).a = ga at *
  generalize (getE v).d = gd at *
  generalize (getE v).s = gs at *
  generalize (getE v).n = gn at *
  generalize (getE v).f = gf at *
  have t3 : ((z : Int) % 64 == 3) = false := by rw [Bool.eq_iff_iff]; simp; omega
  have t4 : ((z : Int) % 64 == 4) = false := by rw [Bool.eq_iff_iff]; simp; omega
  have hf1 := bad_field gp gw gu ga gd gs gn true gf
  have hf2 := bad_field gp gw gu ga gd gs gn hb gf
  go_enter Try.func6, Try.ntmps6
  go_wp2_with fail
  refine (head_any _).mono ?_; rintro x w1 ⟨rfl, hc1⟩
  go_wp2_with fail
  refine (G1 _).mono ?_; rintro x w2 ⟨rfl, hc2⟩
  have hX2 := Blk.new w2 24 #[.bool gp, .bool gw, .bool gu, .bool ga, .bool gd, .bool gs, .bool gn, .bool true, .int .i64 gf]
  have hcX := (hc1.trans hc2 (by simp)).alloc (Obj.cells #[.bool gp, .bool gw, .bool gu, .bool ga, .bool gd, .bool gs, .bool gn, .bool true, .int .i64 gf] 24)
  clear hc1 hc2
  go_wp2_with fail
  generalize w2.heap.size = gx at *
  refine (G2 _).mono ?_; rintro x w3 ⟨rfl, hc3⟩
  have hX3 := hX2.chg_ hc3 (by simp)
  have hcX3 := hcX.trans hc3 (by simp)
  have hX4 := hX3.alloc (Obj.cells #[.bool gp, .bool gw, .bool gu, .bool ga, .bool gd, .bool gs, .bool gn, .bool hb, .int .i64 gf] 24)
  have hX5 := hX3.alloc (Obj.cells #[.bool gp, .bool gw, .bool gu, .bool ga, .bool gd, .bool gs, .bool gn, .bool true, .int .i64 gf] 24)
  clear hX2 hcX hc3 hX3
  obtain ⟨d0, d1, d2, d3, d4, d5, d6, d7, d8⟩ := blk9 hX4
  obtain ⟨e0, e1, e2, e3, e4, e5, e6, e7, e8⟩ := blk9 hX5
  go_wp2_with fail
  refine (G1 _).mono ?_; rintro x w4 ⟨rfl, hc4⟩
  have hc := (hcX3.alloc (Obj.cells #[.bool gp, .bool gw, .bool gu, .bool ga, .bool gd, .bool gs, .bool gn, .bool true, .int .i64 gf] 24)).trans hc4 (by simp)
  go_wp2_with fail
  go_ret
  exact ⟨rfl, hc⟩

set_option maxRecDepth 100000 in
set_option maxHeartbeats 4000000 in
theorem bitsB_32_false (v z : Nat) (w : World) (hv : v < 18446744073709551616) (hz : z ≤ 255) (hk : 32 ≤ z % 64 ∧ z % 64 ≤ 62) (hb : (getE v).bad = false) :
    Calls Try.prog 6 #[.int .u64 v, .int .u8 z] w fun x w' => x = .returned (.bool true) ∧ Chg [] w w' := by
  have hk64 : z % 64 < 64 := Nat.mod_lt _ (by decide)
  have G1 := fun w => Get_any v w hv
  have G2 := fun w => Get_any (turn v (z % 64)) w (turn_lt v _ hv hk64)
  have hx := turn_word v (z % 64) hv hk64
  have hB : isB (z % 64) = true := by simp [isB]; omega
  have hb' := turn_bad' v (z % 64) hB hb
  have hq := fun w => run_eqE (getE v) (getE v) w
  simp only [eqb_self] at hq
  have hgcs : (getE v).cs = #[.bool (getE v).p, .bool (getE v).w, .bool (getE v).u, .bool (getE v).a, .bool (getE v).d, .bool (getE v).s, .bool (getE v).n, .bool (getE v).bad, .int .i64 (getE v).f] := rfl
  have hhcs : (getE (turn v (z % 64))).cs = #[.bool (getE v).p, .bool (getE v).w, .bool (getE v).u, .bool (getE v).a, .bool (getE v).d, .bool (getE v).s, .bool (getE v).n, .bool true, .int .i64 (getE v).f] := by rw [turn_E v _ hB]; rw [hb']; rfl
  rw [hb] at hgcs
  simp only [hgcs] at G1 hq
  simp only [hhcs] at G2
  clear hhcs hB hb hb'
  generalize turn v (z % 64) = N at *
  have HgCS := Lib.hid hgcs; clear hgcs
  generalize (getE v).p = gp at *
  generalize (getE v).w = gw at *
  generalize (getE v).u = gu at *
  generalize (getE v).a = ga at *
  generalize (getE v).d = gd at *
  generalize (getE v).s = gs at *
  generalize (getE v).n = gn at *
  generalize (getE v).f = gf at *
  have t3 : ((z : Int) % 64 == 3) = false := by rw [Bool.eq_iff_iff]; simp; omega
  have t4 : ((z : Int) % 64 == 4) = false := by rw [Bool.eq_iff_iff]; simp; omega
  have hf1 := bad_field gp gw gu ga gd gs gn false gf
  have hf2 := bad_field gp gw gu ga gd gs gn true gf
  go_enter Try.func6, Try.ntmps6
  go_wp2_with fail
  refine (head_any _).mono ?_; rintro x w1 ⟨rfl, hc1⟩
  go_wp2_with fail
  refine (G1 _).mono ?_; rintro x w2 ⟨rfl, hc2⟩
  have hX2 := Blk.new w2 24 #[.bool gp, .bool gw, .bool gu, .bool ga, .bool gd, .bool gs, .bool gn, .bool false, .int .i64 gf]
  have hcX := (hc1.trans hc2 (by simp)).alloc (Obj.cells #[.bool gp, .bool gw, .bool gu, .bool ga, .bool gd, .bool gs, .bool gn, .bool false, .int .i64 gf] 24)
  clear hc1 hc2
  go_wp2_with fail
  generalize w2.heap.size = gx at *
  refine (G2 _).mono ?_; rintro x w3 ⟨rfl, hc3⟩
  have hX3 := hX2.chg_ hc3 (by simp)
  have hcX3 := hcX.trans hc3 (by simp)
  have hX4 := hX3.alloc (Obj.cells #[.bool gp, .bool gw, .bool gu, .bool ga, .bool gd, .bool gs, .bool gn, .bool true, .int .i64 gf] 24)
  have hX5 := hX3.alloc (Obj.cells #[.bool gp, .bool gw, .bool gu, .bool ga, .bool gd, .bool gs, .bool gn, .bool false, .int .i64 gf] 24)
  clear hX2 hcX hc3 hX3
  obtain ⟨d0, d1, d2, d3, d4, d5, d6, d7, d8⟩ := blk9 hX4
  obtain ⟨e0, e1, e2, e3, e4, e5, e6, e7, e8⟩ := blk9 hX5
  go_wp2_with fail
  refine (G1 _).mono ?_; rintro x w4 ⟨rfl, hc4⟩
  have hc := (hcX3.alloc (Obj.cells #[.bool gp, .bool gw, .bool gu, .bool ga, .bool gd, .bool gs, .bool gn, .bool false, .int .i64 gf] 24)).trans hc4 (by simp)
  go_wp2_with fail
  refine (G2 _).mono ?_; rintro x w5 ⟨rfl, hc5⟩
  have hc := hc.trans hc5 (by simp)
  go_wp2_with fail
  go_ret
  exact ⟨rfl, hc⟩

set_option maxRecDepth 100000 in
set_option maxHeartbeats 4000000 in
theorem bitsO_0 (v z : Nat) (w : World) (hv : v < 18446744073709551616) (hz : z ≤ 255) (hk : z % 64 < 3) :
    Calls Try.prog 6 #[.int .u64 v, .int .u8 z] w fun x w' => x = .returned (.bool true) ∧ Chg [] w w' := by
  have hk64 : z % 64 < 64 := Nat.mod_lt _ (by decide)
  have G1 := fun w => Get_any v w hv
  have G2 := fun w => Get_any (turn v (z % 64)) w (turn_lt v _ hv hk64)
  have hx := turn_word v (z % 64) hv hk64
  have hB : isB (z % 64) = false := by simp [isB]; omega
  have hq := fun w => run_neE (getE v) (getE (turn v (z % 64))) w
  simp only [eqb_false (turn_ne v (z % 64) (by omega)), Bool.not_false] at hq
  have hgcs : (getE v).cs = #[.bool (getE v).p, .bool (getE v).w, .bool (getE v).u, .bool (getE v).a, .bool (getE v).d, .bool (getE v).s, .bool (getE v).n, .bool (getE v).bad, .int .i64 (getE v).f] := rfl
  have hhcs : (getE (turn v (z % 64))).cs = #[.bool (getE (turn v (z % 64))).p, .bool (getE (turn v (z % 64))).w, .bool (getE (turn v (z % 64))).u, .bool (getE (turn v (z % 64))).a, .bool (getE (turn v (z % 64))).d, .bool (getE (turn v (z % 64))).s, .bool (getE (turn v (z % 64))).n, .bool (getE (turn v (z % 64))).bad, .int .i64 (getE (turn v (z % 64))).f] := rfl
  rw [turn_bad v _ hB, get_f, turn_frame v _ (by omega), ← get_f] at hhcs
  simp only [hgcs] at G1 hq
  simp only [hhcs] at G2 hq
  clear hB
  have HgCS := Lib.hid hgcs; clear hgcs
  generalize (getE v).p = gp at *
  generalize (getE v).w = gw at *
  generalize (getE v).u = gu at *
  generalize (getE v).a = ga at *
  generalize (getE v).d = gd at *
  generalize (getE v).s = gs at *
  generalize (getE v).n = gn at *
  generalize (getE v).bad = gb at *
  generalize (getE v).f = gf at *
  have HhCS := Lib.hid hhcs; clear hhcs
  generalize (getE (turn v (z % 64))).p = hp at *
  generalize (getE (turn v (z % 64))).w = hw at *
  generalize (getE (turn v (z % 64))).u = hu at *
  generalize (getE (turn v (z % 64))).a = ha at *
  generalize (getE (turn v (z % 64))).d = hd at *
  generalize (getE (turn v (z % 64))).s = hs at *
  generalize (getE (turn v (z % 64))).n = hn at *
  generalize turn v (z % 64) = N at *
  have t3 : ((z : Int) % 64 == 3) = false := by rw [Bool.eq_iff_iff]; simp; omega
  have t4 : ((z : Int) % 64 == 4) = false := by rw [Bool.eq_iff_iff]; simp; omega
  go_enter Try.func6, Try.ntmps6
  go_wp2_with fail
  refine (head_any _).mono ?_; rintro x w1 ⟨rfl, hc1⟩
  go_wp2_with fail
  refine (G1 _).mono ?_; rintro x w2 ⟨rfl, hc2⟩
  have hX2 := Blk.new w2 24 #[.bool gp, .bool gw, .bool gu, .bool ga, .bool gd, .bool gs, .bool gn, .bool gb, .int .i64 gf]
  have hcX := (hc1.trans hc2 (by simp)).alloc (Obj.cells #[.bool gp, .bool gw, .bool gu, .bool ga, .bool gd, .bool gs, .bool gn, .bool gb, .int .i64 gf] 24)
  clear hc1 hc2
  go_wp2_with fail
  generalize w2.heap.size = gx at *
  refine (G2 _).mono ?_; rintro x w3 ⟨rfl, hc3⟩
  have hX3 := hX2.chg_ hc3 (by simp)
  have hcX3 := hcX.trans hc3 (by simp)
  have hX4 := hX3.alloc (Obj.cells #[.bool hp, .bool hw, .bool hu, .bool ha, .bool hd, .bool hs, .bool hn, .bool gb, .int .i64 gf] 24)
  have hX5 := hX3.alloc (Obj.cells #[.bool gp, .bool gw, .bool gu, .bool ga, .bool gd, .bool gs, .bool gn, .bool gb, .int .i64 gf] 24)
  clear hX2 hcX hc3 hX3
  obtain ⟨d0, d1, d2, d3, d4, d5, d6, d7, d8⟩ := blk9 hX4
  obtain ⟨e0, e1, e2, e3, e4, e5, e6, e7, e8⟩ := blk9 hX5
  go_wp2_with fail
  go_ret
  exact ⟨rfl, hcX3.alloc _⟩

set_option maxRecDepth 100000 in
set_option maxHeartbeats 4000000 in
theorem bitsO_5 (v z : Nat) (w : World) (hv : v < 18446744073709551616) (hz : z ≤ 255) (hk : 5 ≤ z % 64 ∧ z % 64 ≤ 7) :
    Calls Try.prog 6 #[.int .u64 v, .int .u8 z] w fun x w' => x = .returned (.bool true) ∧ Chg [] w w' := by
  have hk64 : z % 64 < 64 := Nat.mod_lt _ (by decide)
  have G1 := fun w => Get_any v w hv
  have G2 := fun w => Get_any (turn v (z % 64)) w (turn_lt v _ hv hk64)
  have hx := turn_word v (z % 64) hv hk64
  have hB : isB (z % 64) = false := by simp [isB]; omega
  have hq := fun w => run_neE (getE v) (getE (turn v (z % 64))) w
  simp only [eqb_false (turn_ne v (z % 64) (by omega)), Bool.not_false] at hq
  have hgcs : (getE v).cs = #[.bool (getE v).p, .bool (getE v).w, .bool (getE v).u, .bool (getE v).a, .bool (getE v).d, .bool (getE v).s, .bool (getE v).n, .bool (getE v).bad, .int .i64 (getE v).f] := rfl
  have hhcs : (getE (turn v (z % 64))).cs = #[.bool (getE (turn v (z % 64))).p, .bool (getE (turn v (z % 64))).w, .bool (getE (turn v (z % 64))).u, .bool (getE (turn v (z % 64))).a, .bool (getE (turn v (z % 64))).d, .bool (getE (turn v (z % 64))).s, .bool (getE (turn v (z % 64))).n, .bool (getE (turn v (z % 64))).bad, .int .i64 (getE (turn v (z % 64))).f] := rfl
  rw [turn_bad v _ hB, get_f, turn_frame v _ (by omega), ← get_f] at hhcs
  simp only [hgcs] at G1 hq
  simp only [hhcs] at G2 hq
  clear hB
  have HgCS := Lib.hid hgcs; clear hgcs
  generalize (getE v).p = gp at *
  generalize (getE v).w = gw at *
  generalize (getE v).u = gu at *
  generalize (getE v).a = ga at *
  generalize (getE v).d = gd at *
  generalize (getE v).s = gs at *
  generalize (getE v).n = gn at *
  generalize (getE v).bad = gb at *
  generalize (getE v).f = gf at *
  have HhCS := Lib.hid hhcs; clear hhcs
  generalize (getE (turn v (z % 64))).p = hp at *
  generalize (getE (turn v (z % 64))).w = hw at *
  generalize (getE (turn v (z % 64))).u = hu at *
  generalize (getE (turn v (z % 64))).a = ha at *
  generalize (getE (turn v (z % 64))).d = hd at *
  generalize (getE (turn v (z % 64))).s = hs at *
  generalize (getE (turn v (z % 64))).n = hn at *
  generalize turn v (z % 64) = N at *
  have t3 : ((z : Int) % 64 == 3) = false := by rw [Bool.eq_iff_iff]; simp; omega
  have t4 : ((z : Int) % 64 == 4) = false := by rw [Bool.eq_iff_iff]; simp; omega
  go_enter Try.func6, Try.ntmps6
  go_wp2_with fail
  refine (head_any _).mono ?_; rintro x w1 ⟨rfl, hc1⟩
  go_wp2_with fail
  refine (G1 _).mono ?_; rintro x w2 ⟨rfl, hc2⟩
  have hX2 := Blk.new w2 24 #[.bool gp, .bool gw, .bool gu, .bool ga, .bool gd, .bool gs, .bool gn, .bool gb, .int .i64 gf]
  have hcX := (hc1.trans hc2 (by simp)).alloc (Obj.cells #[.bool gp, .bool gw, .bool gu, .bool ga, .bool gd, .bool gs, .bool gn, .bool gb, .int .i64 gf] 24)
  clear hc1 hc2
  go_wp2_with fail
  generalize w2.heap.size = gx at *
  refine (G2 _).mono ?_; rintro x w3 ⟨rfl, hc3⟩
  have hX3 := hX2.chg_ hc3 (by simp)
  have hcX3 := hcX.trans hc3 (by simp)
  have hX4 := hX3.alloc (Obj.cells #[.bool hp, .bool hw, .bool hu, .bool ha, .bool hd, .bool hs, .bool hn, .bool gb, .int .i64 gf] 24)
  have hX5 := hX3.alloc (Obj.cells #[.bool gp, .bool gw, .bool gu, .bool ga, .bool gd, .bool gs, .bool gn, .bool gb, .int .i64 gf] 24)
  clear hX2 hcX hc3 hX3
  obtain ⟨d0, d1, d2, d3, d4, d5, d6, d7, d8⟩ := blk9 hX4
  obtain ⟨e0, e1, e2, e3, e4, e5, e6, e7, e8⟩ := blk9 hX5
  go_wp2_with fail
  go_ret
  exact ⟨rfl, hcX3.alloc _⟩

set_option maxRecDepth 100000 in
set_option maxHeartbeats 4000000 in
theorem bitsO_63 (v z : Nat) (w : World) (hv : v < 18446744073709551616) (hz : z ≤ 255) (hk : 63 ≤ z % 64 ∧ z % 64 ≤ 63) :
    Calls Try.prog 6 #[.int .u64 v, .int .u8 z] w fun x w' => x = .returned (.bool true) ∧ Chg [] w w' := by
  have hk64 : z % 64 < 64 := Nat.mod_lt _ (by decide)
  have G1 := fun w => Get_any v w hv
  have G2 := fun w => Get_any (turn v (z % 64)) w (turn_lt v _ hv hk64)
  have hx := turn_word v (z % 64) hv hk64
  have hB : isB (z % 64) = false := by simp [isB]; omega
  have hq := fun w => run_neE (getE v) (getE (turn v (z % 64))) w
  simp only [eqb_false (turn_ne v (z % 64) (by omega)), Bool.not_false] at hq
  have hgcs : (getE v).cs = #[.bool (getE v).p, .bool (getE v).w, .bool (getE v).u, .bool (getE v).a, .bool (getE v).d, .bool (getE v).s, .bool (getE v).n, .bool (getE v).bad, .int .i64 (getE v).f] := rfl
  have hhcs : (getE (turn v (z % 64))).cs = #[.bool (getE (turn v (z % 64))).p, .bool (getE (turn v (z % 64))).w, .bool (getE (turn v (z % 64))).u, .bool (getE (turn v (z % 64))).a, .bool (getE (turn v (z % 64))).d, .bool (getE (turn v (z % 64))).s, .bool (getE (turn v (z % 64))).n, .bool (getE (turn v (z % 64))).bad, .int .i64 (getE (turn v (z % 64))).f] := rfl
  rw [turn_bad v _ hB, get_f, turn_frame v _ (by omega), ← get_f] at hhcs
  simp only [hgcs] at G1 hq
  simp only [hhcs] at G2 hq
  clear hB
  have HgCS := Lib.hid hgcs; clear hgcs
  generalize (getE v).p = gp at *
  generalize (getE v).w = gw at *
  generalize (getE v).u = gu at *
  generalize (getE v).a = ga at *
  generalize (getE v).d = gd at *
  generalize (getE v).s = gs at *
  generalize (getE v).n = gn at *
  generalize (getE v).bad = gb at *
  generalize (getE v).f = gf at *
  have HhCS := Lib.hid hhcs; clear hhcs
  generalize (getE (turn v (z % 64))).p = hp at *
  generalize (getE (turn v (z % 64))).w = hw at *
  generalize (getE (turn v (z % 64))).u = hu at *
  generalize (getE (turn v (z % 64))).a = ha at *
  generalize (getE (turn v (z % 64))).d = hd at *
  generalize (getE (turn v (z % 64))).s = hs at *
  generalize (getE (turn v (z % 64))).n = hn at *
  generalize turn v (z % 64) = N at *
  have t3 : ((z : Int) % 64 == 3) = false := by rw [Bool.eq_iff_iff]; simp; omega
  have t4 : ((z : Int) % 64 == 4) = false := by rw [Bool.eq_iff_iff]; simp; omega
  go_enter Try.func6, Try.ntmps6
  go_wp2_with fail
  refine (head_any _).mono ?_; rintro x w1 ⟨rfl, hc1⟩
  go_wp2_with fail
  refine (G1 _).mono ?_; rintro x w2 ⟨rfl, hc2⟩
  have hX2 := Blk.new w2 24 #[.bool gp, .bool gw, .bool gu, .bool ga, .bool gd, .bool gs, .bool gn, .bool gb, .int .i64 gf]
  have hcX := (hc1.trans hc2 (by simp)).alloc (Obj.cells #[.bool gp, .bool gw, .bool gu, .bool ga, .bool gd, .bool gs, .bool gn, .bool gb, .int .i64 gf] 24)
  clear hc1 hc2
  go_wp2_with fail
  generalize w2.heap.size = gx at *
  refine (G2 _).mono ?_; rintro x w3 ⟨rfl, hc3⟩
  have hX3 := hX2.chg_ hc3 (by simp)
  have hcX3 := hcX.trans hc3 (by simp)
  have hX4 := hX3.alloc (Obj.cells #[.bool hp, .bool hw, .bool hu, .bool ha, .bool hd, .bool hs, .bool hn, .bool gb, .int .i64 gf] 24)
  have hX5 := hX3.alloc (Obj.cells #[.bool gp, .bool gw, .bool gu, .bool ga, .bool gd, .bool gs, .bool gn, .bool gb, .int .i64 gf] 24)
  clear hX2 hcX hc3 hX3
  obtain ⟨d0, d1, d2, d3, d4, d5, d6, d7, d8⟩ := blk9 hX4
  obtain ⟨e0, e1, e2, e3, e4, e5, e6, e7, e8⟩ := blk9 hX5
  go_wp2_with fail
  go_ret
  exact ⟨rfl, hcX3.alloc _⟩

theorem i64_xor_nat (a b : Nat) (ha : a < 9223372036854775808) (hb : b < 9223372036854775808) : bits .xor .i64 (a : Int) (b : Int) = ((a ^^^ b : Nat) : Int) := by
  have hx : a ^^^ b < 2 ^ 63 := Nat.xor_lt_two_pow (by omega) (by omega)
  show IntKind.i64.wrap ((BitVec.ofInt 64 (a : Int) ^^^ BitVec.ofInt 64 (b : Int)).toNat : Int) = _
  rw [BitVec.toNat_xor, ofInt_u64 a (by omega), ofInt_u64 b (by omega), IntKind.wrap_i64]
  omega
set_option maxRecDepth 100000 in
set_option maxHeartbeats 4000000 in
theorem bitsF (v z : Nat) (w : World) (hv : v < 18446744073709551616) (hz : z ≤ 255) (hk : 12 ≤ z % 64 ∧ z % 64 ≤ 31) :
    Calls Try.prog 6 #[.int .u64 v, .int .u8 z] w fun x w' => x = .returned (.bool true) ∧ Chg [] w w' := by
  have hk64 : z % 64 < 64 := Nat.mod_lt _ (by decide)
  have G1 := fun w => Get_any v w hv
  have G2 := fun w => Get_any (turn v (z % 64)) w (turn_lt v _ hv hk64)
  have hx := turn_word v (z % 64) hv hk64
  have hB : isB (z % 64) = false := by simp [isB]; omega
  have hfr := turn_frame' v (z % 64) (by omega)
  have hxx : bits .xor .i64 (frameN v : Nat) (frameN (turn v (z % 64)) : Nat) = 2 ^ (z % 64 - 12) := by
    have h1 := frameN_lt v
    have h2 := frameN_lt (turn v (z % 64))
    rw [i64_xor_nat _ _ (by omega) (by omega), hfr, ← Nat.xor_assoc, Nat.xor_self, Nat.zero_xor]; simp
  have hgcs : (getE v).cs = #[.bool (getE v).p, .bool (getE v).w, .bool (getE v).u, .bool (getE v).a, .bool (getE v).d, .bool (getE v).s, .bool (getE v).n, .bool (getE v).bad, .int .i64 (getE v).f] := rfl
  have hhcs : (getE (turn v (z % 64))).cs = #[.bool (getE (turn v (z % 64))).p, .bool (getE (turn v (z % 64))).w, .bool (getE (turn v (z % 64))).u, .bool (getE (turn v (z % 64))).a, .bool (getE (turn v (z % 64))).d, .bool (getE (turn v (z % 64))).s, .bool (getE (turn v (z % 64))).n, .bool (getE (turn v (z % 64))).bad, .int .i64 (getE (turn v (z % 64))).f] := rfl
  rw [turn_bad v _ hB, get_f, get_p, turn_same v _ 0 (by omega), ← get_p, get_n, turn_same v _ 63 (by omega), ← get_n] at hhcs
  rw [get_f] at hgcs
  simp only [hgcs] at G1
  simp only [hhcs] at G2
  clear hB hfr
  have HgCS := Lib.hid hgcs; clear hgcs
  generalize (getE v).p = gp at *
  generalize (getE v).w = gw at *
  generalize (getE v).u = gu at *
  generalize (getE v).a = ga at *
  generalize (getE v).d = gd at *
  generalize (getE v).s = gs at *
  generalize (getE v).n = gn at *
  generalize (getE v).bad = gb at *
  generalize frameN v = fv at *
  have HhCS := Lib.hid hhcs; clear hhcs
  generalize (getE (turn v (z % 64))).w = hw at *
  generalize (getE (turn v (z % 64))).u = hu at *
  generalize (getE (turn v (z % 64))).a = ha at *
  generalize (getE (turn v (z % 64))).d = hd at *
  generalize (getE (turn v (z % 64))).s = hs at *
  generalize frameN (turn v (z % 64)) = fx at *
  generalize turn v (z % 64) = N at *
  have t3 : ((z : Int) % 64 == 3) = false := by rw [Bool.eq_iff_iff]; simp; omega
  have t4 : ((z : Int) % 64 == 4) = false := by rw [Bool.eq_iff_iff]; simp; omega
  have hnn2 : 0 ≤ (z : Int) % 64 - 12 := by omega
  have hw64 : wrap64 (2 ^ (z % 64 - 12)) = 2 ^ (z % 64 - 12) := by
    have h2 : 2 ^ (z % 64 - 12) < 2 ^ 20 := Nat.pow_lt_pow_right (by decide) (by omega)
    rw [show (2 : Int) ^ (z % 64 - 12) = ((2 ^ (z % 64 - 12) : Nat) : Int) by simp]
    generalize 2 ^ (z % 64 - 12) = q at h2 ⊢
    unfold wrap64; omega
  go_enter Try.func6, Try.ntmps6
  go_wp2_with fail
  refine (head_any _).mono ?_; rintro x w1 ⟨rfl, hc1⟩
  go_wp2_with fail
  refine (G1 _).mono ?_; rintro x w2 ⟨rfl, hc2⟩
  have hX2 := Blk.new w2 24 #[.bool gp, .bool gw, .bool gu, .bool ga, .bool gd, .bool gs, .bool gn, .bool gb, .int .i64 (fv : Nat)]
  have hcX := (hc1.trans hc2 (by simp)).alloc (Obj.cells #[.bool gp, .bool gw, .bool gu, .bool ga, .bool gd, .bool gs, .bool gn, .bool gb, .int .i64 (fv : Nat)] 24)
  clear hc1 hc2
  go_wp2_with fail
  generalize w2.heap.size = gx at *
  refine (G2 _).mono ?_; rintro x w3 ⟨rfl, hc3⟩
  have hX3 := hX2.chg_ hc3 (by simp)
  have hcX3 := hcX.trans hc3 (by simp)
  have hX4 := hX3.alloc (Obj.cells #[.bool gp, .bool hw, .bool hu, .bool ha, .bool hd, .bool hs, .bool gn, .bool gb, .int .i64 (fx : Nat)] 24)
  have hX5 := hX3.alloc (Obj.cells #[.bool gp, .bool gw, .bool gu, .bool ga, .bool gd, .bool gs, .bool gn, .bool gb, .int .i64 (fv : Nat)] 24)
  clear hX2 hcX hc3 hX3
  obtain ⟨d0, d1, d2, d3, d4, d5, d6, d7, d8⟩ := blk9 hX4
  obtain ⟨e0, e1, e2, e3, e4, e5, e6, e7, e8⟩ := blk9 hX5
  go_wp2_with fail
  go_quiet (fail)
  go_wp2_with fail
  go_ret
  exact ⟨rfl, (hcX3.alloc _).drewN _⟩

theorem PteBits_at (v z : Nat) (w : World) (hv : v < 18446744073709551616) (hz : z ≤ 255) :
    Calls Try.prog 6 #[.int .u64 v, .int .u8 z] w fun x w' => x = .returned (.bool true) ∧ Chg [] w w' := by
  have hk64 : z % 64 < 64 := Nat.mod_lt _ (by decide)
  rcases (by omega : z % 64 < 3 ∨ (3 ≤ z % 64 ∧ z % 64 ≤ 3) ∨ (4 ≤ z % 64 ∧ z % 64 ≤ 4) ∨ (5 ≤ z % 64 ∧ z % 64 ≤ 7) ∨ (8 ≤ z % 64 ∧ z % 64 ≤ 11) ∨ (12 ≤ z % 64 ∧ z % 64 ≤ 31) ∨ (32 ≤ z % 64 ∧ z % 64 ≤ 62) ∨ (63 ≤ z % 64 ∧ z % 64 ≤ 63)) with h | h | h | h | h | h | h | h
  · exact bitsO_0 v z w hv hz h
  · cases hb : (getE v).bad
    · exact bitsB_3_false v z w hv hz h hb
    · exact bitsB_3_true v z w hv hz h hb
  · cases hb : (getE v).bad
    · exact bitsB_4_false v z w hv hz h hb
    · exact bitsB_4_true v z w hv hz h hb
  · exact bitsO_5 v z w hv hz h
  · cases hb : (getE v).bad
    · exact bitsB_8_false v z w hv hz h hb
    · exact bitsB_8_true v z w hv hz h hb
  · exact bitsF v z w hv hz h
  · cases hb : (getE v).bad
    · exact bitsB_32_false v z w hv hz h hb
    · exact bitsB_32_true v z w hv hz h hb
  · exact bitsO_63 v z w hv hz h

end Go.Proofs.Ytgmdnglododhfaa
