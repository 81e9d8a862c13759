/-
  PteUsed: the walk.
-/
import Derived.Test.YtgmdnglododhfaaPteHead
namespace Go.Proofs.Ytgmdnglododhfaa
open Go.RowKit

theorem used_bit (v : Nat) (t : Bool) (i : Nat) : (usedN v t).testBit i = (v.testBit i || (decide (5 = i) || (t && decide (6 = i)))) := by
  unfold usedN
  rw [show (32 : Nat) = 2 ^ 5 by decide, show (64 : Nat) = 2 ^ 6 by decide, Nat.testBit_or, Nat.testBit_two_pow]
  cases t
  · simp
  · simp only [if_true, Nat.testBit_or, Nat.testBit_two_pow, Bool.true_and]
    cases v.testBit i <;> cases decide (5 = i) <;> cases decide (6 = i) <;> rfl
theorem get_used (v : Nat) (t : Bool) : getE (usedN v t) = { getE v with a := true, d := (getE v).d || t } := by
  refine Ent.ext_ ?_ ?_ ?_ ?_ ?_ ?_ ?_ ?_ ?_
  · show _ = (getE v).p; rw [get_p, get_p, used_bit]; simp
  · show _ = (getE v).w; rw [get_w, get_w, used_bit]; simp
  · show _ = (getE v).u; rw [get_u, get_u, used_bit]; simp
  · show _ = true; rw [get_a, used_bit]; simp
  · show _ = ((getE v).d || t); rw [get_d, get_d, used_bit]; simp
  · show _ = (getE v).s; rw [get_s, get_s, used_bit]; simp
  · show _ = (getE v).n; rw [get_n, get_n, used_bit]; simp
  · show _ = (getE v).bad
    have h : ∀ i, isB i = true → (usedN v t).testBit i = v.testBit i := fun i hi => by
      have : ¬ 5 = i ∧ ¬ 6 = i := by simp [isB] at hi; omega
      rw [used_bit, decide_eq_false this.1, decide_eq_false this.2]; simp
    rw [Bool.eq_iff_iff, bad_iff, bad_iff]
    constructor
    · rintro ⟨i, h1, h2⟩; exact ⟨i, h1, by rw [← h i h1]; exact h2⟩
    · rintro ⟨i, h1, h2⟩; exact ⟨i, h1, by rw [h i h1]; exact h2⟩
  · show _ = (getE v).f
    rw [get_f, get_f]
    have : frameN (usedN v t) = frameN v := by
      apply Nat.eq_of_testBit_eq
      intro j
      rw [frameN_bit, frameN_bit, used_bit, decide_eq_false (show ¬ 5 = j + 12 by omega), decide_eq_false (show ¬ 6 = j + 12 by omega)]; simp
    rw [this]
theorem used_or (v : Nat) (t : Bool) : usedN v t ||| 96 = v ||| 96 := by
  apply Nat.eq_of_testBit_eq
  intro i
  have h : (96 : Nat) = 2 ^ 5 ||| 2 ^ 6 := by decide
  rw [Nat.testBit_or, Nat.testBit_or, used_bit, h, Nat.testBit_or, Nat.testBit_two_pow, Nat.testBit_two_pow]
  cases v.testBit i <;> cases t <;> cases decide (5 = i) <;> cases decide (6 = i) <;> rfl
theorem used_and (v : Nat) (t : Bool) : usedN v t &&& v = v := by
  apply Nat.eq_of_testBit_eq
  intro i
  rw [Nat.testBit_and, used_bit]
  cases v.testBit i <;> simp
theorem used_again (v : Nat) (t : Bool) : usedN (usedN v t) t = usedN v t := by
  apply Nat.eq_of_testBit_eq
  intro i
  rw [used_bit, used_bit]
  cases v.testBit i <;> cases t <;> cases decide (5 = i) <;> cases decide (6 = i) <;> rfl
theorem used_plain (v : Nat) (t : Bool) : usedN (usedN v t) false = usedN v t := by
  apply Nat.eq_of_testBit_eq
  intro i
  rw [used_bit, used_bit]
  cases v.testBit i <;> cases t <;> cases decide (5 = i) <;> cases decide (6 = i) <;> rfl

set_option maxRecDepth 100000 in
set_option maxHeartbeats 4000000 in
theorem used_false_false (v : Nat) (w : World) (hv : v < 18446744073709551616) (hd : (getE v).d = false) :
    Calls Try.prog 5 #[.int .u64 v, .bool false] w fun x w' => x = .returned (.bool true) ∧ Chg [] w w' := by
  have hN := usedN_lt false hv
  have U1 := fun w => Used_at v false w hv
  have U2 := fun w => Used_at (usedN v false) false w hN
  have U3 := fun w => Used_at (usedN v false) false w hN
  simp only [used_again, used_plain] at U2 U3
  have G1 := fun w => Get_any v w hv
  have G2 := fun w => Get_any (usedN v false) w hN
  simp only [get_used] at G2
  have hq := fun w => run_eqE { getE v with a := true, d := (getE v).d || false } { getE v with a := true, d := (getE v).d || false } w
  simp only [eqb_self] at hq
  have ho1 : bits .or .u64 (usedN v false : Nat) 96 = (v ||| 96 : Nat) := by rw [← used_or v false]; exact u64_or_nat (usedN v false) 96 hN (by decide)
  have ho2 : bits .or .u64 (v : Int) 96 = (v ||| 96 : Nat) := u64_or_nat v 96 hv (by decide)
  have ho3 : bits .and .u64 (usedN v false : Nat) (v : Int) = v := by
    have := u64_and_nat (usedN v false) v hN hv
    rwa [used_and] at this
  generalize usedN v false = N at *
  generalize v ||| 96 = M at *
  have hgcs : (getE v).cs = #[.bool (getE v).p, .bool (getE v).w, .bool (getE v).u, .bool (getE v).a, .bool (getE v).d, .bool (getE v).s, .bool (getE v).n, .bool (getE v).bad, .int .i64 (getE v).f] := rfl
  have hxcs : Ent.cs { getE v with a := true, d := (getE v).d || false } = #[.bool (getE v).p, .bool (getE v).w, .bool (getE v).u, .bool true, .bool false, .bool (getE v).s, .bool (getE v).n, .bool (getE v).bad, .int .i64 (getE v).f] := by rw [hd]; rfl
  rw [hd] at hgcs
  simp only [hxcs] at G2 hq
  simp only [hgcs] at G1
  clear hxcs hd hN
  have HgCS := Lib.hid hgcs; clear hgcs
  generalize (getE v).p = gp at *
  generalize (getE v).w = gw at *
  generalize (getE v).u = gu at *
  generalize (getE v).a = ga at *
  generalize (getE v).s = gs at *
  generalize (getE v).n = gn at *
  generalize (getE v).bad = gb at *
  generalize (getE v).f = gf at *
  go_enter Try.func5, Try.ntmps5
  go_wp2_with fail
  refine (head_any _).mono ?_; rintro x w1 ⟨rfl, hc1⟩
  go_wp2_with fail
  refine (U1 _).mono ?_; rintro x w2 ⟨rfl, rfl⟩
  go_wp2_with fail
  refine (G1 _).mono ?_; rintro x w2 ⟨rfl, hc2⟩
  have hX2 := Blk.new w2 24 #[.bool gp, .bool gw, .bool gu, .bool ga, .bool false, .bool gs, .bool gn, .bool gb, .int .i64 gf]
  have hcX := (hc1.trans hc2 (by simp)).alloc (Obj.cells #[.bool gp, .bool gw, .bool gu, .bool ga, .bool false, .bool gs, .bool gn, .bool gb, .int .i64 gf] 24)
  clear hc1 hc2
  go_wp2_with fail
  generalize w2.heap.size = gx at *
  refine (G2 _).mono ?_; rintro x w3 ⟨rfl, hc3⟩
  have hX3 := hX2.chg_ hc3 (by simp)
  have hcX3 := hcX.trans hc3 (by simp)
  have hX4 := hX3.alloc (Obj.cells #[.bool gp, .bool gw, .bool gu, .bool true, .bool false, .bool gs, .bool gn, .bool gb, .int .i64 gf] 24)
  have hY4 := Blk.new w3 24 #[.bool gp, .bool gw, .bool gu, .bool true, .bool false, .bool gs, .bool gn, .bool gb, .int .i64 gf]
  have hcX4 := hcX3.alloc (Obj.cells #[.bool gp, .bool gw, .bool gu, .bool true, .bool false, .bool gs, .bool gn, .bool gb, .int .i64 gf] 24)
  clear hX2 hcX hc3 hX3 hcX3
  obtain ⟨d0, d1, d2, d3, d4, d5, d6, d7, d8⟩ := blk9 hX4
  have d9 := (hX4.alloc (Obj.cells #[.bool gp, .bool gw, .bool gu, .bool true, .bool false, .bool gs, .bool gn, .bool gb, .int .i64 gf] 24)).cell 4
  simp at d9
  go_wp2_with fail
  refine (U2 _).mono ?_; rintro x w5 ⟨rfl, rfl⟩
  go_wp2_with fail
  refine (U3 _).mono ?_; rintro x w5 ⟨rfl, rfl⟩
  go_wp2_with fail
  go_ret
  exact ⟨rfl, hcX4.alloc _⟩

set_option maxRecDepth 100000 in
set_option maxHeartbeats 4000000 in
theorem used_false_true (v : Nat) (w : World) (hv : v < 18446744073709551616) (hd : (getE v).d = false) :
    Calls Try.prog 5 #[.int .u64 v, .bool true] w fun x w' => x = .returned (.bool true) ∧ Chg [] w w' := by
  have hN := usedN_lt true hv
  have U1 := fun w => Used_at v true w hv
  have U2 := fun w => Used_at (usedN v true) true w hN
  have U3 := fun w => Used_at (usedN v true) false w hN
  simp only [used_again, used_plain] at U2 U3
  have G1 := fun w => Get_any v w hv
  have G2 := fun w => Get_any (usedN v true) w hN
  simp only [get_used] at G2
  have hq := fun w => run_eqE { getE v with a := true, d := (getE v).d || true } { getE v with a := true, d := (getE v).d || true } w
  simp only [eqb_self] at hq
  have ho1 : bits .or .u64 (usedN v true : Nat) 96 = (v ||| 96 : Nat) := by rw [← used_or v true]; exact u64_or_nat (usedN v true) 96 hN (by decide)
  have ho2 : bits .or .u64 (v : Int) 96 = (v ||| 96 : Nat) := u64_or_nat v 96 hv (by decide)
  have ho3 : bits .and .u64 (usedN v true : Nat) (v : Int) = v := by
    have := u64_and_nat (usedN v true) v hN hv
    rwa [used_and] at this
  generalize usedN v true = N at *
  generalize v ||| 96 = M at *
  have hgcs : (getE v).cs = #[.bool (getE v).p, .bool (getE v).w, .bool (getE v).u, .bool (getE v).a, .bool (getE v).d, .bool (getE v).s, .bool (getE v).n, .bool (getE v).bad, .int .i64 (getE v).f] := rfl
  have hxcs : Ent.cs { getE v with a := true, d := (getE v).d || true } = #[.bool (getE v).p, .bool (getE v).w, .bool (getE v).u, .bool true, .bool true, .bool (getE v).s, .bool (getE v).n, .bool (getE v).bad, .int .i64 (getE v).f] := by rw [hd]; rfl
  rw [hd] at hgcs
  simp only [hxcs] at G2 hq
  simp only [hgcs] at G1
  clear hxcs hd hN
  have HgCS := Lib.hid hgcs; clear hgcs
  generalize (getE v).p = gp at *
  generalize (getE v).w = gw at *
  generalize (getE v).u = gu at *
  generalize (getE v).a = ga at *
  generalize (getE v).s = gs at *
  generalize (getE v).n = gn at *
  generalize (getE v).bad = gb at *
  generalize (getE v).f = gf at *
  go_enter Try.func5, Try.ntmps5
  go_wp2_with fail
  refine (head_any _).mono ?_; rintro x w1 ⟨rfl, hc1⟩
  go_wp2_with fail
  refine (U1 _).mono ?_; rintro x w2 ⟨rfl, rfl⟩
  go_wp2_with fail
  refine (G1 _).mono ?_; rintro x w2 ⟨rfl, hc2⟩
  have hX2 := Blk.new w2 24 #[.bool gp, .bool gw, .bool gu, .bool ga, .bool false, .bool gs, .bool gn, .bool gb, .int .i64 gf]
  have hcX := (hc1.trans hc2 (by simp)).alloc (Obj.cells #[.bool gp, .bool gw, .bool gu, .bool ga, .bool false, .bool gs, .bool gn, .bool gb, .int .i64 gf] 24)
  clear hc1 hc2
  go_wp2_with fail
  generalize w2.heap.size = gx at *
  refine (G2 _).mono ?_; rintro x w3 ⟨rfl, hc3⟩
  have hX3 := hX2.chg_ hc3 (by simp)
  have hcX3 := hcX.trans hc3 (by simp)
  have hX4 := hX3.alloc (Obj.cells #[.bool gp, .bool gw, .bool gu, .bool true, .bool true, .bool gs, .bool gn, .bool gb, .int .i64 gf] 24)
  have hY4 := Blk.new w3 24 #[.bool gp, .bool gw, .bool gu, .bool true, .bool true, .bool gs, .bool gn, .bool gb, .int .i64 gf]
  have hcX4 := hcX3.alloc (Obj.cells #[.bool gp, .bool gw, .bool gu, .bool true, .bool true, .bool gs, .bool gn, .bool gb, .int .i64 gf] 24)
  clear hX2 hcX hc3 hX3 hcX3
  obtain ⟨d0, d1, d2, d3, d4, d5, d6, d7, d8⟩ := blk9 hX4
  have d9 := (hX4.alloc (Obj.cells #[.bool gp, .bool gw, .bool gu, .bool true, .bool false, .bool gs, .bool gn, .bool gb, .int .i64 gf] 24)).cell 4
  simp at d9
  go_wp2_with fail
  refine (U2 _).mono ?_; rintro x w5 ⟨rfl, rfl⟩
  go_wp2_with fail
  refine (U3 _).mono ?_; rintro x w5 ⟨rfl, rfl⟩
  go_wp2_with fail
  go_ret
  exact ⟨rfl, hcX4.alloc _⟩

set_option maxRecDepth 100000 in
set_option maxHeartbeats 4000000 in
theorem used_true_false (v : Nat) (w : World) (hv : v < 18446744073709551616) (hd : (getE v).d = true) :
    Calls Try.prog 5 #[.int .u64 v, .bool false] w fun x w' => x = .returned (.bool true) ∧ Chg [] w w' := by
  have hN := usedN_lt false hv
  have U1 := fun w => Used_at v false w hv
  have U2 := fun w => Used_at (usedN v false) false w hN
  have U3 := fun w => Used_at (usedN v false) false w hN
  simp only [used_again, used_plain] at U2 U3
  have G1 := fun w => Get_any v w hv
  have G2 := fun w => Get_any (usedN v false) w hN
  simp only [get_used] at G2
  have hq := fun w => run_eqE { getE v with a := true, d := (getE v).d || false } { getE v with a := true, d := (getE v).d || false } w
  simp only [eqb_self] at hq
  have ho1 : bits .or .u64 (usedN v false : Nat) 96 = (v ||| 96 : Nat) := by rw [← used_or v false]; exact u64_or_nat (usedN v false) 96 hN (by decide)
  have ho2 : bits .or .u64 (v : Int) 96 = (v ||| 96 : Nat) := u64_or_nat v 96 hv (by decide)
  have ho3 : bits .and .u64 (usedN v false : Nat) (v : Int) = v := by
    have := u64_and_nat (usedN v false) v hN hv
    rwa [used_and] at this
  generalize usedN v false = N at *
  generalize v ||| 96 = M at *
  have hgcs : (getE v).cs = #[.bool (getE v).p, .bool (getE v).w, .bool (getE v).u, .bool (getE v).a, .bool (getE v).d, .bool (getE v).s, .bool (getE v).n, .bool (getE v).bad, .int .i64 (getE v).f] := rfl
  have hxcs : Ent.cs { getE v with a := true, d := (getE v).d || false } = #[.bool (getE v).p, .bool (getE v).w, .bool (getE v).u, .bool true, .bool true, .bool (getE v).s, .bool (getE v).n, .bool (getE v).bad, .int .i64 (getE v).f] := by rw [hd]; rfl
  rw [hd] at hgcs
  simp only [hxcs] at G2 hq
  simp only [hgcs] at G1
  clear hxcs hd hN
  have HgCS := Lib.hid hgcs; clear hgcs
  generalize (getE v).p = gp at *
  generalize (getE v).w = gw at *
  generalize (getE v).u = gu at *
  generalize (getE v).a = ga at *
  generalize (getE v).s = gs at *
  generalize (getE v).n = gn at *
  generalize (getE v).bad = gb at *
  generalize (getE v).f = gf at *
  go_enter Try.func5, Try.ntmps5
  go_wp2_with fail
  refine (head_any _).mono ?_; rintro x w1 ⟨rfl, hc1⟩
  go_wp2_with fail
  refine (U1 _).mono ?_; rintro x w2 ⟨rfl, rfl⟩
  go_wp2_with fail
  refine (G1 _).mono ?_; rintro x w2 ⟨rfl, hc2⟩
  have hX2 := Blk.new w2 24 #[.bool gp, .bool gw, .bool gu, .bool ga, .bool true, .bool gs, .bool gn, .bool gb, .int .i64 gf]
  have hcX := (hc1.trans hc2 (by simp)).alloc (Obj.cells #[.bool gp, .bool gw, .bool gu, .bool ga, .bool true, .bool gs, .bool gn, .bool gb, .int .i64 gf] 24)
  clear hc1 hc2
  go_wp2_with fail
  generalize w2.heap.size = gx at *
  refine (G2 _).mono ?_; rintro x w3 ⟨rfl, hc3⟩
  have hX3 := hX2.chg_ hc3 (by simp)
  have hcX3 := hcX.trans hc3 (by simp)
  have hX4 := hX3.alloc (Obj.cells #[.bool gp, .bool gw, .bool gu, .bool true, .bool true, .bool gs, .bool gn, .bool gb, .int .i64 gf] 24)
  have hY4 := Blk.new w3 24 #[.bool gp, .bool gw, .bool gu, .bool true, .bool true, .bool gs, .bool gn, .bool gb, .int .i64 gf]
  have hcX4 := hcX3.alloc (Obj.cells #[.bool gp, .bool gw, .bool gu, .bool true, .bool true, .bool gs, .bool gn, .bool gb, .int .i64 gf] 24)
  clear hX2 hcX hc3 hX3 hcX3
  obtain ⟨d0, d1, d2, d3, d4, d5, d6, d7, d8⟩ := blk9 hX4
  have d9 := (hX4.alloc (Obj.cells #[.bool gp, .bool gw, .bool gu, .bool true, .bool true, .bool gs, .bool gn, .bool gb, .int .i64 gf] 24)).cell 4
  simp at d9
  go_wp2_with fail
  refine (U2 _).mono ?_; rintro x w5 ⟨rfl, rfl⟩
  go_wp2_with fail
  refine (U3 _).mono ?_; rintro x w5 ⟨rfl, rfl⟩
  go_wp2_with fail
  go_ret
  exact ⟨rfl, hcX4.alloc _⟩

set_option maxRecDepth 100000 in
set_option maxHeartbeats 4000000 in
theorem used_true_true (v : Nat) (w : World) (hv : v < 18446744073709551616) (hd : (getE v).d = true) :
    Calls Try.prog 5 #[.int .u64 v, .bool true] w fun x w' => x = .returned (.bool true) ∧ Chg [] w w' := by
  have hN := usedN_lt true hv
  have U1 := fun w => Used_at v true w hv
  have U2 := fun w => Used_at (usedN v true) true w hN
  have U3 := fun w => Used_at (usedN v true) false w hN
  simp only [used_again, used_plain] at U2 U3
  have G1 := fun w => Get_any v w hv
  have G2 := fun w => Get_any (usedN v true) w hN
  simp only [get_used] at G2
  have hq := fun w => run_eqE { getE v with a := true, d := (getE v).d || true } { getE v with a := true, d := (getE v).d || true } w
  simp only [eqb_self] at hq
  have ho1 : bits .or .u64 (usedN v true : Nat) 96 = (v ||| 96 : Nat) := by rw [← used_or v true]; exact u64_or_nat (usedN v true) 96 hN (by decide)
  have ho2 : bits .or .u64 (v : Int) 96 = (v ||| 96 : Nat) := u64_or_nat v 96 hv (by decide)
  have ho3 : bits .and .u64 (usedN v true : Nat) (v : Int) = v := by
    have := u64_and_nat (usedN v true) v hN hv
    rwa [used_and] at this
  generalize usedN v true = N at *
  generalize v ||| 96 = M at *
  have hgcs : (getE v).cs = #[.bool (getE v).p, .bool (getE v).w, .bool (getE v).u, .bool (getE v).a, .bool (getE v).d, .bool (getE v).s, .bool (getE v).n, .bool (getE v).bad, .int .i64 (getE v).f] := rfl
  have hxcs : Ent.cs { getE v with a := true, d := (getE v).d || true } = #[.bool (getE v).p, .bool (getE v).w, .bool (getE v).u, .bool true, .bool true, .bool (getE v).s, .bool (getE v).n, .bool (getE v).bad, .int .i64 (getE v).f] := by rw [hd]; rfl
  rw [hd] at hgcs
  simp only [hxcs] at G2 hq
  simp only [hgcs] at G1
  clear hxcs hd hN
  have HgCS := Lib.hid hgcs; clear hgcs
  generalize (getE v).p = gp at *
  generalize (getE v).w = gw at *
  generalize (getE v).u = gu at *
  generalize (getE v).a = ga at *
  generalize (getE v).s = gs at *
  generalize (getE v).n = gn at *
  generalize (getE v).bad = gb at *
  generalize (getE v).f = gf at *
  go_enter Try.func5, Try.ntmps5
  go_wp2_with fail
  refine (head_any _).mono ?_; rintro x w1 ⟨rfl, hc1⟩
  go_wp2_with fail
  refine (U1 _).mono ?_; rintro x w2 ⟨rfl, rfl⟩
  go_wp2_with fail
  refine (G1 _).mono ?_; rintro x w2 ⟨rfl, hc2⟩
  have hX2 := Blk.new w2 24 #[.bool gp, .bool gw, .bool gu, .bool ga, .bool true, .bool gs, .bool gn, .bool gb, .int .i64 gf]
  have hcX := (hc1.trans hc2 (by simp)).alloc (Obj.cells #[.bool gp, .bool gw, .bool gu, .bool ga, .bool true, .bool gs, .bool gn, .bool gb, .int .i64 gf] 24)
  clear hc1 hc2
  go_wp2_with fail
  generalize w2.heap.size = gx at *
  refine (G2 _).mono ?_; rintro x w3 ⟨rfl, hc3⟩
  have hX3 := hX2.chg_ hc3 (by simp)
  have hcX3 := hcX.trans hc3 (by simp)
  have hX4 := hX3.alloc (Obj.cells #[.bool gp, .bool gw, .bool gu, .bool true, .bool true, .bool gs, .bool gn, .bool gb, .int .i64 gf] 24)
  have hY4 := Blk.new w3 24 #[.bool gp, .bool gw, .bool gu, .bool true, .bool true, .bool gs, .bool gn, .bool gb, .int .i64 gf]
  have hcX4 := hcX3.alloc (Obj.cells #[.bool gp, .bool gw, .bool gu, .bool true, .bool true, .bool gs, .bool gn, .bool gb, .int .i64 gf] 24)
  clear hX2 hcX hc3 hX3 hcX3
  obtain ⟨d0, d1, d2, d3, d4, d5, d6, d7, d8⟩ := blk9 hX4
  have d9 := (hX4.alloc (Obj.cells #[.bool gp, .bool gw, .bool gu, .bool true, .bool true, .bool gs, .bool gn, .bool gb, .int .i64 gf] 24)).cell 4
  simp at d9
  go_wp2_with fail
  refine (U2 _).mono ?_; rintro x w5 ⟨rfl, rfl⟩
  go_wp2_with fail
  refine (U3 _).mono ?_; rintro x w5 ⟨rfl, rfl⟩
  go_wp2_with fail
  go_ret
  exact ⟨rfl, hcX4.alloc _⟩

theorem PteUsed_at (v : Nat) (t : Bool) (w : World) (hv : v < 18446744073709551616) :
    Calls Try.prog 5 #[.int .u64 v, .bool t] w fun x w' => x = .returned (.bool true) ∧ Chg [] w w' := by
  cases hd : (getE v).d <;> cases t
  · exact used_false_false v w hv hd
  · exact used_false_true v w hv hd
  · exact used_true_false v w hv hd
  · exact used_true_true v w hv hd

end Go.Proofs.Ytgmdnglododhfaa
