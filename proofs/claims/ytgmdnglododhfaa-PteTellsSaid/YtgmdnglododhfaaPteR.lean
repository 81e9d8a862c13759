/-
  The document's answer to package pte: bit, one, Used.
-/
import Derived.Test.YtgmdnglododhfaaPteQ
import Derived.BigQuiet
import Derived.Laws.Shifts
namespace Go.Proofs.Ytgmdnglododhfaa
open Go.RowKit

theorem div_pow_cast (v n : Nat) : (v : Int) / 2 ^ n = ((v / 2 ^ n : Nat) : Int) := by simp
theorem bit_int (v n : Nat) : (((v : Int) / 2 ^ n).tmod 2 == 1) = v.testBit n := by
  rw [div_pow_cast, Nat.testBit_eq_decide_div_mod_eq]
  generalize v / 2 ^ n = q
  rw [Int.tmod_eq_emod_of_nonneg (Int.natCast_nonneg q), Bool.eq_iff_iff]
  simp only [beq_iff_eq, decide_eq_true_eq]
  omega

set_option maxHeartbeats 400000 in
theorem bit_any (v n : Nat) (w : World) (hv : v < 18446744073709551616) (hn : n < 64) :
    Calls Try.prog 20 #[.int .u64 v, .int .i64 n] w fun e w' => e = .returned (.bool (v.testBit n)) ∧ w = w' := by
  go_enter Try.func20, Try.ntmps20
  go_wp2
  go_ret
  exact ⟨ret_bool (bit_int v n), rfl⟩

theorem bit_as (z : Int) (v n : Nat) (w : World) (hz : z = v) (hv : v < 18446744073709551616) (hn : n < 64) :
    Calls Try.prog 20 #[.int .u64 z, .int .i64 n] w fun e w' => e = .returned (.bool (v.testBit n)) ∧ w = w' := by
  rw [hz]; exact bit_any v n w hv hn

set_option maxRecDepth 100000 in
set_option maxHeartbeats 1000000 in
theorem one_any (t : Bool) (n : Nat) (w : World) (hn : n = 0 ∨ n = 1 ∨ n = 2 ∨ n = 5 ∨ n = 6 ∨ n = 7 ∨ n = 63) :
    Calls Try.prog 18 #[.bool t, .int .i64 n] w fun e w' => e = .returned (.int .u64 ((if t then 2 ^ n else 0 : Nat) : Int)) ∧ w = w' := by
  rcases hn with rfl | rfl | rfl | rfl | rfl | rfl | rfl
  all_goals cases t
  all_goals
    go_enter Try.func18, Try.ntmps18
    go_wp2
    go_ret
    exact ⟨rfl, rfl⟩

/-- a bit that is 0 is added -/
theorem or_add {v n : Nat} (h : v.testBit n = false) : v ||| 2 ^ n = v + 2 ^ n := by
  have hr : v % 2 ^ (n + 1) < 2 ^ n := by
    rw [Nat.testBit_eq_decide_div_mod_eq, decide_eq_false_iff_not] at h
    have h2 := Nat.two_pow_pos n
    rw [Nat.pow_succ, Nat.mod_mul]
    have h0 : v / 2 ^ n % 2 = 0 := by omega
    rw [h0, Nat.mul_zero, Nat.add_zero]
    exact Nat.mod_lt _ h2
  have hlt : v % 2 ^ (n + 1) + 2 ^ n < 2 ^ (n + 1) := by
    have hp : 2 ^ (n + 1) = 2 ^ n * 2 := Nat.pow_succ ..
    generalize v % 2 ^ (n + 1) = r at hr ⊢
    generalize 2 ^ (n + 1) = b at hp ⊢
    omega
  have e1 : 2 ^ n ||| v % 2 ^ (n + 1) = 2 ^ n + v % 2 ^ (n + 1) := by
    have := Nat.two_pow_add_eq_or_of_lt hr 1
    simpa using this.symm
  have e2 := Nat.two_pow_add_eq_or_of_lt hlt (v / 2 ^ (n + 1))
  have e3 := Nat.two_pow_add_eq_or_of_lt (Nat.mod_lt v (Nat.two_pow_pos (n + 1))) (v / 2 ^ (n + 1))
  rw [Nat.div_add_mod] at e3
  calc v ||| 2 ^ n = (2 ^ (n + 1) * (v / 2 ^ (n + 1)) ||| v % 2 ^ (n + 1)) ||| 2 ^ n := by rw [← e3]
    _ = 2 ^ (n + 1) * (v / 2 ^ (n + 1)) ||| (2 ^ n ||| v % 2 ^ (n + 1)) := by rw [Nat.or_assoc, Nat.or_comm (2 ^ n)]
    _ = 2 ^ (n + 1) * (v / 2 ^ (n + 1)) ||| (v % 2 ^ (n + 1) + 2 ^ n) := by rw [e1, Nat.add_comm (2 ^ n)]
    _ = 2 ^ (n + 1) * (v / 2 ^ (n + 1)) + (v % 2 ^ (n + 1) + 2 ^ n) := by rw [← e2]
    _ = v + 2 ^ n := by rw [← Nat.add_assoc, Nat.div_add_mod]
theorem or_same {v n : Nat} (h : v.testBit n = true) : v ||| 2 ^ n = v := by
  apply Nat.eq_of_testBit_eq
  intro i
  rw [Nat.testBit_or, Nat.testBit_two_pow]
  by_cases e : n = i
  · subst e; rw [h]; rfl
  · rw [decide_eq_false e, Bool.or_false]

set_option maxHeartbeats 1000000 in
theorem RUsed_any (v : Nat) (t : Bool) (w : World) (hv : v < 18446744073709551616) :
    Calls Try.prog 15 #[.int .u64 v, .bool t] w fun e w' => e = .returned (.int .u64 (usedN v t : Nat)) ∧ w = w' := by
  have hl5 := or_lt hv (by decide : 32 < 18446744073709551616)
  obtain ⟨x, hx, hxl, h5, hu⟩ : ∃ x, v ||| 32 = x ∧ x < 18446744073709551616 ∧ (v.testBit 5 = true → x = v) ∧ (v.testBit 5 = false → x = v + 32) := ⟨_, rfl, hl5, fun h => or_same (n := 5) h, fun h => or_add (n := 5) h⟩
  have hl6 := or_lt hxl (by decide : 64 < 18446744073709551616)
  obtain ⟨y, hy, hyl, h6, hu6⟩ : ∃ y, x ||| 64 = y ∧ y < 18446744073709551616 ∧ (x.testBit 6 = true → y = x) ∧ (x.testBit 6 = false → y = x + 64) := ⟨_, rfl, hl6, fun h => or_same (n := 6) h, fun h => or_add (n := 6) h⟩
  have hU : usedN v t = if t then y else x := by
    rw [← hy, ← hx]
    cases t
    · rfl
    · simp only [usedN, if_true]; rw [Nat.or_assoc, Nat.or_comm 64, ← Nat.or_assoc]
  rw [hU]
  have h6x : x.testBit 6 = v.testBit 6 := by rw [← hx, Nat.testBit_or, show (32 : Nat) = 2 ^ 5 by decide, Nat.testBit_two_pow]; simp
  rw [h6x] at h6 hu6
  clear hU hl5 hl6 hx hy
  cases t
  · simp only [Bool.false_eq_true, if_false]
    clear h6 hu6 hyl
    cases hb5 : v.testBit 5
    · have e5 := hu hb5
      clear h5 hu
      go_enter Try.func15, Try.ntmps15
      go_wp2_with fail
      refine (bit_any v 5 _ hv (by decide)).mono ?_; rintro e w1 ⟨rfl, rfl⟩
      rw [hb5]
      go_wp2_with fail
      go_ret
      exact ⟨ret_int (by omega), rfl⟩
    · have e5 := h5 hb5
      clear h5 hu
      go_enter Try.func15, Try.ntmps15
      go_wp2_with fail
      refine (bit_any v 5 _ hv (by decide)).mono ?_; rintro e w1 ⟨rfl, rfl⟩
      rw [hb5]
      go_wp2_with fail
      go_ret
      exact ⟨ret_int (by omega), rfl⟩
  · simp only [if_true]
    cases hb5 : v.testBit 5
    · have e5 := hu hb5
      clear h5 hu
      cases hb6 : v.testBit 6
      · have e6 := hu6 hb6
        clear h6 hu6
        go_enter Try.func15, Try.ntmps15
        go_wp2_with fail
        refine (bit_any v 5 _ hv (by decide)).mono ?_; rintro e w1 ⟨rfl, rfl⟩
        rw [hb5]
        go_wp2_with fail
        refine (bit_as (v + 32 : Int) x 6 _ (by omega) hxl (by decide)).mono ?_; rintro e w1 ⟨rfl, rfl⟩
        rw [h6x, hb6]
        go_wp2_with fail
        go_ret
        exact ⟨ret_int (by omega), rfl⟩
      · have e6 := h6 hb6
        clear h6 hu6
        go_enter Try.func15, Try.ntmps15
        go_wp2_with fail
        refine (bit_any v 5 _ hv (by decide)).mono ?_; rintro e w1 ⟨rfl, rfl⟩
        rw [hb5]
        go_wp2_with fail
        refine (bit_as (v + 32 : Int) x 6 _ (by omega) hxl (by decide)).mono ?_; rintro e w1 ⟨rfl, rfl⟩
        rw [h6x, hb6]
        go_wp2_with fail
        go_ret
        exact ⟨ret_int (by omega), rfl⟩
    · have e5 := h5 hb5
      clear h5 hu
      cases hb6 : v.testBit 6
      · have e6 := hu6 hb6
        clear h6 hu6
        go_enter Try.func15, Try.ntmps15
        go_wp2_with fail
        refine (bit_any v 5 _ hv (by decide)).mono ?_; rintro e w1 ⟨rfl, rfl⟩
        rw [hb5]
        go_wp2_with fail
        refine (bit_as (v : Int) x 6 _ (by omega) hxl (by decide)).mono ?_; rintro e w1 ⟨rfl, rfl⟩
        rw [h6x, hb6]
        go_wp2_with fail
        go_ret
        exact ⟨ret_int (by omega), rfl⟩
      · have e6 := h6 hb6
        clear h6 hu6
        go_enter Try.func15, Try.ntmps15
        go_wp2_with fail
        refine (bit_any v 5 _ hv (by decide)).mono ?_; rintro e w1 ⟨rfl, rfl⟩
        rw [hb5]
        go_wp2_with fail
        refine (bit_as (v : Int) x 6 _ (by omega) hxl (by decide)).mono ?_; rintro e w1 ⟨rfl, rfl⟩
        rw [h6x, hb6]
        go_wp2_with fail
        go_ret
        exact ⟨ret_int (by omega), rfl⟩

end Go.Proofs.Ytgmdnglododhfaa
