/-
  VaSign: the walk.
-/
import Derived.Test.YtnmaffgcbpjabaaVaHead
namespace Go.Proofs.Ytnmaffgcbpjabaa
open Go.RowKit

theorem canB_true {a : Nat} (h : canonN a = a) : canB a = true := by unfold canB; rw [decide_eq_true_eq]; exact h
theorem canB_false {a : Nat} (h : canonN a ≠ a) : canB a = false := by unfold canB; rw [decide_eq_false_iff_not]; exact h
theorem can_low (L : Nat) (h : L < 16384) : canB L = true := canB_true (by unfold canonN; rw [if_pos (by omega)]; omega)
theorem can_high (L : Nat) (h : L < 16384) : canB (L + 18446744073709535232) = true := canB_true (by unfold canonN; rw [if_neg (by omega)]; omega)
theorem can_low_bit (L k : Nat) (h : L < 16384) (h1 : 14 ≤ k) (h2 : k < 64) : canB (L + 2 ^ k) = false := by
  refine canB_false ?_
  obtain ⟨j, rfl⟩ : ∃ j, k = 14 + j := ⟨k - 14, by omega⟩
  by_cases hj : j = 0
  · subst hj; unfold canonN; rw [if_neg (by omega)]; omega
  · obtain ⟨i, rfl⟩ : ∃ i, j = i + 1 := ⟨j - 1, by omega⟩
    have e : (2 : Nat) ^ (14 + (i + 1)) = 32768 * 2 ^ i := by rw [show 14 + (i + 1) = 15 + i by omega, Nat.pow_add]
    have hp := Nat.two_pow_pos i
    rw [e]
    generalize 2 ^ i = q at *
    unfold canonN; rw [if_pos (by omega)]; omega
theorem can_high_bit (L k : Nat) (h : L < 16384) (h1 : 14 ≤ k) (h2 : k < 64) : canB (L + 18446744073709535232 - 2 ^ k) = false := by
  refine canB_false ?_
  obtain ⟨j, rfl⟩ : ∃ j, k = 14 + j := ⟨k - 14, by omega⟩
  have hb : (2 : Nat) ^ (14 + j) ≤ 2 ^ 63 := Nat.pow_le_pow_right (by decide) (by omega)
  by_cases hj : j = 0
  · subst hj; unfold canonN; rw [if_pos (by omega)]; omega
  · obtain ⟨i, rfl⟩ : ∃ i, j = i + 1 := ⟨j - 1, by omega⟩
    have e : (2 : Nat) ^ (14 + (i + 1)) = 32768 * 2 ^ i := by rw [show 14 + (i + 1) = 15 + i by omega, Nat.pow_add]
    have hp := Nat.two_pow_pos i
    rw [e] at hb ⊢
    generalize 2 ^ i = q at *
    unfold canonN; rw [if_neg (by omega)]; omega
theorem can_iff (a : Nat) (ha : a < 18446744073709551616) : canB a = (decide (a = a % 16384) || decide (a = a % 16384 + 18446744073709535232)) := by
  rw [Bool.eq_iff_iff]
  unfold canB
  simp only [Bool.or_eq_true, decide_eq_true_eq]
  unfold canonN
  constructor
  · intro h
    split at h
    · left; omega
    · right; omega
  · intro h
    rcases h with h | h
    · rw [if_pos (by omega)]; omega
    · rw [if_neg (by omega)]; omega
theorem xor_low (L k : Nat) (h : L < 16384) (h1 : 14 ≤ k) : L ^^^ 2 ^ k = L + 2 ^ k := by
  have hb : (2 : Nat) ^ 14 ≤ 2 ^ k := Nat.pow_le_pow_right (by decide) h1
  have : L ^^^ 2 ^ k = 2 ^ k ||| L := by
    apply Nat.eq_of_testBit_eq
    intro i
    rw [Nat.testBit_xor, Nat.testBit_or, Nat.testBit_two_pow]
    by_cases hi : k = i
    · subst hi; rw [Nat.testBit_lt_two_pow (x := L) (by omega)]; simp
    · simp [hi]
  rw [this, nat_join k (2 ^ k) L (Nat.mod_self _) (by omega)]
  omega
theorem xor_high (L k : Nat) (h : L < 16384) (h1 : 14 ≤ k) (h2 : k < 64) : (L + 18446744073709535232) ^^^ 2 ^ k = L + 18446744073709535232 - 2 ^ k := by
  have hb : (2 : Nat) ^ k ≤ 2 ^ 63 := Nat.pow_le_pow_right (by decide) (by omega)
  have hbit : (L + 18446744073709535232).testBit k = true := by
    have e : L + 18446744073709535232 = 2 ^ 14 * 1125899906842623 + L := by omega
    rw [e, Nat.testBit_two_pow_mul_add _ (by omega), if_neg (by omega)]
    have : ∀ j : Fin 50, (1125899906842623 : Nat).testBit j.1 = true := by decide
    exact this ⟨k - 14, by omega⟩
  generalize L + 18446744073709535232 = x at *
  have e2 : (x ^^^ 2 ^ k) ^^^ 2 ^ k = x := by rw [Nat.xor_assoc, Nat.xor_self, Nat.xor_zero]
  have hc : (x ^^^ 2 ^ k).testBit k = false := by rw [Nat.testBit_xor, hbit, Nat.testBit_two_pow]; simp
  generalize x ^^^ 2 ^ k = y at *
  have e3 : y ^^^ 2 ^ k = y + 2 ^ k := by
    have hd := Nat.div_add_mod y (2 ^ k)
    apply Nat.eq_of_testBit_eq
    intro i
    have h3 : y + 2 ^ k = 2 ^ k * (y / 2 ^ k + 1) + y % 2 ^ k := by rw [Nat.mul_add]; omega
    have hev : y / 2 ^ k % 2 = 0 := by
      rw [Nat.testBit_eq_decide_div_mod_eq, decide_eq_false_iff_not] at hc; omega
    rw [h3, Nat.testBit_two_pow_mul_add _ (Nat.mod_lt _ (Nat.two_pow_pos k)), Nat.testBit_xor, Nat.testBit_two_pow]
    by_cases hi : i < k
    · rw [if_pos hi, Nat.testBit_mod_two_pow, decide_eq_true hi, decide_eq_false (show ¬ k = i by omega)]; simp
    · rw [if_neg hi]
      obtain ⟨j, rfl⟩ : ∃ j, i = k + j := ⟨i - k, by omega⟩
      rw [Nat.add_sub_cancel_left, show k + j = j + k by omega, ← Nat.testBit_div_two_pow]
      generalize y / 2 ^ k = d at *
      cases j with
      | zero =>
        rw [Nat.testBit_zero, Nat.testBit_zero]
        rw [decide_eq_false (show ¬ d % 2 = 1 by omega), decide_eq_true (show (d + 1) % 2 = 1 by omega)]
        simp
      | succ j =>
        rw [Nat.testBit_succ, Nat.testBit_succ, show (d + 1) / 2 = d / 2 by omega]
        simp
  omega

set_option maxRecDepth 100000 in
set_option maxHeartbeats 1000000 in
theorem VaSign_at (a n : Nat) (w : World) (ha : a < 18446744073709551616) (hn : n < 256) :
    Calls Try.prog 6 #[.int .u64 a, .int .u8 n] w fun e w' => e = .returned (.bool true) ∧ Chg [] w w' := by
  have hL : a % 16384 < 16384 := Nat.mod_lt _ (by decide)
  have eL : ((a % 16384 : Nat) : Int) = (a : Int) % 16384 := by simp
  have k1 : 14 ≤ 14 + n % 50 := by omega
  have k2 : 14 + n % 50 < 64 := by omega
  have hb : (2 : Nat) ^ (14 + n % 50) ≤ 2 ^ 63 := Nat.pow_le_pow_right (by decide) (by omega)
  have ew : IntKind.u64.wrap ((2 : Int) ^ (14 + n % 50)) = ((2 ^ (14 + n % 50) : Nat) : Int) := by
    rw [IntKind.wrap_u64, show ((2 : Int) ^ (14 + n % 50)) = ((2 ^ (14 + n % 50) : Nat) : Int) by simp]
    generalize (2 : Nat) ^ (14 + n % 50) = q at *
    omega
  have x1 : bits .xor .u64 ((a : Int) % 16384) (IntKind.u64.wrap ((2 : Int) ^ (14 + n % 50))) = ((a % 16384 + 2 ^ (14 + n % 50) : Nat) : Int) := by
    rw [ew, ← eL, u64_xor_nat _ _ (by omega) (by omega), xor_low _ _ hL k1]
  have x2 : bits .xor .u64 ((a : Int) % 16384 + 18446744073709535232) (IntKind.u64.wrap ((2 : Int) ^ (14 + n % 50))) = ((a % 16384 + 18446744073709535232 - 2 ^ (14 + n % 50) : Nat) : Int) := by
    rw [ew, ← eL]
    have := u64_xor_nat (a % 16384 + 18446744073709535232) (2 ^ (14 + n % 50)) (by omega) (by omega)
    rwa [xor_high _ _ hL k1 k2] at this
  have x3 : bits .xor .u64 ((a : Int) % 16384) 32768 = ((a % 16384 + 32768 : Nat) : Int) := by
    have := u64_xor_nat (a % 16384) (2 ^ 15) (by omega) (by decide)
    rw [xor_low _ 15 hL (by decide), eL] at this
    exact this
  have C1 : ∀ w, Calls Try.prog 10 #[.int .u64 ((a : Int) % 16384)] w fun e w' => e = .returned (.bool true) ∧ Dr w w' := fun w => by
    have := Canon_any (a % 16384) w
    rwa [can_low _ hL, eL] at this
  have C2 : ∀ w, Calls Try.prog 10 #[.int .u64 ((a : Int) % 16384 + 18446744073709535232)] w fun e w' => e = .returned (.bool true) ∧ Dr w w' := fun w => by
    have := Canon_any (a % 16384 + 18446744073709535232) w
    rw [can_high _ hL, Int.natCast_add, eL] at this
    exact this
  have C3 : ∀ w, Calls Try.prog 10 #[.int .u64 (bits .xor .u64 ((a : Int) % 16384) (IntKind.u64.wrap ((2 : Int) ^ (14 + n % 50))))] w fun e w' => e = .returned (.bool false) ∧ Dr w w' := fun w => by
    have := Canon_any (a % 16384 + 2 ^ (14 + n % 50)) w
    rw [can_low_bit _ _ hL k1 k2] at this
    rw [x1]; exact this
  have C4 : ∀ w, Calls Try.prog 10 #[.int .u64 (bits .xor .u64 ((a : Int) % 16384 + 18446744073709535232) (IntKind.u64.wrap ((2 : Int) ^ (14 + n % 50))))] w fun e w' => e = .returned (.bool false) ∧ Dr w w' := fun w => by
    have := Canon_any (a % 16384 + 18446744073709535232 - 2 ^ (14 + n % 50)) w
    rw [can_high_bit _ _ hL k1 k2] at this
    rw [x2]; exact this
  have P1 : ∀ w, Calls Try.prog 14 #[.int .u64 ((a : Int) % 16384)] w fun e w' => e = .returned (.int .i64 ((pageN (a % 16384) : Nat) : Int)) ∧ Dr w w' := fun w => by
    have := Page_any (a % 16384) w (by omega)
    rwa [eL] at this
  have P2 : ∀ w, Calls Try.prog 14 #[.int .u64 (bits .xor .u64 ((a : Int) % 16384) 32768)] w fun e w' => e = .returned (.int .i64 ((pageN (a % 16384) : Nat) : Int)) ∧ Dr w w' := fun w => by
    have := Page_any (a % 16384 + 32768) w (by omega)
    rw [show pageN (a % 16384 + 32768) = pageN (a % 16384) by unfold pageN; omega] at this
    rw [x3]; exact this
  have C5 := fun w => Canon_any a w
  have e1 : ((a : Int) == (a : Int) % 16384) = decide (a = a % 16384) := by rw [Bool.eq_iff_iff]; simp; omega
  have e2 : ((a : Int) == (a : Int) % 16384 + 18446744073709535232) = decide (a = a % 16384 + 18446744073709535232) := by rw [Bool.eq_iff_iff]; simp; omega
  have hc := can_iff a ha
  generalize decide (a = a % 16384) = t1 at *
  generalize decide (a = a % 16384 + 18446744073709535232) = t2 at *
  generalize canB a = cb at *
  generalize pageN (a % 16384) = pg at *
  clear x1 x2 x3 ew hb eL hL k1 k2
  subst hc
  cases t1
  all_goals
    go_enter Try.func6, Try.ntmps6
    go_wp2_with fail
    refine (head_any _).mono ?_; rintro e w1 ⟨rfl, d1⟩
    go_wp2_with fail
    refine (C1 _).mono ?_; rintro e w2 ⟨rfl, d2⟩
    go_wp2_with fail
    refine (C2 _).mono ?_; rintro e w3 ⟨rfl, d3⟩
    go_wp2_with fail
    refine (C3 _).mono ?_; rintro e w4 ⟨rfl, d4⟩
    go_wp2_with fail
    refine (C4 _).mono ?_; rintro e w5 ⟨rfl, d5⟩
    go_wp2_with fail
    refine (P1 _).mono ?_; rintro e w6 ⟨rfl, d6⟩
    go_wp2_with fail
    refine (P2 _).mono ?_; rintro e w7 ⟨rfl, d7⟩
    go_wp2_with fail
    refine (C5 _).mono ?_; rintro e w8 ⟨rfl, d8⟩
    go_wp2_with fail
    go_ret
    exact ⟨rfl, (((((((d1.trans d2).trans d3).trans d4).trans d5).trans d6).trans d7).trans d8).chg⟩

end Go.Proofs.Ytnmaffgcbpjabaa
