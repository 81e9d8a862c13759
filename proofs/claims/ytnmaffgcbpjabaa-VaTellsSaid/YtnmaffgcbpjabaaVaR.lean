/-
  The document's answers to layer 5.
-/
import Derived.Test.YtnmaffgcbpjabaaVaA
namespace Go.Proofs.Ytnmaffgcbpjabaa
open Go.RowKit

theorem canB_top (a : Nat) (ha : a < 18446744073709551616) : canB a = (decide (a / 16384 = 0) || decide (a / 16384 = 1125899906842623)) := by
  rw [Bool.eq_iff_iff]
  unfold canB
  simp only [Bool.or_eq_true, decide_eq_true_eq]
  unfold canonN
  constructor
  · intro h
    split at h
    · left; omega
    · right; omega
  · intro h
    rcases h with h | h
    · rw [if_pos (by omega)]; omega
    · rw [if_neg (by omega)]; omega

set_option maxHeartbeats 400000 in
theorem RCanon_any (a : Nat) (w : World) (ha : a < 18446744073709551616) :
    Calls Try.prog 11 #[.int .u64 a] w fun e w' => e = .returned (.bool (canB a)) ∧ Dr w w' := by
  have hc := canB_top a ha
  have e0 : ((a : Int) / 16384 == 0) = decide (a / 16384 = 0) := by rw [Bool.eq_iff_iff]; simp; omega
  have e1 : ((a : Int) / 16384 == 1125899906842623) = decide (a / 16384 = 1125899906842623) := by rw [Bool.eq_iff_iff]; simp; omega
  generalize decide (a / 16384 = 0) = t at *
  generalize decide (a / 16384 = 1125899906842623) = u at *
  generalize canB a = c at *
  subst hc
  cases t
  all_goals
    go_enter Try.func11, Try.ntmps11
    go_wp2_with fail
    go_ret
    exact ⟨rfl, Dr.refl w⟩

set_option maxHeartbeats 400000 in
theorem RAligned_any (a : Nat) (w : World) (ha : a < 18446744073709551616) :
    Calls Try.prog 13 #[.int .u64 a] w fun e w' => e = .returned (.bool (aliB a)) ∧ Dr w w' := by
  go_enter Try.func13, Try.ntmps13
  go_wp2_with fail
  go_ret
  exact ⟨ret_bool (by rw [← aliB_eq]; simp), Dr.refl w⟩

set_option maxHeartbeats 400000 in
theorem RPage_any (a : Nat) (w : World) (ha : a < 18446744073709551616) :
    Calls Try.prog 15 #[.int .u64 a] w fun e w' => e = .returned (.int .i64 (pageN a : Nat)) ∧ Dr w w' := by
  go_enter Try.func15, Try.ntmps15
  go_wp2_with fail
  go_ret
  exact ⟨ret_int (by unfold pageN; simp), Dr.refl w⟩

set_option maxHeartbeats 400000 in
theorem RWord_any (a : Nat) (w : World) (ha : a < 18446744073709551616) :
    Calls Try.prog 17 #[.int .u64 a] w fun e w' => e = .returned (.int .i64 (wordN a : Nat)) ∧ Dr w w' := by
  go_enter Try.func17, Try.ntmps17
  go_wp2_with fail
  go_ret
  exact ⟨ret_int (by unfold wordN; simp), Dr.refl w⟩

theorem tmod_emod (n m : Int) (hm : 0 < m) : n % m = if n.tmod m < 0 then n.tmod m + m else n.tmod m := by
  have h1 := Int.tmod_eq_emod (a := n) (b := m)
  have h2 := Int.emod_nonneg n (show m ≠ 0 by omega)
  have h3 := Int.emod_lt_of_pos n hm
  split at h1
  · split <;> omega
  · have : ((m.natAbs : Nat) : Int) = m := by omega
    split <;> omega

set_option maxHeartbeats 400000 in
theorem mod_any (n m : Int) (w : World) (hm : 0 < m) (hm2 : m ≤ 512) :
    Calls Try.prog 25 #[.int .i64 n, .int .i64 m] w fun e w' => e = .returned (.int .i64 (n % m)) ∧ Dr w w' := by
  have h1 := tmod_emod n m hm
  have h2 := Int.emod_nonneg n (show m ≠ 0 by omega)
  have h3 := Int.emod_lt_of_pos n hm
  by_cases hn : n.tmod m < 0
  · rw [if_pos hn] at h1
    rw [h1] at h2 h3 ⊢
    go_enter Try.func25, Try.ntmps25
    go_wp2_with fail
    go_ret
    exact ⟨rfl, Dr.refl w⟩
  · rw [if_neg hn] at h1
    rw [h1] at h2 h3 ⊢
    go_enter Try.func25, Try.ntmps25
    go_wp2_with fail
    go_ret
    exact ⟨rfl, Dr.refl w⟩

theorem RJoin_eq (p q : Int) : (joinN p q : Int) = if p % 512 < 256 then p % 512 * 64 + q % 8 * 8 else p % 512 * 64 + q % 8 * 8 + 18446744073709518848 := by
  have h1 := Int.emod_nonneg p (show (512 : Int) ≠ 0 by decide)
  have h2 := Int.emod_lt_of_pos p (show (0 : Int) < 512 by decide)
  have h3 := Int.emod_nonneg q (show (8 : Int) ≠ 0 by decide)
  have h4 := Int.emod_lt_of_pos q (show (0 : Int) < 8 by decide)
  unfold joinN canonN
  split <;> split <;> omega

set_option maxHeartbeats 400000 in
theorem RJoin_any (p q : Int) (w : World) :
    Calls Try.prog 19 #[.int .i64 p, .int .i64 q] w fun e w' => e = .returned (.int .u64 (joinN p q : Nat)) ∧ Dr w w' := by
  have h1 := Int.emod_nonneg p (show (512 : Int) ≠ 0 by decide)
  have h2 := Int.emod_lt_of_pos p (show (0 : Int) < 512 by decide)
  have h3 := Int.emod_nonneg q (show (8 : Int) ≠ 0 by decide)
  have h4 := Int.emod_lt_of_pos q (show (0 : Int) < 8 by decide)
  have C1 := fun w => mod_any p 512 w (by decide) (by decide)
  have C2 := fun w => mod_any q 8 w (by decide) (by decide)
  have hj := RJoin_eq p q
  generalize joinN p q = J0 at *
  generalize p % 512 = P0 at *
  generalize q % 8 = Q0 at *
  by_cases hp : P0 < 256
  · rw [if_pos hp] at hj
    rw [hj]
    clear hj
    go_enter Try.func19, Try.ntmps19
    go_wp2_with fail
    refine (C1 _).mono ?_; rintro e w1 ⟨rfl, d1⟩
    go_wp2_with fail
    refine (C2 _).mono ?_; rintro e w2 ⟨rfl, d2⟩
    go_wp2_with fail
    go_ret
    exact ⟨ret_int (by omega), d1.trans d2⟩
  · rw [if_neg hp] at hj
    rw [hj]
    clear hj
    go_enter Try.func19, Try.ntmps19
    go_wp2_with fail
    refine (C1 _).mono ?_; rintro e w1 ⟨rfl, d1⟩
    go_wp2_with fail
    refine (C2 _).mono ?_; rintro e w2 ⟨rfl, d2⟩
    go_wp2_with fail
    go_ret
    exact ⟨ret_int (by omega), d1.trans d2⟩

set_option maxHeartbeats 400000 in
theorem RIdx_any (p l : Int) (w : World) :
    Calls Try.prog 21 #[.int .i64 p, .int .i64 l] w fun e w' => e = .returned (.int .i64 (idxI p l)) ∧ Dr w w' := by
  have h1 := Int.emod_nonneg p (show (512 : Int) ≠ 0 by decide)
  have h2 := Int.emod_lt_of_pos p (show (0 : Int) < 512 by decide)
  have C1 := fun w => mod_any p 512 w (by decide) (by decide)
  have hz : idxI p l = if l = 3 then p % 512 / 64 else if l = 2 then p % 512 / 8 % 8 else if l = 1 then p % 512 % 8 else 0 := by
    unfold idxI
    rw [show p % 512 % 8 = p % 8 by omega]
  rw [hz]
  clear hz
  generalize p % 512 = P0 at *
  have fin : ∀ (l : Int) (r : Int) (b3 b2 b1 : Bool), (l == 3) = b3 → (l == 2) = b2 → (l == 1) = b1 → r = (if b3 then P0 / 64 else if b2 then P0 / 8 % 8 else if b1 then P0 % 8 else 0) →
      Calls Try.prog 21 #[.int .i64 p, .int .i64 l] w fun e w' => e = .returned (.int .i64 r) ∧ Dr w w' := by
    intro l r b3 b2 b1 e3 e2 e1 hr
    subst hr
    cases b3
    · cases b2
      · cases b1
        all_goals
          go_enter Try.func21, Try.ntmps21
          go_wp2_with fail
          refine (C1 _).mono ?_; rintro e w1 ⟨rfl, d1⟩
          go_wp2_with fail
          go_ret
          exact ⟨rfl, d1⟩
      · clear e1
        go_enter Try.func21, Try.ntmps21
        go_wp2_with fail
        refine (C1 _).mono ?_; rintro e w1 ⟨rfl, d1⟩
        go_wp2_with fail
        go_ret
        exact ⟨rfl, d1⟩
    · clear e1 e2
      go_enter Try.func21, Try.ntmps21
      go_wp2_with fail
      refine (C1 _).mono ?_; rintro e w1 ⟨rfl, d1⟩
      go_wp2_with fail
      go_ret
      exact ⟨rfl, d1⟩
  exact fin l _ _ _ _ rfl rfl rfl (by simp only [beq_iff_eq])

end Go.Proofs.Ytnmaffgcbpjabaa
