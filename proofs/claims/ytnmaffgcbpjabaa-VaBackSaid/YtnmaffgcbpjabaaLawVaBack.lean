/-
  VaBack: the walk.
-/
import Derived.Test.YtnmaffgcbpjabaaVaHead
namespace Go.Proofs.Ytnmaffgcbpjabaa
open Go.RowKit

theorem join_back (a : Nat) (ha : a < 18446744073709551616) : decide (joinN (pageN a : Nat) (wordN a : Nat) = a) = (canB a && aliB a) := by
  have h : (((pageN a : Nat) : Int) % 512).toNat * 64 + (((wordN a : Nat) : Int) % 8).toNat * 8 = a % 32768 - a % 8 := by
    unfold pageN wordN; omega
  rw [Bool.eq_iff_iff]
  unfold canB aliB joinN
  rw [h]
  simp only [Bool.and_eq_true, decide_eq_true_eq]
  unfold canonN
  constructor
  · intro h
    have h8 : a % 8 = 0 := by split at h <;> omega
    refine ⟨?_, h8⟩
    rw [h8, Nat.sub_zero, Nat.mod_mod] at h
    exact h
  · rintro ⟨h1, h8⟩
    rw [h8, Nat.sub_zero, Nat.mod_mod]
    exact h1

theorem join_lt (p q : Int) : joinN p q < 18446744073709551616 := canonN_lt _
theorem join_page (p q : Int) (h0 : 0 ≤ p) (h1 : p < 512) : (pageN (joinN p q) : Int) = p := by
  unfold pageN joinN canonN; split <;> omega
theorem join_word (p q : Int) (h0 : 0 ≤ q) (h1 : q < 8) : (wordN (joinN p q) : Int) = q := by
  unfold wordN joinN canonN; split <;> omega
theorem canon_canon (a : Nat) : canonN (canonN a) = canonN a := by
  unfold canonN
  by_cases h : a % 32768 < 16384
  · rw [if_pos h, if_pos (by omega)]; omega
  · rw [if_neg h, if_neg (by omega)]; omega
theorem join_canon (p q : Int) : canB (joinN p q) = true := by
  unfold canB joinN; rw [decide_eq_true_eq, canon_canon]
theorem join_ali (p q : Int) : aliB (joinN p q) = true := by
  unfold aliB joinN canonN; rw [decide_eq_true_eq]; split <;> omega

set_option maxRecDepth 100000 in
set_option maxHeartbeats 1000000 in
theorem VaBack_at (a z k : Nat) (w : World) (ha : a < 18446744073709551616) (hz : z < 65536) (hk : k < 256) :
    Calls Try.prog 4 #[.int .u64 a, .int .u16 z, .int .u8 k] w fun e w' => e = .returned (.bool true) ∧ Chg [] w w' := by
  have C1 := fun w => Canon_any a w
  have A1 := fun w => Aligned_any a w ha
  have P1 := fun w => Page_any a w ha
  have W1 := fun w => Word_any a w ha
  have J1 := fun w => Join_any (pageN a : Nat) (wordN a : Nat) w
  have J2 := fun w => Join_any ((z : Int) % 512) ((k : Int) % 8) w
  have hlt := join_lt ((z : Int) % 512) ((k : Int) % 8)
  have P2 := fun w => Page_any _ w hlt
  have W2 := fun w => Word_any _ w hlt
  have C2 := fun w => Canon_any (joinN ((z : Int) % 512) ((k : Int) % 8)) w
  have A2 := fun w => Aligned_any _ w hlt
  rw [join_page _ _ (by omega) (by omega)] at P2
  rw [join_word _ _ (by omega) (by omega)] at W2
  rw [join_canon] at C2
  rw [join_ali] at A2
  have hb := join_back a ha
  have hX : ((joinN (pageN a : Nat) (wordN a : Nat) : Int) == (a : Int)) = (canB a && aliB a) := by
    rw [← hb, Bool.eq_iff_iff]; simp; omega
  clear hb hlt
  generalize joinN (pageN a : Nat) (wordN a : Nat) = X at *
  generalize joinN ((z : Int) % 512) ((k : Int) % 8) = Y at *
  generalize canB a = cb at *
  generalize aliB a = ab at *
  generalize pageN a = pa at *
  generalize wordN a = wa at *
  cases cb
  · simp only [Bool.false_and] at hX
    clear A1
    go_enter Try.func4, Try.ntmps4
    go_wp2_with fail
    refine (head_any _).mono ?_; rintro e w1 ⟨rfl, d1⟩
    go_wp2_with fail
    refine (P1 _).mono ?_; rintro e w2 ⟨rfl, d2⟩
    go_wp2_with fail
    refine (W1 _).mono ?_; rintro e w3 ⟨rfl, d3⟩
    go_wp2_with fail
    refine (J1 _).mono ?_; rintro e w4 ⟨rfl, d4⟩
    go_wp2_with fail
    refine (J2 _).mono ?_; rintro e w5 ⟨rfl, d5⟩
    go_wp2_with fail
    refine (C1 _).mono ?_; rintro e w6 ⟨rfl, d6⟩
    go_wp2_with fail
    refine (P2 _).mono ?_; rintro e w8 ⟨rfl, d8⟩
    go_wp2_with fail
    refine (W2 _).mono ?_; rintro e w9 ⟨rfl, d9⟩
    go_wp2_with fail
    refine (C2 _).mono ?_; rintro e w10 ⟨rfl, d10⟩
    go_wp2_with fail
    refine (A2 _).mono ?_; rintro e w11 ⟨rfl, d11⟩
    go_wp2_with fail
    go_ret
    exact ⟨rfl, (((((((((d1.trans d2).trans d3).trans d4).trans d5).trans d6).trans d8).trans d9).trans d10).trans d11).chg⟩
  · simp only [Bool.true_and] at hX
    go_enter Try.func4, Try.ntmps4
    go_wp2_with fail
    refine (head_any _).mono ?_; rintro e w1 ⟨rfl, d1⟩
    go_wp2_with fail
    refine (P1 _).mono ?_; rintro e w2 ⟨rfl, d2⟩
    go_wp2_with fail
    refine (W1 _).mono ?_; rintro e w3 ⟨rfl, d3⟩
    go_wp2_with fail
    refine (J1 _).mono ?_; rintro e w4 ⟨rfl, d4⟩
    go_wp2_with fail
    refine (J2 _).mono ?_; rintro e w5 ⟨rfl, d5⟩
    go_wp2_with fail
    refine (C1 _).mono ?_; rintro e w6 ⟨rfl, d6⟩
    go_wp2_with fail
    refine (A1 _).mono ?_; rintro e w7 ⟨rfl, d7⟩
    go_wp2_with fail
    refine (P2 _).mono ?_; rintro e w8 ⟨rfl, d8⟩
    go_wp2_with fail
    refine (W2 _).mono ?_; rintro e w9 ⟨rfl, d9⟩
    go_wp2_with fail
    refine (C2 _).mono ?_; rintro e w10 ⟨rfl, d10⟩
    go_wp2_with fail
    refine (A2 _).mono ?_; rintro e w11 ⟨rfl, d11⟩
    go_wp2_with fail
    go_ret
    exact ⟨rfl, ((((((((((d1.trans d2).trans d3).trans d4).trans d5).trans d6).trans d7).trans d8).trans d9).trans d10).trans d11).chg⟩

end Go.Proofs.Ytnmaffgcbpjabaa
