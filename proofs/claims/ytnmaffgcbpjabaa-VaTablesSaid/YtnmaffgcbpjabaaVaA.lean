/-
  The parts of package va: so many bits of a number, and the canonical address.
-/
import Derived.Test.YtnmaffgcbpjabaaLib
import Derived.BigRegion
import Derived.BigQuiet
import Derived.Laws.BitsAllLaws
import Derived.Laws.Shifts
import Derived.Test.YtnmaffgcbpjabaaProg
namespace Go.Proofs.Ytnmaffgcbpjabaa
open Go.RowKit

/-- only orders have been drawn -/
def Dr (w w' : World) : Prop := ∃ n, w' = w.drewN n
theorem Dr.refl (w : World) : Dr w w := ⟨0, rfl⟩
theorem Dr.of (w : World) (n : Nat) : Dr w (w.drewN n) := ⟨n, rfl⟩
theorem Dr.trans {a b c : World} (h : Dr a b) (k : Dr b c) : Dr a c := by
  obtain ⟨n, rfl⟩ := h
  obtain ⟨m, rfl⟩ := k
  exact ⟨n + m, by rw [World.drewN_drewN]⟩
theorem Dr.chg {a b : World} (h : Dr a b) : Chg [] a b := by
  obtain ⟨n, rfl⟩ := h
  exact (Chg.refl [] a).drewN n

theorem i64_low (n : Int) (k : Nat) (hk : k < 63) : bits .and .i64 n ((2 ^ k - 1 : Nat) : Int) = n % ((2 ^ k : Nat) : Int) := by
  have hp : 2 ^ k < 2 ^ 63 := Nat.pow_lt_pow_of_lt (by decide) hk
  have h0 : 0 < 2 ^ k := Nat.two_pow_pos k
  have hm : (BitVec.ofInt 64 ((2 ^ k - 1 : Nat) : Int)).toNat = 2 ^ k - 1 := by
    rw [BitVec.ofInt_natCast, BitVec.toNat_ofNat]; exact Nat.mod_eq_of_lt (by omega)
  have key : (BitVec.ofInt 64 n &&& BitVec.ofInt 64 ((2 ^ k - 1 : Nat) : Int)).toNat = (n % ((2 ^ 64 : Nat) : Int)).toNat % 2 ^ k := by
    rw [BitVec.toNat_and, BitVec.toNat_ofInt, hm, Nat.and_two_pow_sub_one_eq_mod]
  show IntKind.i64.wrap ((BitVec.ofInt 64 n &&& BitVec.ofInt 64 ((2 ^ k - 1 : Nat) : Int)).toNat : Nat) = _
  rw [key, IntKind.wrap_i64]
  have hd : ((2 ^ k : Nat) : Int) ∣ ((2 ^ 64 : Nat) : Int) := Int.natCast_dvd_natCast.2 (Nat.pow_dvd_pow 2 (by omega))
  have e1 : (((n % ((2 ^ 64 : Nat) : Int)).toNat % 2 ^ k : Nat) : Int) = n % ((2 ^ k : Nat) : Int) := by
    rw [Int.natCast_emod, Int.toNat_of_nonneg (Int.emod_nonneg _ (by decide)), Int.emod_emod_of_dvd _ hd]
  have h1 := Int.emod_nonneg n (show ((2 ^ k : Nat) : Int) ≠ 0 by omega)
  have h2 := Int.emod_lt_of_pos n (show (0 : Int) < ((2 ^ k : Nat) : Int) by omega)
  rw [e1]
  generalize n % ((2 ^ k : Nat) : Int) = z at *
  omega

/-- the canonical address with the same lowest bits -/
def canonN (a : Nat) : Nat := if a % 32768 < 16384 then a % 32768 else a % 32768 + 18446744073709518848
theorem canonN_lt (a : Nat) : canonN a < 18446744073709551616 := by unfold canonN; split <;> omega

set_option maxHeartbeats 400000 in
theorem canonical_any (a : Nat) (w : World) :
    Calls Try.prog 22 #[.int .u64 a] w fun e w' => e = .returned (.int .u64 (canonN a : Nat)) ∧ Dr w w' := by
  go_enter Try.func22, Try.ntmps22
  go_wp2
  go_ret
  refine ⟨ret_int ?_, Dr.refl w⟩
  unfold canonN wrap64
  rw [IntKind.wrap_u64, IntKind.wrap_u64]
  split <;> omega

set_option maxHeartbeats 400000 in
theorem cutu_69 (a : Nat) (w : World) (ha : a < 18446744073709551616) :
    Calls Try.prog 23 #[.int .u64 a, .int .i64 6, .int .i64 9] w fun e w' => e = .returned (.int .u64 (a / 64 % 512 : Nat)) ∧ Dr w w' := by
  have hb : bits .and .u64 ((a : Int) / 64) 511 = ((a / 64 % 512 : Nat) : Int) := by
    have := u64_and_nat (a / 64) 511 (by omega) (by decide)
    rwa [nat_mask9] at this
  go_enter Try.func23, Try.ntmps23
  go_wp2
  go_quiet (fail)
  go_wp2
  go_ret
  exact ⟨rfl, Dr.of w nq⟩

set_option maxHeartbeats 400000 in
theorem cutu_33 (a : Nat) (w : World) (ha : a < 18446744073709551616) :
    Calls Try.prog 23 #[.int .u64 a, .int .i64 3, .int .i64 3] w fun e w' => e = .returned (.int .u64 (a / 8 % 8 : Nat)) ∧ Dr w w' := by
  have hb : bits .and .u64 ((a : Int) / 8) 7 = ((a / 8 % 8 : Nat) : Int) := by
    have := u64_and_nat (a / 8) 7 (by omega) (by decide)
    rwa [nat_mask3] at this
  go_enter Try.func23, Try.ntmps23
  go_wp2
  go_quiet (fail)
  go_wp2
  go_ret
  exact ⟨rfl, Dr.of w nq⟩

set_option maxHeartbeats 400000 in
theorem cutu_03 (a : Nat) (w : World) (ha : a < 18446744073709551616) :
    Calls Try.prog 23 #[.int .u64 a, .int .i64 0, .int .i64 3] w fun e w' => e = .returned (.int .u64 (a % 8 : Nat)) ∧ Dr w w' := by
  have hb : bits .and .u64 (a : Int) 7 = ((a % 8 : Nat) : Int) := by
    have := u64_and_nat a 7 ha (by decide)
    rwa [nat_mask3] at this
  go_enter Try.func23, Try.ntmps23
  go_wp2
  go_quiet (fail)
  go_wp2
  go_ret
  exact ⟨rfl, Dr.of w nq⟩

set_option maxHeartbeats 400000 in
theorem cuti_09 (p : Int) (w : World) :
    Calls Try.prog 24 #[.int .i64 p, .int .i64 0, .int .i64 9] w fun e w' => e = .returned (.int .i64 (p % 512)) ∧ Dr w w' := by
  have hb : bits .and .i64 p 511 = p % 512 := i64_low p 9 (by decide)
  go_enter Try.func24, Try.ntmps24
  go_wp2
  go_quiet (fail)
  go_wp2
  go_ret
  exact ⟨rfl, Dr.of w nq⟩

set_option maxHeartbeats 400000 in
theorem cuti_03 (p : Int) (w : World) :
    Calls Try.prog 24 #[.int .i64 p, .int .i64 0, .int .i64 3] w fun e w' => e = .returned (.int .i64 (p % 8)) ∧ Dr w w' := by
  have hb : bits .and .i64 p 7 = p % 8 := i64_low p 3 (by decide)
  go_enter Try.func24, Try.ntmps24
  go_wp2
  go_quiet (fail)
  go_wp2
  go_ret
  exact ⟨rfl, Dr.of w nq⟩

set_option maxHeartbeats 400000 in
theorem cuti_33 (p : Int) (w : World) :
    Calls Try.prog 24 #[.int .i64 p, .int .i64 3, .int .i64 3] w fun e w' => e = .returned (.int .i64 (p / 8 % 8)) ∧ Dr w w' := by
  have hb : bits .and .i64 (p / 8) 7 = p / 8 % 8 := i64_low (p / 8) 3 (by decide)
  go_enter Try.func24, Try.ntmps24
  go_wp2
  go_quiet (fail)
  go_wp2
  go_ret
  exact ⟨rfl, Dr.of w nq⟩

set_option maxHeartbeats 400000 in
theorem cuti_63 (p : Int) (w : World) :
    Calls Try.prog 24 #[.int .i64 p, .int .i64 6, .int .i64 3] w fun e w' => e = .returned (.int .i64 (p / 64 % 8)) ∧ Dr w w' := by
  have hb : bits .and .i64 (p / 64) 7 = p / 64 % 8 := i64_low (p / 64) 3 (by decide)
  go_enter Try.func24, Try.ntmps24
  go_wp2
  go_quiet (fail)
  go_wp2
  go_ret
  exact ⟨rfl, Dr.of w nq⟩

/-- is an address canonical? -/
def canB (a : Nat) : Bool := decide (canonN a = a)
/-- is it one of a word? -/
def aliB (a : Nat) : Bool := decide (a % 8 = 0)
theorem canB_eq (a : Nat) : ((canonN a : Int) == (a : Int)) = canB a := by
  rw [Bool.eq_iff_iff]; simp [canB]; omega
theorem aliB_eq (a : Nat) : (((a % 8 : Nat) : Int) == 0) = aliB a := by
  rw [Bool.eq_iff_iff]; simp [aliB]; omega

set_option maxHeartbeats 400000 in
theorem Canon_any (a : Nat) (w : World) :
    Calls Try.prog 10 #[.int .u64 a] w fun e w' => e = .returned (.bool (canB a)) ∧ Dr w w' := by
  go_enter Try.func10, Try.ntmps10
  go_wp2_with fail
  refine (canonical_any a w).mono ?_; rintro e w1 ⟨rfl, h1⟩
  go_wp2_with fail
  go_ret
  exact ⟨ret_bool (by rw [← canB_eq]), h1⟩

set_option maxHeartbeats 400000 in
theorem Aligned_any (a : Nat) (w : World) (ha : a < 18446744073709551616) :
    Calls Try.prog 12 #[.int .u64 a] w fun e w' => e = .returned (.bool (aliB a)) ∧ Dr w w' := by
  go_enter Try.func12, Try.ntmps12
  go_wp2_with fail
  refine (cutu_03 a w ha).mono ?_; rintro e w1 ⟨rfl, h1⟩
  go_wp2_with fail
  go_ret
  exact ⟨ret_bool (by rw [← aliB_eq]; simp), h1⟩

/-- an address's page, and its word -/
def pageN (a : Nat) : Nat := a / 64 % 512
def wordN (a : Nat) : Nat := a / 8 % 8

set_option maxHeartbeats 400000 in
theorem Page_any (a : Nat) (w : World) (ha : a < 18446744073709551616) :
    Calls Try.prog 14 #[.int .u64 a] w fun e w' => e = .returned (.int .i64 (pageN a : Nat)) ∧ Dr w w' := by
  have hb : a / 64 % 512 < 512 := Nat.mod_lt _ (by decide)
  go_enter Try.func14, Try.ntmps14
  go_wp2_with fail
  refine (cutu_69 a w ha).mono ?_; rintro e w1 ⟨rfl, h1⟩
  go_wp2_with fail
  go_ret
  exact ⟨ret_int (by unfold pageN; simp), h1⟩

set_option maxHeartbeats 400000 in
theorem Word_any (a : Nat) (w : World) (ha : a < 18446744073709551616) :
    Calls Try.prog 16 #[.int .u64 a] w fun e w' => e = .returned (.int .i64 (wordN a : Nat)) ∧ Dr w w' := by
  have hb : a / 8 % 8 < 8 := Nat.mod_lt _ (by decide)
  go_enter Try.func16, Try.ntmps16
  go_wp2_with fail
  refine (cutu_33 a w ha).mono ?_; rintro e w1 ⟨rfl, h1⟩
  go_wp2_with fail
  go_ret
  exact ⟨ret_int (by unfold wordN; simp), h1⟩

/-- the address of a page and a word -/
def joinN (p q : Int) : Nat := canonN ((p % 512).toNat * 64 + (q % 8).toNat * 8)

set_option maxHeartbeats 400000 in
theorem Join_any (p q : Int) (w : World) :
    Calls Try.prog 18 #[.int .i64 p, .int .i64 q] w fun e w' => e = .returned (.int .u64 (joinN p q : Nat)) ∧ Dr w w' := by
  have h1 := Int.emod_nonneg p (show (512 : Int) ≠ 0 by decide)
  have h2 := Int.emod_lt_of_pos p (show (0 : Int) < 512 by decide)
  have h3 := Int.emod_nonneg q (show (8 : Int) ≠ 0 by decide)
  have h4 := Int.emod_lt_of_pos q (show (0 : Int) < 8 by decide)
  have e1 : p % 512 = ((p % 512).toNat : Nat) := by omega
  have e2 : q % 8 = ((q % 8).toNat : Nat) := by omega
  have hor : bits .or .u64 (p % 512 * 64) (q % 8 * 8) = (((p % 512).toNat * 64 + (q % 8).toNat * 8 : Nat) : Int) := by
    rw [show p % 512 * 64 = (((p % 512).toNat * 64 : Nat) : Int) by omega, show q % 8 * 8 = (((q % 8).toNat * 8 : Nat) : Int) by omega,
      u64_or_nat _ _ (by omega) (by omega), nat_join 6 _ _ (by omega) (by omega)]
  have J : ∀ w, Calls Try.prog 22 #[.int .u64 (((p % 512).toNat * 64 + (q % 8).toNat * 8 : Nat) : Int)] w fun e w' => e = .returned (.int .u64 (joinN p q : Nat)) ∧ Dr w w' := fun w => canonical_any _ w
  generalize joinN p q = J0 at *
  generalize (((p % 512).toNat * 64 + (q % 8).toNat * 8 : Nat) : Int) = K0 at *
  have C1 := fun w => cuti_09 p w
  have C2 := fun w => cuti_03 q w
  clear e1 e2
  generalize p % 512 = P0 at *
  generalize q % 8 = Q0 at *
  go_enter Try.func18, Try.ntmps18
  go_wp2_with fail
  refine (C1 _).mono ?_; rintro e w1 ⟨rfl, d1⟩
  go_wp2_with fail
  refine (C2 _).mono ?_; rintro e w2 ⟨rfl, d2⟩
  go_wp2_with fail
  refine (J _).mono ?_; rintro e w3 ⟨rfl, d3⟩
  go_wp2_with fail
  go_ret
  exact ⟨rfl, (d1.trans d2).trans d3⟩

/-- the place of a page in its table of a level -/
def idxI (p l : Int) : Int := if l = 3 then p % 512 / 64 else if l = 2 then p % 512 / 8 % 8 else if l = 1 then p % 8 else 0

set_option maxHeartbeats 400000 in
theorem Idx_any (p l : Int) (w : World) (h0 : -9223372036854775808 ≤ l) (h1 : l ≤ 9223372036854775807) :
    Calls Try.prog 20 #[.int .i64 p, .int .i64 l] w fun e w' => e = .returned (.int .i64 (idxI p l)) ∧ Dr w w' := by
  by_cases h3 : l = 3
  · subst h3
    go_enter Try.func20, Try.ntmps20
    go_wp2_with fail
    refine (cuti_63 p w).mono ?_; rintro e w1 ⟨rfl, h1⟩
    go_wp2_with fail
    go_ret
    exact ⟨ret_int (by unfold idxI; simp; omega), h1⟩
  by_cases h2 : l = 2
  · subst h2
    go_enter Try.func20, Try.ntmps20
    go_wp2_with fail
    refine (cuti_33 p w).mono ?_; rintro e w1 ⟨rfl, h1⟩
    go_wp2_with fail
    go_ret
    exact ⟨ret_int (by unfold idxI; simp; omega), h1⟩
  by_cases h4 : l = 1
  · subst h4
    go_enter Try.func20, Try.ntmps20
    go_wp2_with fail
    refine (cuti_03 p w).mono ?_; rintro e w1 ⟨rfl, h1⟩
    go_wp2_with fail
    go_ret
    exact ⟨ret_int (by unfold idxI; simp), h1⟩
  have hz : idxI p l = 0 := by unfold idxI; rw [if_neg h3, if_neg h2, if_neg h4]
  rw [hz]
  clear hz
  by_cases h5 : l < 1
  · clear h3 h2 h4
    go_enter Try.func20, Try.ntmps20
    go_wp2_with fail
    go_ret
    exact ⟨rfl, Dr.refl w⟩
  · have h6 : 3 < l := by omega
    clear h3 h2 h4
    go_enter Try.func20, Try.ntmps20
    go_wp2_with fail
    go_ret
    exact ⟨rfl, Dr.refl w⟩

end Go.Proofs.Ytnmaffgcbpjabaa
