/-
  The parts of package va: so many bits of a number, and the canonical address.
-/
import Derived.Test.YtdfmlodmaipnkaaGreatDoorLib
import Derived.BigRegion
import Derived.BigQuiet
import Derived.Laws.BitsAllLaws
import Derived.Laws.Shifts
import Derived.Test.YtdfmlodmaipnkaaGreatDoorProg
namespace Go.Proofs.YtdfmlodmaipnkaaGreatDoor
open Go.RowKit

/-- only orders have been drawn -/
def Dr (w w' : World) : Prop := ∃ n, w' = w.drewN n
theorem Dr.refl (w : World) : Dr w w := ⟨0, rfl⟩
theorem Dr.of (w : World) (n : Nat) : Dr w (w.drewN n) := ⟨n, rfl⟩
theorem Dr.trans {a b c : World} (h : Dr a b) (k : Dr b c) : Dr a c := by
  obtain ⟨n, rfl⟩ := h
  obtain ⟨m, rfl⟩ := k
  exact ⟨n + m, by rw [World.drewN_drewN]⟩
theorem Dr.chg {a b : World} (h : Dr a b) : Chg [] a b := by
  obtain ⟨n, rfl⟩ := h
  exact (Chg.refl [] a).drewN n

theorem i64_low (n : Int) (k : Nat) (hk : k < 63) : bits .and .i64 n ((2 ^ k - 1 : Nat) : Int) = n % ((2 ^ k : Nat) : Int) := by
  have hp : 2 ^ k < 2 ^ 63 := Nat.pow_lt_pow_of_lt (by decide) hk
  have h0 : 0 < 2 ^ k := Nat.two_pow_pos k
  have hm : (BitVec.ofInt 64 ((2 ^ k - 1 : Nat) : Int)).toNat = 2 ^ k - 1 := by
    rw [BitVec.ofInt_natCast, BitVec.toNat_ofNat]; exact Nat.mod_eq_of_lt (by omega)
  have key : (BitVec.ofInt 64 n &&& BitVec.ofInt 64 ((2 ^ k - 1 : Nat) : Int)).toNat = (n % ((2 ^ 64 : Nat) : Int)).toNat % 2 ^ k := by
    rw [BitVec.toNat_and, BitVec.toNat_ofInt, hm, Nat.and_two_pow_sub_one_eq_mod]
  show IntKind.i64.wrap ((BitVec.ofInt 64 n &&& BitVec.ofInt 64 ((2 ^ k - 1 : Nat) : Int)).toNat : Nat) = _
  rw [key, IntKind.wrap_i64]
  have hd : ((2 ^ k : Nat) : Int) ∣ ((2 ^ 64 : Nat) : Int) := Int.natCast_dvd_natCast.2 (Nat.pow_dvd_pow 2 (by omega))
  have e1 : (((n % ((2 ^ 64 : Nat) : Int)).toNat % 2 ^ k : Nat) : Int) = n % ((2 ^ k : Nat) : Int) := by
    rw [Int.natCast_emod, Int.toNat_of_nonneg (Int.emod_nonneg _ (by decide)), Int.emod_emod_of_dvd _ hd]
  have h1 := Int.emod_nonneg n (show ((2 ^ k : Nat) : Int) ≠ 0 by omega)
  have h2 := Int.emod_lt_of_pos n (show (0 : Int) < ((2 ^ k : Nat) : Int) by omega)
  rw [e1]
  generalize n % ((2 ^ k : Nat) : Int) = z at *
  omega

/-- the canonical address with the same lowest bits -/
def canonN (a : Nat) : Nat := if a % 32768 < 16384 then a % 32768 else a % 32768 + 18446744073709518848
theorem canonN_lt (a : Nat) : canonN a < 18446744073709551616 := by unfold canonN; split <;> omega

set_option maxHeartbeats 400000 in
theorem cuti_09 (p : Int) (w : World) :
    Calls Tryz.prog 86 #[.int .i64 p, .int .i64 0, .int .i64 9] w fun e w' => e = .returned (.int .i64 (p % 512)) ∧ Dr w w' := by
  have hb : bits .and .i64 p 511 = p % 512 := i64_low p 9 (by decide)
  go_enter Tryz.func86, Tryz.ntmps86
  go_wp2
  go_quiet (fail)
  go_wp2
  go_ret
  exact ⟨rfl, Dr.of w nq⟩

set_option maxHeartbeats 400000 in
theorem cuti_03 (p : Int) (w : World) :
    Calls Tryz.prog 86 #[.int .i64 p, .int .i64 0, .int .i64 3] w fun e w' => e = .returned (.int .i64 (p % 8)) ∧ Dr w w' := by
  have hb : bits .and .i64 p 7 = p % 8 := i64_low p 3 (by decide)
  go_enter Tryz.func86, Tryz.ntmps86
  go_wp2
  go_quiet (fail)
  go_wp2
  go_ret
  exact ⟨rfl, Dr.of w nq⟩

set_option maxHeartbeats 400000 in
theorem cuti_33 (p : Int) (w : World) :
    Calls Tryz.prog 86 #[.int .i64 p, .int .i64 3, .int .i64 3] w fun e w' => e = .returned (.int .i64 (p / 8 % 8)) ∧ Dr w w' := by
  have hb : bits .and .i64 (p / 8) 7 = p / 8 % 8 := i64_low (p / 8) 3 (by decide)
  go_enter Tryz.func86, Tryz.ntmps86
  go_wp2
  go_quiet (fail)
  go_wp2
  go_ret
  exact ⟨rfl, Dr.of w nq⟩

set_option maxHeartbeats 400000 in
theorem cuti_63 (p : Int) (w : World) :
    Calls Tryz.prog 86 #[.int .i64 p, .int .i64 6, .int .i64 3] w fun e w' => e = .returned (.int .i64 (p / 64 % 8)) ∧ Dr w w' := by
  have hb : bits .and .i64 (p / 64) 7 = p / 64 % 8 := i64_low (p / 64) 3 (by decide)
  go_enter Tryz.func86, Tryz.ntmps86
  go_wp2
  go_quiet (fail)
  go_wp2
  go_ret
  exact ⟨rfl, Dr.of w nq⟩

/-- is an address canonical? -/
def canB (a : Nat) : Bool := decide (canonN a = a)
/-- is it one of a word? -/
def aliB (a : Nat) : Bool := decide (a % 8 = 0)
theorem canB_eq (a : Nat) : ((canonN a : Int) == (a : Int)) = canB a := by
  rw [Bool.eq_iff_iff]; simp [canB]; omega
theorem aliB_eq (a : Nat) : (((a % 8 : Nat) : Int) == 0) = aliB a := by
  rw [Bool.eq_iff_iff]; simp [aliB]; omega

/-- an address's page, and its word -/
def pageN (a : Nat) : Nat := a / 64 % 512
def wordN (a : Nat) : Nat := a / 8 % 8

/-- the address of a page and a word -/
def joinN (p q : Int) : Nat := canonN ((p % 512).toNat * 64 + (q % 8).toNat * 8)

/-- the place of a page in its table of a level -/
def idxI (p l : Int) : Int := if l = 3 then p % 512 / 64 else if l = 2 then p % 512 / 8 % 8 else if l = 1 then p % 8 else 0

set_option maxHeartbeats 400000 in
theorem Idx_any (p l : Int) (w : World) (h0 : -9223372036854775808 ≤ l) (h1 : l ≤ 9223372036854775807) :
    Calls Tryz.prog 83 #[.int .i64 p, .int .i64 l] w fun e w' => e = .returned (.int .i64 (idxI p l)) ∧ Dr w w' := by
  by_cases h3 : l = 3
  · subst h3
    go_enter Tryz.func83, Tryz.ntmps83
    go_wp2_with fail
    refine (cuti_63 p w).mono ?_; rintro e w1 ⟨rfl, h1⟩
    go_wp2_with fail
    go_ret
    exact ⟨ret_int (by unfold idxI; simp; omega), h1⟩
  by_cases h2 : l = 2
  · subst h2
    go_enter Tryz.func83, Tryz.ntmps83
    go_wp2_with fail
    refine (cuti_33 p w).mono ?_; rintro e w1 ⟨rfl, h1⟩
    go_wp2_with fail
    go_ret
    exact ⟨ret_int (by unfold idxI; simp; omega), h1⟩
  by_cases h4 : l = 1
  · subst h4
    go_enter Tryz.func83, Tryz.ntmps83
    go_wp2_with fail
    refine (cuti_03 p w).mono ?_; rintro e w1 ⟨rfl, h1⟩
    go_wp2_with fail
    go_ret
    exact ⟨ret_int (by unfold idxI; simp), h1⟩
  have hz : idxI p l = 0 := by unfold idxI; rw [if_neg h3, if_neg h2, if_neg h4]
  rw [hz]
  clear hz
  by_cases h5 : l < 1
  · clear h3 h2 h4
    go_enter Tryz.func83, Tryz.ntmps83
    go_wp2_with fail
    go_ret
    exact ⟨rfl, Dr.refl w⟩
  · have h6 : 3 < l := by omega
    clear h3 h2 h4
    go_enter Tryz.func83, Tryz.ntmps83
    go_wp2_with fail
    go_ret
    exact ⟨rfl, Dr.refl w⟩

end Go.Proofs.YtdfmlodmaipnkaaGreatDoor
