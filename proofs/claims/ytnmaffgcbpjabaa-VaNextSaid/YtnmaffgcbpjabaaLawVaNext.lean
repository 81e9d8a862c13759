/-
  VaNext: the walk.
-/
import Derived.Test.YtnmaffgcbpjabaaVaHead
namespace Go.Proofs.Ytnmaffgcbpjabaa
open Go.RowKit

/-- the address of the word k of the page p -/
def adr (p k : Nat) : Nat := if p < 256 then p * 64 + k * 8 else p * 64 + k * 8 + 18446744073709518848
theorem join_adr (z k : Nat) : joinN ((z : Int) % 512) ((k : Int) % 8) = adr (z % 512) (k % 8) := by
  unfold joinN canonN adr
  have e : (((z : Int) % 512) % 512).toNat * 64 + (((k : Int) % 8) % 8).toNat * 8 = z % 512 * 64 + k % 8 * 8 := by omega
  rw [e]
  by_cases h : z % 512 < 256
  · rw [if_pos h, if_pos (by omega)]; omega
  · rw [if_neg h, if_neg (by omega)]; omega
theorem adr_lt (p k : Nat) (hp : p < 512) (hk : k < 8) : adr p k < 18446744073709551616 - 7 := by unfold adr; split <;> omega

theorem next_same (z k : Nat) (hk : k % 8 < 7) : joinN ((z : Int) % 512) ((k : Int) % 8 + 1) = adr (z % 512) (k % 8) + 8 := by
  unfold joinN canonN adr
  have e : (((z : Int) % 512) % 512).toNat * 64 + (((k : Int) % 8 + 1) % 8).toNat * 8 = z % 512 * 64 + k % 8 * 8 + 8 := by omega
  rw [e]
  by_cases h : z % 512 < 256
  · rw [if_pos h, if_pos (by omega)]; omega
  · rw [if_neg h, if_neg (by omega)]; omega
theorem next_page (z k : Nat) (hk : k % 8 = 7) (h1 : z % 512 ≠ 255) (h2 : z % 512 ≠ 511) : joinN ((z : Int) % 512 + 1) 0 = adr (z % 512) (k % 8) + 8 := by
  unfold joinN canonN adr
  have e : (((z : Int) % 512 + 1) % 512).toNat * 64 + ((0 : Int) % 8).toNat * 8 = z % 512 * 64 + k % 8 * 8 + 8 := by omega
  rw [e]
  by_cases h : z % 512 < 256
  · rw [if_pos h, if_pos (by omega)]; omega
  · rw [if_neg h, if_neg (by omega)]; omega
theorem adr_page (z k : Nat) : (pageN (adr (z % 512) (k % 8) + 7) : Int) = (z : Int) % 512 := by
  unfold pageN adr; split <;> omega
theorem adr_word (z k : Nat) : (wordN (adr (z % 512) (k % 8) + 7) : Int) = (k : Int) % 8 := by
  unfold wordN adr; split <;> omega

set_option maxRecDepth 100000 in
set_option maxHeartbeats 1000000 in
theorem VaNext_at (z k : Nat) (w : World) (hz : z < 65536) (hk : k < 256) :
    Calls Try.prog 7 #[.int .u16 z, .int .u8 k] w fun e w' => e = .returned (.bool true) ∧ Chg [] w w' := by
  have J1 := fun w => Join_any ((z : Int) % 512) ((k : Int) % 8) w
  have J2 := fun w => Join_any ((z : Int) % 512) ((k : Int) % 8 + 1) w
  have J3 := fun w => Join_any ((z : Int) % 512 + 1) 0 w
  have hX := adr_lt (z % 512) (k % 8) (Nat.mod_lt _ (by decide)) (Nat.mod_lt _ (by decide))
  have P7 : ∀ w, Calls Try.prog 14 #[.int .u64 ((adr (z % 512) (k % 8) : Int) + 7)] w fun e w' => e = .returned (.int .i64 ((z : Int) % 512)) ∧ Dr w w' := fun w => by
    have := Page_any (adr (z % 512) (k % 8) + 7) w (by omega)
    rwa [adr_page, Int.natCast_add] at this
  have W7 : ∀ w, Calls Try.prog 16 #[.int .u64 ((adr (z % 512) (k % 8) : Int) + 7)] w fun e w' => e = .returned (.int .i64 ((k : Int) % 8)) ∧ Dr w w' := fun w => by
    have := Word_any (adr (z % 512) (k % 8) + 7) w (by omega)
    rwa [adr_word, Int.natCast_add] at this
  rw [join_adr] at J1
  by_cases h7 : k % 8 = 7
  · have e7 : ((k : Int) % 8 == 7) = true := by rw [beq_iff_eq]; omega
    by_cases h1 : z % 512 = 255
    · have e1 : ((z : Int) % 512 == 255) = true := by rw [beq_iff_eq]; omega
      rw [h1, h7] at J1
      clear P7 W7 hX
      have C : ∀ w, Calls Try.prog 10 #[.int .u64 16384] w fun e w' => e = .returned (.bool false) ∧ Dr w w' := fun w => Canon_any 16384 w
      have P : ∀ w, Calls Try.prog 14 #[.int .u64 16384] w fun e w' => e = .returned (.int .i64 256) ∧ Dr w w' := fun w => Page_any 16384 w (by decide)
      have J1' : ∀ w, Calls Try.prog 18 #[.int .i64 ((z : Int) % 512), .int .i64 ((k : Int) % 8)] w fun e w' => e = .returned (.int .u64 16376) ∧ Dr w w' := J1
      clear J1
      clear h1 h7
      generalize joinN ((z : Int) % 512) ((k : Int) % 8 + 1) = N1 at *
      generalize joinN ((z : Int) % 512 + 1) 0 = N2 at *
      go_enter Try.func7, Try.ntmps7
      go_wp2_with fail
      refine (head_any _).mono ?_; rintro e w1 ⟨rfl, d1⟩
      go_wp2_with fail
      refine (J1' _).mono ?_; rintro e w2 ⟨rfl, d2⟩
      go_wp2_with fail
      refine (J2 _).mono ?_; rintro e w3 ⟨rfl, d3⟩
      go_wp2_with fail
      refine (J3 _).mono ?_; rintro e w4 ⟨rfl, d4⟩
      go_wp2_with fail
      refine (C _).mono ?_; rintro e w5 ⟨rfl, d5⟩
      go_wp2_with fail
      refine (P _).mono ?_; rintro e w6 ⟨rfl, d6⟩
      go_wp2_with fail
      go_ret
      exact ⟨rfl, (((((d1.trans d2).trans d3).trans d4).trans d5).trans d6).chg⟩
    · have e1 : ((z : Int) % 512 == 255) = false := by rw [beq_eq_false_iff_ne]; omega
      have hw : IntKind.u64.wrap ((adr (z % 512) (k % 8) : Int) + 8) = (joinN ((z : Int) % 512 + 1) 0 : Int) := by
        rw [IntKind.wrap_u64]
        by_cases h2 : z % 512 = 511
        · rw [show (z : Int) % 512 = 511 by omega, h2, h7]; decide
        · rw [next_page z k h7 h1 h2]
          have : adr (z % 512) (k % 8) + 8 < 18446744073709551616 := by unfold adr; split <;> omega
          omega
      clear h1 h7
      generalize joinN ((z : Int) % 512) ((k : Int) % 8 + 1) = N1 at *
      generalize joinN ((z : Int) % 512 + 1) 0 = N2 at *
      generalize adr (z % 512) (k % 8) = X at *
      go_enter Try.func7, Try.ntmps7
      go_wp2_with fail
      refine (head_any _).mono ?_; rintro e w1 ⟨rfl, d1⟩
      go_wp2_with fail
      refine (J1 _).mono ?_; rintro e w2 ⟨rfl, d2⟩
      go_wp2_with fail
      refine (J2 _).mono ?_; rintro e w3 ⟨rfl, d3⟩
      go_wp2_with fail
      refine (J3 _).mono ?_; rintro e w4 ⟨rfl, d4⟩
      go_wp2_with fail
      refine (P7 _).mono ?_; rintro e w5 ⟨rfl, d5⟩
      go_wp2_with fail
      refine (W7 _).mono ?_; rintro e w6 ⟨rfl, d6⟩
      go_wp2_with fail
      go_ret
      exact ⟨rfl, (((((d1.trans d2).trans d3).trans d4).trans d5).trans d6).chg⟩
  · have e7 : ((k : Int) % 8 == 7) = false := by rw [beq_eq_false_iff_ne]; omega
    rw [next_same z k (by omega)] at J2
    have hX8 : adr (z % 512) (k % 8) + 8 < 18446744073709551616 := by unfold adr; split <;> omega
    clear J3 h7
    generalize adr (z % 512) (k % 8) = X at *
    go_enter Try.func7, Try.ntmps7
    go_wp2_with fail
    refine (head_any _).mono ?_; rintro e w1 ⟨rfl, d1⟩
    go_wp2_with fail
    refine (J1 _).mono ?_; rintro e w2 ⟨rfl, d2⟩
    go_wp2_with fail
    refine (J2 _).mono ?_; rintro e w3 ⟨rfl, d3⟩
    go_wp2_with fail
    refine (P7 _).mono ?_; rintro e w4 ⟨rfl, d4⟩
    go_wp2_with fail
    refine (W7 _).mono ?_; rintro e w5 ⟨rfl, d5⟩
    go_wp2_with fail
    go_ret
    exact ⟨rfl, ((((d1.trans d2).trans d3).trans d4).trans d5).chg⟩

end Go.Proofs.Ytnmaffgcbpjabaa
