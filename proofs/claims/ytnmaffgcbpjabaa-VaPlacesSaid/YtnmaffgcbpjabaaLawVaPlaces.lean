/-
  VaPlaces: the walk.
-/
import Derived.Test.YtnmaffgcbpjabaaVaHead
namespace Go.Proofs.Ytnmaffgcbpjabaa
open Go.RowKit

/-- what of a page is told by the levels above k -/
def upI (z k : Nat) : Int := ((z % 512 / 8 ^ k : Nat) : Int)
def sameB (z y k : Nat) : Bool := decide (z % 512 / 8 ^ k = y % 512 / 8 ^ k)
theorem up_lo (z k : Nat) : 0 ≤ upI z k ∧ upI z k < 512 := by
  unfold upI
  have := Nat.div_le_self (z % 512) (8 ^ k)
  generalize z % 512 / 8 ^ k = d at *
  omega
theorem up_step (z k : Nat) (hk : k < 3) : 0 ≤ idxI ((z : Int) % 512) ((k + 1 : Nat) : Int) ∧ idxI ((z : Int) % 512) ((k + 1 : Nat) : Int) ≤ 7 ∧ 8 * upI z (k + 1) + idxI ((z : Int) % 512) ((k + 1 : Nat) : Int) = upI z k := by
  obtain rfl | rfl | rfl : k = 0 ∨ k = 1 ∨ k = 2 := by omega
  all_goals (unfold idxI upI; simp; omega)
theorem same_step (z y k : Nat) (hk : k < 3) : (sameB z y (k + 1) && (idxI ((z : Int) % 512) ((k + 1 : Nat) : Int) == idxI ((y : Int) % 512) ((k + 1 : Nat) : Int))) = sameB z y k := by
  have h1 := up_step z k hk
  have h2 := up_step y k hk
  unfold upI at h1 h2
  unfold sameB
  rw [Bool.eq_iff_iff]
  simp only [Bool.and_eq_true, decide_eq_true_eq, beq_iff_eq]
  generalize idxI ((z : Int) % 512) ((k + 1 : Nat) : Int) = A at *
  generalize idxI ((y : Int) % 512) ((k + 1 : Nat) : Int) = B at *
  generalize z % 512 / 8 ^ (k + 1) = z1 at *
  generalize y % 512 / 8 ^ (k + 1) = y1 at *
  generalize z % 512 / 8 ^ k = z0 at *
  generalize y % 512 / 8 ^ k = y0 at *
  constructor
  · rintro ⟨rfl, rfl⟩; omega
  · rintro rfl; constructor <;> omega
theorem same_top (z y : Nat) : sameB z y 3 = true := by unfold sameB; rw [decide_eq_true_eq]; omega
theorem up_top (z : Nat) : upI z 3 = 0 := by unfold upI; omega

set_option maxRecDepth 100000 in
set_option maxHeartbeats 1000000 in
theorem VaPlaces_at (z y : Nat) (w : World) (hz : z < 65536) (hy : y < 65536) :
    Calls Try.prog 5 #[.int .u16 z, .int .u16 y] w fun e w' => e = .returned (.bool true) ∧ Chg [] w w' := by
  have hST := same_top z y
  have hUT := up_top z
  have HST := Lib.hid hST; clear hST
  have HUT := Lib.hid hUT; clear hUT
  go_enter Try.func5, Try.ntmps5
  go_wp2_with fail
  refine (head_any _).mono ?_; rintro e w1 ⟨rfl, d1⟩
  go_wp2_with fail
  go_loopw [8, 9, 10] (fun n s l w' => ∃ k : Nat, k ≤ 3 ∧ l = .int .i64 k ∧ n = .int .i64 (upI z k) ∧ s = .bool (sameB z y k) ∧ Dr w w') (fun _ _ l _ => (intOf l).toNat)
  case atStart => exact ⟨3, by omega, rfl, by rw [HUT.out], by rw [HST.out], d1⟩
  case round =>
    obtain ⟨k, hk, rfl, rfl, rfl, dk⟩ := hrel
    clear d1
    cases k with
    | succ k =>
      have hk3 : k < 3 := by omega
      obtain ⟨x0, x1, x2⟩ := up_step z k hk3
      have hs := same_step z y k hk3
      have I1 := fun w => Idx_any ((z : Int) % 512) ((k + 1 : Nat) : Int) w (by omega) (by omega)
      have I2 := fun w => Idx_any ((y : Int) % 512) ((k + 1 : Nat) : Int) w (by omega) (by omega)
      have u0 := up_lo z k
      have u1 := up_lo z (k + 1)
      have X2 := Lib.hid x2; clear x2
      generalize idxI ((z : Int) % 512) ((k + 1 : Nat) : Int) = A at *
      generalize idxI ((y : Int) % 512) ((k + 1 : Nat) : Int) = B at *
      cases hsb : sameB z y (k + 1)
      · rw [hsb, Bool.false_and] at hs
        have HS := Lib.hid hs; clear hs
        clear hsb I2
        go_wp2_with fail
        refine (I1 _).mono ?_; rintro e w2 ⟨rfl, d2⟩
        go_wp2_with fail
        have dx := dk.trans d2
        go_roundw
        case rel => exact ⟨k, by omega, by go_num, by rw [← X2.out], by rw [← HS.out], dx⟩
        case measure => simp [intOf]
      · rw [hsb, Bool.true_and] at hs
        have HS := Lib.hid hs; clear hs
        clear hsb
        go_wp2_with fail
        refine (I1 _).mono ?_; rintro e w2 ⟨rfl, d2⟩
        go_wp2_with fail
        refine (I2 _).mono ?_; rintro e w3 ⟨rfl, d3⟩
        go_wp2_with fail
        have dx := (dk.trans d2).trans d3
        go_roundw
        case rel => exact ⟨k, by omega, by go_num, by rw [← X2.out], by rw [← HS.out], dx⟩
        case measure => simp [intOf]
    | zero =>
      have e1 : upI z 0 = (z : Int) % 512 := by unfold upI; omega
      have e2 : ((z : Int) % 512 == (y : Int) % 512) = sameB z y 0 := by unfold sameB; rw [Bool.eq_iff_iff]; simp; omega
      rw [e1]
      clear e1
      generalize sameB z y 0 = t at *
      go_wp2_with fail
      go_ret
      exact ⟨rfl, dk.chg⟩

end Go.Proofs.Ytnmaffgcbpjabaa
