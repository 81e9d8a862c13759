/-
 Words of 64 bits.
-/
import Derived.Test.YtmbgepafpcbakaaGreatDoorG1K
namespace Go.Proofs.YtmbgepafpcbakaaGreatDoor
open Go.RowKit
def WdW (W : List Int) : Prop := ∀ x ∈ W, 0 ≤ x ∧ x < 18446744073709551616
theorem WdW.getD {W : List Int} (h : WdW W) (k : Nat) : 0 ≤ W.getD k 0 ∧ W.getD k 0 < 18446744073709551616 := by
 by_cases hk : k < W.length
 ·have hm : W.getD k 0 ∈ W := by
   simp only [List.getD_eq_getElem?_getD, List.getElem?_eq_getElem hk, Option.getD_some]; exact List.getElem_mem hk
  exact h _ hm
 simp [List.getD_eq_getElem?_getD, List.getElem?_eq_none (Nat.le_of_not_lt hk)]
theorem WdW.zeros_ (n : Nat) : WdW (zeros n) := by
 intro x hx
 rw [List.eq_of_mem_replicate hx]; decide
theorem WdW.get_ {W : List Int} (h : WdW W) (n : Nat) (f i : Int) : 0 ≤ getW n W f i ∧ getW n W f i < 18446744073709551616 := by
 unfold getW; split
 ·exact h.getD _
 decide
theorem WdW.nat_ {W : List Int} (h : WdW W) (n : Nat) (f i : Int) : ((getW n W f i).toNat : Int) = getW n W f i ∧ (getW n W f i).toNat < 18446744073709551616 := by
 have := h.get_ n f i
 omega
theorem WdW.setW_ {W : List Int} (h : WdW W) (n : Nat) (f i v : Int) (hv : 0 ≤ v ∧ v < 18446744073709551616) : WdW (setW n W f i v) := by
 unfold setW; split
 ·intro x hx
  rcases List.mem_or_eq_of_mem_set hx with hx | rfl
  ·exact h x hx
  exact hv
 exact h
theorem fill_at {n : Nat} {W : List Int} {f : Int} {j : Nat} (hf : 0 ≤ f ∧ f < n) (hl : W.length = 8 * n) : (fillW n W f (zeros 8))[j]? = if f.toNat * 8 ≤ j ∧ j < f.toNat * 8 + 8 then some 0 else W[j]? := by
 unfold fillW fillB hasF
 have h8 : (zeros 8).length = 8 := rfl
 rw [if_pos (by simp [h8, hf]), setAll_get _ _ _ _ (by rw [h8]; omega), h8]
 split
 ·rename_i h
  unfold zeros
  rw [List.getElem?_replicate, if_pos (by omega)]
 rfl
theorem frameW_take {n : Nat} {W : List Int} {f : Nat} (hl : W.length = 8 * n) (hf : f < n) : W.take (8 * (f + 1)) = W.take (8 * f) ++ frameW n W (f : Int) ∧ (frameW n W (f : Int)).length = 8 := by
 have e : frameW n W (f : Int) = (W.drop (8 * f)).take 8 := by
  unfold frameW frameOf hasF; rw [if_pos (by rw [decide_eq_true_eq]; omega), Int.toNat_natCast, Nat.mul_comm]
 rw [e]
 refine ⟨?_, by rw [List.length_take, List.length_drop]; omega⟩
 rw [show 8 * (f + 1) = 8 * f + 8 by omega, List.take_add]
end Go.Proofs.YtmbgepafpcbakaaGreatDoor
