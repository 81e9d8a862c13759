/-
  Plain facts for the laws of mmu: a memory that is emptied; an access that the system loads by.
-/
import Derived.Test.YtfckedecpflldaaMmuHead
namespace Go.Proofs.Ytfckedecpflldaa
open Go.RowKit

/-- the first k frames are filled with zeros -/
def fillN (W : List Int) : Nat → List Int
  | 0 => W
  | k + 1 => fillW 16 (fillN W k) k (zeros 8)
theorem fillN_len {W : List Int} : ∀ k, (fillN W k).length = W.length
  | 0 => rfl
  | k + 1 => by rw [fillN, fillW_len]; exact fillN_len k
theorem fillN_at {W : List Int} (hl : W.length = 8 * 16) : ∀ k j, k ≤ 16 → j < 8 * k → (fillN W k)[j]? = some 0
  | 0, j, _, h => absurd h (by omega)
  | k + 1, j, hk, h => by
    rw [fillN, fill_at (by omega) ((fillN_len k).trans hl), Int.toNat_natCast]
    by_cases h2 : k * 8 ≤ j ∧ j < k * 8 + 8
    · rw [if_pos h2]
    · rw [if_neg h2]; exact fillN_at hl k j (by omega) (by omega)
theorem fillN_wd {W : List Int} (h : WdW W) (hl : W.length = 8 * 16) : ∀ k, k ≤ 16 → WdW (fillN W k)
  | 0, _ => h
  | k + 1, hk => by
    intro x hx
    obtain ⟨j, hj, rfl⟩ := List.getElem_of_mem hx
    have e := fill_at (n := 16) (W := fillN W k) (f := (k : Int)) (j := j) (by omega) ((fillN_len k).trans hl)
    have hj' : (fillN W (k + 1))[j]? = some (fillN W (k + 1))[j] := List.getElem?_eq_getElem hj
    have hj2 : (fillW 16 (fillN W k) (k : Int) (zeros 8))[j]? = some (fillN W (k + 1))[j] := hj'
    rw [hj2] at e
    split at e
    · injection e with e; rw [e]; decide
    · exact fillN_wd h hl k (by omega) _ (List.mem_of_getElem? e.symm)
theorem walk_empty {W : List Int} (hl : W.length = 8 * 16) (root page : Int) : walkH 16 (fillN W 16) root page = none := by
  have h0 : ∀ f i, rdH 16 (fillN W 16) f i = none := fun f i => by
    unfold rdH
    by_cases hw : hasW 16 f i = true
    · have hw' := hw
      unfold hasW at hw'
      rw [decide_eq_true_eq] at hw'
      have : getW 16 (fillN W 16) f i = 0 := by
        unfold getW; rw [if_pos hw, List.getD_eq_getElem?_getD, fillN_at hl 16 _ (by omega) (by omega)]; rfl
      rw [this, hw]; rfl
    · rw [show hasW 16 f i = false by simpa using hw]; rfl
  unfold walkH; rw [h0]; rfl
theorem sets_len {n : Nat} : ∀ (l : List Pu) {W : List Int}, (setsW n W l).length = W.length
  | [], _ => rfl
  | x :: l, W => by
    show (setsW n (setW n W x.g x.i x.v) l).length = _
    rw [sets_len l, setW_len]
theorem madeH_len (l : List Pu) : (madeH l).length = 8 * 16 := by unfold madeH; rw [sets_len]; simp [zeros]
theorem may_load (r : Rg) : mayB r 0 false = true := by
  obtain ⟨a, b, c⟩ := r
  cases a <;> cases b <;> cases c <;> rfl

end Go.Proofs.Ytfckedecpflldaa
