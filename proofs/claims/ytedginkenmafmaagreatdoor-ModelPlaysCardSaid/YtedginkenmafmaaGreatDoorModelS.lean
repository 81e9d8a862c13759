/-
  Plain facts on models, for the laws: a fresh access.
-/
import Derived.Test.YtedginkenmafmaaGreatDoorModelR
import Derived.Test.YtedginkenmafmaaGreatDoorG4r
namespace Go.Proofs.YtedginkenmafmaaGreatDoor
open Go.RowKit

section
variable {n : Nat} {L : List Int} {s : Ms}
theorem fresh_stop {pn wn k : Int} {u : Bool} {v how code : Int} (h0 : 0 ≤ pn) (h1 : pn < 512) (h2 : 0 ≤ wn) (h3 : wn < 8) (hr : walkP n s.W L s.r pn k u = (Pa.zero, how, code)) (hh : how ≠ 0) :
    accM n L (forgetM s pn) k u (joinN pn wn) v = (⟨s.W, s.r, dropT (dropT s.T 0 pn) 0 pn⟩, ⟨how, 0, code, joinN pn wn⟩) := by
  rw [acc_join _ h0 h1 h2 h3]
  have e : takeM n L (forgetM s pn) pn k u = (⟨s.W, s.r, dropT (dropT s.T 0 pn) 0 pn⟩, Ht.zero, how, code) := by
    unfold takeM freshM forgetM
    simp only
    rw [hasT_drop, Bool.false_and, if_neg (by decide), hr]
    simp only
    rw [if_neg hh]
  rw [e]; unfold goOn; rw [if_neg hh]
theorem fresh_go {pn wn k : Int} {u : Bool} {v : Int} {P : Pa} (h0 : 0 ≤ pn) (h1 : pn < 512) (h2 : 0 ≤ wn) (h3 : wn < 8) (hr : walkP n s.W L s.r pn k u = (P, 0, 0)) :
    accM n L (forgetM s pn) k u (joinN pn wn) v = touchM n L ⟨markP n L P.ats (k == 1) s.W, s.r, putT 512 (dropT (dropT s.T 0 pn) 0 pn) (hitP pn P (k == 1))⟩ P.g wn k v := by
  rw [acc_join _ h0 h1 h2 h3]
  have e : takeM n L (forgetM s pn) pn k u = (⟨markP n L P.ats (k == 1) s.W, s.r, putT 512 (dropT (dropT s.T 0 pn) 0 pn) (hitP pn P (k == 1))⟩, hitP pn P (k == 1), 0, 0) := by
    unfold takeM freshM forgetM
    simp only
    rw [hasT_drop, Bool.false_and, if_neg (by decide), hr]
    rfl
  rw [e]; rfl
theorem usedN_twice (v : Nat) : usedN (usedN v false) false = usedN v false := by
  simp [usedN, Nat.or_assoc]
theorem markTo_get {W : List Int} {ats : List (Int × Int)} (h : InH n L) (hd : L.Nodup) (hW : W.length = 8 * n) (hall : allAts n L ats = true) : ∀ k, k ≤ ats.length → ∀ g i, hasG n L g i = true →
    getG n (markTo n L ats false W k) L g i = if (ats.take k).any (fun a => decide (a = (g, i))) then (usedN (getG n W L g i).toNat false : Int) else getG n W L g i
  | 0, _, g, i, _ => by simp [markTo]
  | k + 1, hk, g, i, hg => by
    have ih := markTo_get h hd hW hall k (by omega) g i hg
    have hkl : k < ats.length := by omega
    have hat := allAts_get hall hkl
    have hlen : (markTo n L ats false W k).length = 8 * n := (markTo_len n L ats false W k).trans hW
    have e1 : ats.take (k + 1) = ats.take k ++ [ats.getD k (0, 0)] := by
      rw [List.take_succ_eq_append_getElem hkl, List.getD_eq_getElem?_getD, List.getElem?_eq_getElem hkl]; rfl
    rw [markTo, get_set h hd hlen hat hg, e1, List.any_append]
    by_cases e : (ats.getD k (0, 0)).1 = g ∧ (ats.getD k (0, 0)).2 = i
    · have ep : ats.getD k (0, 0) = (g, i) := by rw [← e.1, ← e.2]
      rw [if_pos e, ep]
      simp only [List.any_cons, List.any_nil, decide_true, Bool.true_or, Bool.or_true, if_true, Bool.false_and]
      rw [ih]
      split
      · rw [Int.toNat_natCast, usedN_twice]
      · rfl
    · have ep : ats.getD k (0, 0) ≠ (g, i) := fun h => e (by rw [h]; exact ⟨rfl, rfl⟩)
      have ep' : decide (ats.getD k (0, 0) = (g, i)) = false := decide_eq_false ep
      rw [if_neg e, ih]
      simp only [List.any_cons, List.any_nil, ep', Bool.or_false]
theorem mark_get {W : List Int} {ats : List (Int × Int)} (h : InH n L) (hd : L.Nodup) (hW : W.length = 8 * n) (hall : allAts n L ats = true) {g i : Int} (hg : hasG n L g i = true) :
    getG n (markP n L ats false W) L g i = if ats.any (fun a => decide (a = (g, i))) then (usedN (getG n W L g i).toNat false : Int) else getG n W L g i := by
  have := markTo_get h hd hW hall ats.length (Nat.le_refl _) g i hg
  rw [List.take_length] at this
  unfold markP; rw [hall, if_pos rfl]; exact this
end

end Go.Proofs.YtedginkenmafmaaGreatDoor
