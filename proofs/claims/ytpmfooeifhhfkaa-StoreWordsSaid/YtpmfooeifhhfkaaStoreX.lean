/-
  Facts for the law of a store's words: no frame outside changes; a page's word is its slot's entry; Set at a host.
-/
import Derived.Test.YtpmfooeifhhfkaaStoreW
namespace Go.Proofs.Ytpmfooeifhhfkaa
open Go.RowKit Go.Maps
section
variable {n a m : Nat} {s : Sr}
theorem setW_out {W : List Int} {p i v : Int} {j : Nat} (h : ¬ (p = ((j / 8 : Nat) : Int))) : (setW n W p i v)[j]? = W[j]? := by
  unfold setW
  split
  · rename_i hw
    unfold hasW at hw; rw [decide_eq_true_eq] at hw
    rw [List.getElem?_set]
    rw [if_neg]
    intro e; apply h; omega
  · rfl
theorem SrOk.setS_out (_h : SrOk n a m s) {p i f : Int} {x : Slt} {j : Nat} (hp : (a : Int) ≤ p ∧ p < a + m) (hj : j / 8 < a ∨ a + m ≤ j / 8) : (setS n s p i x f).W[j]? = s.W[j]? := by
  rw [setS_W]; exact setW_out (by omega)
theorem SrOk.play_out (h : SrOk n a m s) (o : Ost) {j : Nat} (hj : j / 8 < a ∨ a + m ≤ j / 8) : (playS n s o).W[j]? = s.W[j]? := by
  unfold playS
  split
  · unfold makeS
    split
    · rename_i hb
      obtain ⟨_, _, h3⟩ := makeB_has hb
      have hm : s.fr.getLastD 0 ∈ s.fr := by rw [h3]; simp
      have hbd := h.mem (s.fr.getLastD 0) (List.mem_append.2 (.inr hm))
      have := h.le
      show (fillW n s.W (s.fr.getLastD 0) (zeros 8))[j]? = s.W[j]?
      rw [fill_at (by omega) h.len, if_neg (by omega)]
    · rfl
  split
  · unfold childS
    split
    · rename_i hb
      have hb' : hasS s o.p o.i = true := by unfold childB at hb; simp only [Bool.and_eq_true] at hb; exact hb.1.1
      obtain ⟨_, _, _, _, _, _, h1, h2, _⟩ := hasS_has h hb'
      exact h.setS_out ⟨h1, h2⟩ hj
    · rfl
  split
  · unfold leafS
    split
    · rename_i hb
      have hb' : hasS s o.p o.i = true := by unfold leafB at hb; simp only [Bool.and_eq_true] at hb; exact hb.1.1
      obtain ⟨_, _, _, _, _, _, h1, h2, _⟩ := hasS_has h hb'
      exact h.setS_out ⟨h1, h2⟩ hj
    · rfl
  split
  · unfold clearS
    split
    · rename_i hb
      unfold clearB at hb
      cases e : slotP s.L o.p o.i with
      | none => rw [e] at hb; simp at hb
      | some x =>
        obtain ⟨_, _, _, _, _, _, h1, h2, _⟩ := hasS_has h (slot_hasS e)
        exact h.setS_out ⟨h1, h2⟩ hj
    · rfl
  · unfold dropS
    split
    · show (wipeS s (goneC s.L o.p)).W[j]? = s.W[j]?
      unfold wipeS
      rw [updS_W]
      unfold updW
      rw [List.getElem?_mapIdx]
      cases hw : s.W[j]? with
      | none => rfl
      | some v =>
        rw [Option.map_some]
        have : pgAt s.L ((j / 8 : Nat) : Int) = none := pgAt_none.2 fun q hq e => by have := h.inL hq; omega
        rw [this]; rfl
    · rfl
theorem SrOk.run_out {j : Nat} (hj : j / 8 < a ∨ a + m ≤ j / 8) : ∀ (l : List Ost) {s : Sr}, SrOk n a m s → (runP n s l).W[j]? = s.W[j]?
  | [], _, _ => rfl
  | o :: l, _, h => (SrOk.run_out hj l (h.play o)).trans (h.play_out o hj)
/-- a frame that may be no page keeps its words -/
theorem SrOk.frame_out (h : SrOk n a m s) (l : List Ost) {f : Nat} (hf : f < a ∨ a + m ≤ f) : frameW n (runP n s l).W (f : Int) = frameW n s.W (f : Int) := by
  have e : ∀ W : List Int, frameW n W (f : Int) = if hasF n (f : Int) then (W.drop (f * 8)).take 8 else [] := fun W => by unfold frameW frameOf; rw [Int.toNat_natCast]
  rw [e, e]
  split
  · apply List.ext_getElem?
    intro j
    rw [List.getElem?_take, List.getElem?_take]
    split
    · rw [List.getElem?_drop, List.getElem?_drop]
      exact SrOk.run_out (by omega) l h
    · rfl
  · rfl
end

end Go.Proofs.Ytpmfooeifhhfkaa
