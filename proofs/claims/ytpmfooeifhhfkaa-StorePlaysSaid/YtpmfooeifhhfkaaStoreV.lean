/-
  Plain facts for the laws of stores: all slots in one row; behind a Drop.
-/
import Derived.Test.YtpmfooeifhhfkaaStoreU
namespace Go.Proofs.Ytpmfooeifhhfkaa
open Go.RowKit Go.Maps
section
variable {n a m : Nat} {s : Sr}
/-- all slots, one behind the other -/
theorem SrOk.slotsN (h : SrOk n a m s) : ∃ K : Nat → List Slt, K 0 = [] ∧ (∀ z, (K z).length ≤ 2048) ∧ (∀ z, z ≤ 8 * s.L.length → (K z).length = z) ∧
    (∀ j i q x, s.L[j]? = some q → i < 8 → q.s[i]? = some x → K (8 * j + i + 1) = K (8 * j + i) ++ [x]) ∧ ∀ j i q x, s.L[j]? = some q → i < 8 → q.s[i]? = some x → (K (8 * s.L.length))[8 * j + i]? = some x := by
  have h2 : (allI s.L.length).length = 8 * s.L.length := by unfold allI; simp
  have hat : ∀ j i q x, s.L[j]? = some q → i < 8 → q.s[i]? = some x → ∃ hlt : 8 * j + i < 8 * s.L.length, slX s.L ⟨8 * j + i, hlt⟩ = x := by
    intro j i q x hq hi hx
    obtain ⟨hj, _⟩ := List.getElem?_eq_some_iff.1 hq
    obtain ⟨x', h1, _, _, h4⟩ := h.slotAt hi hq
    rw [hx] at h1; cases h1
    exact ⟨by omega, (h4 (by omega)).1⟩
  refine ⟨fun z => ((allI s.L.length).take z).map (slX s.L), by simp, fun z => ?_, fun z hz => ?_, fun j i q x hq hi hx => ?_, fun j i q x hq hi hx => ?_⟩
  · show (((allI s.L.length).take z).map (slX s.L)).length ≤ 2048
    rw [List.length_map, List.length_take, h2]
    have := h.cnt; have := h.le; have := h.n256
    omega
  · show (((allI s.L.length).take z).map (slX s.L)).length = z
    rw [List.length_map, List.length_take, h2]; omega
  · obtain ⟨hlt, e⟩ := hat j i q x hq hi hx
    show ((allI s.L.length).take (8 * j + i + 1)).map (slX s.L) = ((allI s.L.length).take (8 * j + i)).map (slX s.L) ++ [x]
    rw [allI_take hlt, List.map_append, List.map_cons, List.map_nil, e]
  · obtain ⟨hlt, e⟩ := hat j i q x hq hi hx
    show (((allI s.L.length).take (8 * s.L.length)).map (slX s.L))[8 * j + i]? = some x
    rw [allI_full, List.getElem?_map]
    unfold allI
    rw [List.getElem?_eq_getElem (by rw [List.length_finRange]; exact hlt), Option.map_some, List.getElem_finRange]
    exact congrArg some e
theorem drop_none (h : s.L = []) (p : Int) : dropB s p = false := by unfold dropB; rw [h]; rfl
theorem clear_none (h : s.L = []) (p i : Int) : clearB s p i = false := by
  unfold clearB slotP; rw [h]; by_cases hi : 0 ≤ i ∧ i ≤ 7
  · rw [if_pos hi]; rfl
  · rw [if_neg hi]
theorem SrOk.dropped (h : SrOk n a m s) {q : Pg} (hq : q ∈ s.L) : dropB s q.f = true ∧ dropB (dropS s q.f) q.f = false ∧ toldP 1 q.f (dropS s q.f).L = [] := by
  have hb : dropB s q.f = true := by unfold dropB; rw [h.at_ hq]; rfl
  refine ⟨hb, ?_, told_gone h hb⟩
  have e : (dropS s q.f).L = (wipeS s (goneC s.L q.f)).L.filter fun q' => decide (q'.f ≠ q.f) := by unfold dropS; rw [if_pos hb]
  unfold dropB; rw [e, pgAt_filter, if_pos rfl]; rfl
theorem drop_drop {p : Int} (hb : dropB s p = false) : dropS s p = s := by unfold dropS; rw [if_neg (by rw [hb]; simp)]
end

end Go.Proofs.Ytpmfooeifhhfkaa
