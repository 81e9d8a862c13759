/-
  The document's map.
-/
import Derived.Test.YtdfmlodmaipnkaaDoorGmapC
namespace Go.Proofs.YtdfmlodmaipnkaaDoor
open Go.RowKit Go.Maps

section
variable {w w' : World} {S T : List Nat} {p : Nat} {L : List Int}
end

theorem contains_take_succ (L : List Int) (k : Nat) (hk : k < L.length) (x : Int) (h1 : (L.take k).contains x = false) (h2 : L.getD k 0 ≠ x) : (L.take (k + 1)).contains x = false := by
  rw [take_snoc L k hk, Bool.eq_false_iff]
  intro hm
  rw [List.contains_iff_mem, List.mem_append, List.mem_singleton] at hm
  rcases hm with hm | hm
  · rw [List.contains_iff_mem.2 hm] at h1; cases h1
  · exact h2 hm.symm
theorem contains_take_mem (L : List Int) (j k : Nat) (hj : j < k) (hk : k < L.length) (x : Int) (h2 : L.getD j 0 = x) : (L.take k).contains x = true := by
  rw [List.contains_iff_mem, ← h2]
  have : (L.take k)[j]? = some (L.getD j 0) := by
    rw [List.getElem?_take, if_pos hj]; simp [List.getD_eq_getElem?_getD, List.getElem?_eq_getElem (show j < L.length by omega)]
  exact List.mem_of_getElem? this

theorem locO_first (L : List Int) (k : Nat) (hk : k < L.length) (h : Int) (h1 : (L.take k).contains h = false) (h2 : L.getD k 0 = h) : locO L h = some (k : Int) := by
  have hm : h ∈ L := by
    rw [← h2]; simp only [List.getD_eq_getElem?_getD, List.getElem?_eq_getElem hk, Option.getD_some]; exact List.getElem_mem hk
  have hn : h ∉ L.take k := fun hm => by rw [List.contains_iff_mem.2 hm] at h1; cases h1
  unfold locO
  rw [List.contains_iff_mem.2 hm, if_pos rfl]
  have e : L = L.take k ++ L.drop k := (List.take_append_drop k L).symm
  have hd : L.drop k = h :: L.drop (k + 1) := by
    rw [List.drop_eq_getElem_cons hk]
    simp only [List.getD_eq_getElem?_getD, List.getElem?_eq_getElem hk, Option.getD_some] at h2
    rw [h2]
  have : L.idxOf h = k := by
    rw [e, List.idxOf_append, if_neg hn, hd, List.idxOf_cons_self, List.length_take]; omega
  rw [this]

end Go.Proofs.YtdfmlodmaipnkaaDoor
