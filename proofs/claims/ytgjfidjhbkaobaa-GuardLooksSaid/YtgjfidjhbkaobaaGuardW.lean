/-
  What the laws of guard share: the cells of a world; a call, and the live question.
-/
import Derived.Test.YtgjfidjhbkaobaaGuardB
import Derived.Test.YtgjfidjhbkaobaaGuardH
namespace Go.Proofs.Ytgjfidjhbkaobaa
open Go.RowKit Go.Maps

theorem wdC_cells {w : World} {wb hp gq q t dd : Nat} {ty : TypeId} (h : Blk w wb ty (wdC hp gq q t dd)) : w.cell? ⟨wb, 0, none⟩ = some (.pointer (some ⟨hp, 0, none⟩)) ∧ w.cell? ⟨wb, 1, none⟩ = some (.pointer (some ⟨gq, 0, none⟩)) ∧ w.cell? ⟨wb, 2, none⟩ = some (.pointer (some ⟨q, 0, none⟩)) ∧
    w.cell? ⟨wb, 3, none⟩ = some (.pointer (some ⟨t, 0, none⟩)) ∧ w.cell? ⟨wb, 4, none⟩ = some (.pointer (some ⟨dd, 0, none⟩)) := ⟨h.cell 0, h.cell 1, h.cell 2, h.cell 3, h.cell 4⟩
/-- what lies beside a block that has turned -/
theorem SepC.apart {w0 w w' : World} {l : List Th} {g : Nat} {t : TypeId} {cs : Array Value} (H : SepC w0 w (blkT g t cs :: l)) (hc : Chg [g] w w') : SepC w0 w' l := by
  obtain ⟨h0, U, S, V, e, hp, hn, hr⟩ := H
  have hS : S = [g] := hp.1
  subst hS
  exact ⟨h0.trans hc (fun i hi hm => by have := (hn i hm).1; omega), V, hr.chg hc (fun i hi hm => (hn i hm).2 hi)⟩
section
variable {n a m : Nat} {L : List Int} {d : Gd} {s : Sr}
/-- a page of a store -/
theorem SrOk.pageAt (h : SrOk n a m s) {j : Nat} (hj : j < s.L.length) : ∃ q, s.L[j]? = some q ∧ q ∈ s.L ∧ pgAt s.L q.f = some q ∧ keyV s.L q.f = q.k ∧ i64B q.f ∧ (s.L.map Pg.f)[j]? = some q.f := by
  have hq : s.L[j]? = some s.L[j] := List.getElem?_eq_getElem hj
  have hm := List.getElem_mem hj
  have h1 := h.inL hm; have h2 := h.le; have h3 := h.n256
  refine ⟨_, hq, hm, h.at_ hm, ?_, by unfold i64B; omega, by rw [List.getElem?_map, hq]; rfl⟩
  unfold keyV; rw [h.at_ hm]; rfl
end

end Go.Proofs.Ytgjfidjhbkaobaa
