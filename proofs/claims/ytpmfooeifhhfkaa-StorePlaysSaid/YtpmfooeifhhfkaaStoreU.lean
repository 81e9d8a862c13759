/-
  Plain facts for the laws of stores: a page's own row; counting.
-/
import Derived.Test.YtpmfooeifhhfkaaStoreT
namespace Go.Proofs.Ytpmfooeifhhfkaa
open Go.RowKit Go.Maps
section
variable {n a m : Nat} {s : Sr}
theorem SrOk.own1 (h : SrOk n a m s) {q : Pg} (hq : q ∈ s.L) : (ofP s.L q.k.g).count q.f = if q.k.role = 0 then 1 else 0 := by
  have hnd : (ofP s.L q.k.g).Nodup := (List.filter_sublist.map Pg.f).nodup h.ndL
  rw [hnd.count]
  have e : q.f ∈ ofP s.L q.k.g ↔ q.k.role = 0 := by
    unfold ofP
    rw [List.mem_map]
    constructor
    · rintro ⟨p, hp, hf⟩
      rw [List.mem_filter] at hp
      have h1 := h.at_ hp.1
      rw [hf, h.at_ hq] at h1
      cases h1
      exact (of_decide_eq_true hp.2).1
    · intro hr
      exact ⟨q, List.mem_filter.2 ⟨hq, decide_eq_true ⟨hr, rfl⟩⟩, rfl⟩
  by_cases hr : q.k.role = 0
  · rw [if_pos (e.2 hr), if_pos hr]
  · rw [if_neg (fun h' => hr (e.1 h')), if_neg hr]
theorem ofP_len (L : List Pg) (g : Int) : (ofP L g).length ≤ L.length := by
  unfold ofP; rw [List.length_map]; exact List.length_filter_le _ _
theorem count_step {T : List Int} {b : Nat} {x f : Int} (h : T[b]? = some x) : (T.take (b + 1)).count f = (T.take b).count f + if x = f then 1 else 0 := by
  rw [List.take_add_one, h, List.count_append]
  simp only [Option.toList_some, List.count_cons, List.count_nil, beq_iff_eq, Nat.zero_add]
theorem findV_of (h : SrOk n a m s) {q : Pg} (hq : q ∈ s.L) : findV s.L q.k = q.f ∧ (pgOf s.L q.k).isSome = true := by
  have := h.of_ hq
  unfold findV; rw [this]; exact ⟨rfl, rfl⟩
end

end Go.Proofs.Ytpmfooeifhhfkaa
