/-
  Plain facts for the laws of stores: what slots tell are ints; pages by their places.
-/
import Derived.Test.YtpmfooeifhhfkaaStoreQ
namespace Go.Proofs.Ytpmfooeifhhfkaa
open Go.RowKit Go.Maps

/-- what slots tell are ints -/
def ToOk (L : List Pg) : Prop := ∀ q ∈ L, ∀ x ∈ q.s, -9223372036854775808 ≤ x.to_ ∧ x.to_ ≤ 9223372036854775807
section
variable {n a m : Nat} {s : Sr}
theorem ToOk.set {L : List Pg} (h : ToOk L) (p : Int) (i : Nat) {x : Slt} (hx : -9223372036854775808 ≤ x.to_ ∧ x.to_ ≤ 9223372036854775807) : ToOk (setP L p i x) := by
  intro q' hq' y hy
  obtain ⟨q, hq, _, _, hs⟩ := mem_setP hq'
  rw [hs] at hy
  split at hy
  · rcases List.mem_or_eq_of_mem_set hy with hy | rfl
    · exact h q hq y hy
    · exact hx
  · exact h q hq y hy
theorem ToOk.wipe (h : ToOk s.L) (c : Int → Nat → Bool) : ToOk (wipeS s c).L := by
  intro q' hq' y hy
  unfold wipeS at hq'
  rw [updS_L] at hq'
  obtain ⟨q, hq, _, _, hs⟩ := mem_upd hq'
  rw [hs, List.mem_mapIdx] at hy
  obtain ⟨i, hi, rfl⟩ := hy
  unfold wipeU updX
  split
  · simp [Slt.no]
  · simp only [Option.map_none, Option.getD_none]; exact h q hq _ (List.getElem_mem hi)
theorem ToOk.play (h : ToOk s.L) {o : Ost} (hw : o.Wf) : ToOk (playS n s o).L := by
  unfold playS
  split
  · unfold makeS
    split
    · intro q hq y hy
      rcases List.mem_append.1 hq with hq | hq
      · exact h q hq y hy
      · rw [List.mem_singleton] at hq; subst hq
        have := List.eq_of_mem_replicate hy
        subst this; simp [Slt.no]
    · exact h
  split
  · unfold childS
    split
    · rw [setS_L]; exact h.set _ _ hw.2
    · exact h
  split
  · unfold leafS
    split
    · rw [setS_L]; exact h.set _ _ hw.2
    · exact h
  split
  · unfold clearS
    split
    · rw [setS_L]; exact h.set _ _ (by simp [Slt.no])
    · exact h
  · unfold dropS
    split
    · intro q hq y hy
      exact h.wipe (goneC s.L o.p) q (List.mem_filter.1 hq).1 y hy
    · exact h
theorem ToOk.run : ∀ (l : List Ost) {s : Sr}, ToOk s.L → (∀ o ∈ l, o.Wf) → ToOk (runP n s l).L
  | [], _, h, _ => h
  | o :: l, _, h, hw => ToOk.run l (h.play (hw o List.mem_cons_self)) fun o' ho => hw o' (List.mem_cons_of_mem _ ho)
theorem st0_to (m : Nat) : ToOk (st0 m).L := by intro q hq; simp [st0] at hq

/-- the page at a place -/
theorem SrOk.place (h : SrOk n a m s) {j : Nat} (hj : j < s.L.length) : ∃ q, s.L[j]? = some q ∧ q ∈ s.L ∧ pgAt s.L q.f = some q ∧ keyV s.L q.f = q.k ∧ (0 ≤ q.f ∧ q.f < 256 ∧ (a : Int) ≤ q.f ∧ q.f < a + m) ∧ (s.L.map Pg.f)[j]? = some q.f := by
  refine ⟨s.L[j], List.getElem?_eq_getElem hj, List.getElem_mem hj, h.at_ (List.getElem_mem hj), keyV_at (h.at_ (List.getElem_mem hj)), ?_, by simp [hj]⟩
  have := h.inL (List.getElem_mem hj)
  have := h.le; have := h.n256
  omega
/-- its slot -/
theorem SrOk.slotAt (h : SrOk n a m s) {j i : Nat} (hi : i < 8) {q : Pg} (hq : s.L[j]? = some q) : ∃ x, q.s[i]? = some x ∧ slotP s.L q.f (i : Int) = some x ∧ x ∈ q.s ∧ ∀ hx : 8 * j + i < 8 * s.L.length, slX s.L ⟨8 * j + i, hx⟩ = x ∧ pgX s.L ⟨8 * j + i, hx⟩ = q := by
  have hqm := List.mem_of_getElem? hq
  obtain ⟨x, h1, h2⟩ := h.slot hqm hi
  refine ⟨x, h1, h2, List.mem_of_getElem? h1, fun hx => ?_⟩
  have e1 : (8 * j + i) / 8 = j := by omega
  have e2 : (8 * j + i) % 8 = i := by omega
  have e3 : pgX s.L ⟨8 * j + i, hx⟩ = q := by
    unfold pgX
    obtain ⟨h3, h4⟩ := List.getElem?_eq_some_iff.1 hq
    simp only [e1]; exact h4
  refine ⟨?_, e3⟩
  unfold slX
  rw [e3]
  simp only [e2, List.getD_eq_getElem?_getD, h1, Option.getD_some]
/-- links among the slots, counted one by one -/
theorem SrOk.lnkN (h : SrOk n a m s) (kind to_ : Int) : ∃ K : Nat → List (Int × Int), K 0 = [] ∧ K (8 * s.L.length) = toldP kind to_ s.L ∧ (∀ z, (K z).length ≤ 2048) ∧
    ∀ j i q x, s.L[j]? = some q → i < 8 → q.s[i]? = some x → K (8 * j + i + 1) = K (8 * j + i) ++ if x.kind = kind ∧ x.to_ = to_ then [(q.f, (i : Int))] else [] := by
  refine ⟨fun z => lnkF kind to_ s.L ((allI s.L.length).take z), by simp [lnkF], ?_, fun z => ?_, fun j i q x hq hi hx => ?_⟩
  · show lnkF kind to_ s.L ((allI s.L.length).take (8 * s.L.length)) = _
    rw [allI_full, lnkF_all h.eight]
  · have h1 := lnkF_len kind to_ s.L ((allI s.L.length).take z)
    have h2 : (allI s.L.length).length = 8 * s.L.length := by unfold allI; simp
    rw [List.length_take, h2] at h1
    have := h.cnt; have := h.le; have := h.n256
    show (lnkF kind to_ s.L ((allI s.L.length).take z)).length ≤ 2048
    omega
  · obtain ⟨hj, hq'⟩ := List.getElem?_eq_some_iff.1 hq
    have hlt : 8 * j + i < 8 * s.L.length := by omega
    obtain ⟨x', h1, _, _, h4⟩ := h.slotAt hi hq
    rw [hx] at h1; cases h1
    obtain ⟨e1, e2⟩ := h4 hlt
    show lnkF kind to_ s.L ((allI s.L.length).take (8 * j + i + 1)) = lnkF kind to_ s.L ((allI s.L.length).take (8 * j + i)) ++ _
    rw [allI_take hlt, lnkF_snoc, e1, e2]
    simp only [show (8 * j + i) % 8 = i by omega]
end

end Go.Proofs.Ytpmfooeifhhfkaa
