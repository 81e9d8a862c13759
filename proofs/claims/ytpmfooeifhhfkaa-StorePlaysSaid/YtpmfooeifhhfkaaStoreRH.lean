/-
  The document's store: one slot is set.
-/
import Derived.Test.YtpmfooeifhhfkaaStoreRG
import Derived.Test.YtpmfooeifhhfkaaPutR
namespace Go.Proofs.Ytpmfooeifhhfkaa
open Go.RowKit Go.Maps

/-- a row of one's own is no block of another type -/
theorem own_nb {α : Type} {E : Enc α} {w : World} {t t' : TypeId} {v : Value} {L : List α} {b : Nat} {cs : Array Value} (h : OwnG E w t v L) (hb : Blk w b t' cs) (hne : (t == t') = false) : ∀ g ∈ v.ownBlock.toList, g ∉ [b] := by
  intro g hg hm
  rw [List.mem_singleton] at hm; subst hm
  obtain ⟨cs', h'⟩ := own_cells h g (by simpa using hg)
  exact (h'.type_ne hb hne) rfl
theorem RAt.nb {w : World} {S : List Nat} {p a n : Nat} {L : List Int} {b : Nat} {t : TypeId} {cs : Array Value} (h : RAt w S p a n L) (hb : Blk w b t cs) (h1 : (121 == t) = false) (h2 : (3 == t) = false) : ∀ i ∈ S, i ∉ [b] := by
  obtain ⟨v, hp, ho, rfl⟩ := h
  intro i hi hm
  rw [List.mem_singleton] at hm; subst hm
  simp only [List.mem_cons] at hi
  rcases hi with rfl | hi
  · exact (hp.type_ne hb h1) rfl
  · obtain ⟨cs', h'⟩ := ho.blk hi
    exact (h'.type_ne hb h2) rfl
section
variable {w w' : World} {q rp rb fp n a m : Nat} {s : Sr} {LA : Option Addr} {lc : Nat} {R : List (Option Addr × Nat)} {FS : List Nat}
/-- the host's words have turned -/
theorem RStX.words (h : RStX w q rp rb fp n a m s LA lc R FS) (hc : Chg [rb] w w') {W : List Int} (hm : RMemAt w' rp rb n W) : RStX w' q rp rb fp n a m ⟨s.L, s.fr, W⟩ LA lc R FS :=
  ⟨hc.blk h.st (by have := h.st.type_ne h.hm.ws (by decide); simpa using this), hm, h.hf.chg hc (h.hf.nb h.hm.ws (by decide) (by decide)), h.hl.chg hc (own_nb h.hl h.hm.ws (by decide)), h.len, fun j q r hq hr => (h.hs j q r hq hr).chg hc (own_nb (h.hs j q r hq hr) h.hm.ws (by decide))⟩
/-- the list of free frames has turned -/
theorem RStX.frees (h : RStX w q rp rb fp n a m s LA lc R FS) {FS' : List Nat} (hc : Chg FS w w') {fr : List Int} (hm : RAt w' FS' fp a m fr) : RStX w' q rp rb fp n a m ⟨s.L, fr, s.W⟩ LA lc R FS' := by
  have hn : ∀ (b : Nat) (t : TypeId) (cs : Array Value), Blk w b t cs → (121 == t) = false → (3 == t) = false → b ∉ FS := fun b t cs hb h1 h2 hm => h.hf.nb hb h1 h2 b hm (by simp)
  have ho : ∀ {α : Type} {E : Enc α} {t : TypeId} {v : Value} {L : List α}, OwnG E w t v L → (121 == t) = false → (3 == t) = false → ∀ g ∈ v.ownBlock.toList, g ∉ FS := fun hh h1 h2 g hg => by
    obtain ⟨cs, hb⟩ := own_cells hh g (by simpa using hg)
    exact hn g _ cs hb h1 h2
  exact ⟨hc.blk h.st (hn _ _ _ h.st (by decide) (by decide)), h.hm.chg hc (hn _ _ _ h.hm.st (by decide) (by decide)) (hn _ _ _ h.hm.ws (by decide) (by decide)), hm, h.hl.chg hc (ho h.hl (by decide) (by decide)), h.len, fun j q r hq hr => (h.hs j q r hq hr).chg hc (ho (h.hs j q r hq hr) (by decide) (by decide))⟩
/-- the cells of a page, and where they lie -/
theorem RStX.page0 (h : RStX w q rp rb fp n a m s LA lc R FS) {j : Nat} {p : Pg} (hq : s.L[j]? = some p) : ∃ (b : Nat) (r : Option Addr × Nat) (cs : Array Value), LA = some ⟨b, 0, none⟩ ∧ R[j]? = some r ∧ Blk w b 104 cs ∧
    w.cell? ⟨b, j * 5, none⟩ = some (.int .i64 p.f) ∧ w.cell? ⟨b, j * 5 + 1, none⟩ = some (.int .i64 p.k.g) ∧ w.cell? ⟨b, j * 5 + 2, none⟩ = some (.int .i64 p.k.lev) ∧ w.cell? ⟨b, j * 5 + 3, none⟩ = some (.int .i64 p.k.role) ∧ w.cell? ⟨b, j * 5 + 4, none⟩ = some (.slice r.1 8 r.2) := by
  have hj := (List.getElem?_eq_some_iff.1 hq).1
  obtain ⟨b, off, p', r, e, hq', hr, d0, d1, d2, d3, d4⟩ := h.page hj
  rw [hq] at hq'; cases hq'
  obtain ⟨A, c, e1, _, hA⟩ := h.hl.form
  injection e1 with e1 _ _
  rw [e] at e1
  obtain ⟨g, e2, _⟩ := hA _ e1.symm
  cases e2
  obtain ⟨cs, hb⟩ := own_cells h.hl b (by rw [e]; simp [Value.ownBlock])
  simp only [Nat.zero_add] at d0 d1 d2 d3 d4
  exact ⟨b, r, cs, e, hr, hb, d0, d1, d2, d3, d4⟩
/-- one page's slots lie elsewhere now -/
theorem RStX.put {b j : Nat} {p : Pg} {r : Option Addr × Nat} {S : List Slt} (h : RStX w q rp rb fp n a m s (some ⟨b, 0, none⟩) lc R FS) (hq : s.L[j]? = some p) (ho : OwnG sltE w 45 (.slice r.1 8 r.2) S) :
    RStX (w.setCell ⟨b, j * 5 + 4, none⟩ (.slice r.1 8 r.2)) q rp rb fp n a m ⟨s.L.set j ⟨p.f, p.k, S⟩, s.fr, s.W⟩ (some ⟨b, 0, none⟩) lc (R.set j r) FS := by
  obtain ⟨b', r0, cs, e, hr0, hb, _⟩ := h.page0 hq
  cases e
  have hc : Chg [b] w (w.setCell ⟨b, j * 5 + 4, none⟩ (.slice r.1 8 r.2)) := (Chg.refl [b] w).setCell (by simp) _
  have hlen := h.len
  have hj := (List.getElem?_eq_some_iff.1 hq).1
  have hls : (s.L.set j ⟨p.f, p.k, S⟩).length = s.L.length := List.length_set
  refine ⟨by show Blk _ q _ #[_, _, .slice _ (s.L.set j _).length lc]; rw [hls]; exact hc.blk h.st (by have := h.st.type_ne hb (by decide); simpa using this), h.hm.chg hc (by have := h.hm.st.type_ne hb (by decide); simpa using this) (by have := h.hm.ws.type_ne hb (by decide); simpa using this), h.hf.chg hc (h.hf.nb hb (by decide) (by decide)), ?_, by simp [hlen], ?_⟩
  · have hx := rowsR_at hq hr0
    have hrow : rowsR (s.L.set j ⟨p.f, p.k, S⟩) (R.set j r) = (rowsR s.L R).set j (p.f, p.k, r) := by
      unfold rowsR
      apply List.ext_getElem?
      intro k
      rw [List.getElem?_zipWith, List.getElem?_set, List.getElem?_set, List.getElem?_set, List.getElem?_zipWith]
      by_cases e : j = k
      · subst e
        rw [if_pos rfl, if_pos rfl, if_pos rfl, if_pos hj, if_pos (by omega), if_pos (by rw [List.length_zipWith]; omega)]
      · rw [if_neg e, if_neg e, if_neg e]
    rw [hrow]
    have := h.hl.setCell (L' := (rowsR s.L R).set j (p.f, p.k, r)) (j * 5 + 4) (.slice r.1 8 r.2) (by simp) (Enc.all_set1 (E := rpE) (i := 4) (y := (p.f, p.k, r)) hx (by decide) rfl)
    show OwnG rpE _ _ (.slice _ (s.L.set j _).length lc) _
    rw [hls]; exact this
  · intro k q' r' hq' hr'
    rw [List.getElem?_set] at hq' hr'
    by_cases e : j = k
    · subst e
      rw [if_pos rfl, if_pos hj] at hq'
      rw [if_pos rfl, if_pos (by omega)] at hr'
      cases hq'; cases hr'
      exact ho.chg hc (own_nb ho hb (by decide))
    · rw [if_neg e] at hq' hr'
      exact (h.hs k q' r' hq' hr').chg hc (own_nb (h.hs k q' r' hq' hr') hb (by decide))
end

end Go.Proofs.Ytpmfooeifhhfkaa
