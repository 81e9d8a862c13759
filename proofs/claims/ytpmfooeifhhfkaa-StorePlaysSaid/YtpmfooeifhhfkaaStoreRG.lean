/-
  The document's store: plain facts on one slot, on what a Drop clears; a cell of a row of one's own turns.
-/
import Derived.Test.YtpmfooeifhhfkaaStoreRF
namespace Go.Proofs.Ytpmfooeifhhfkaa
open Go.RowKit Go.Maps
theorem setP_set {L : List Pg} {j : Nat} {q : Pg} (hn : (L.map Pg.f).Nodup) (hq : L[j]? = some q) (i : Nat) (x : Slt) : setP L q.f i x = L.set j ⟨q.f, q.k, q.s.set i x⟩ := by
  unfold setP
  have hj := (List.getElem?_eq_some_iff.1 hq).1
  apply List.ext_getElem?
  intro k
  rw [List.getElem?_map, List.getElem?_set]
  by_cases e : j = k
  · subst e
    rw [hq, if_pos rfl, if_pos hj]; simp
  · rw [if_neg e]
    cases h : L[k]? with
    | none => rfl
    | some q' =>
      have hne : q'.f ≠ q.f := fun ef => e ((List.getElem?_inj (by simpa using hj) hn).1 (by rw [List.getElem?_map, List.getElem?_map, hq, h]; simp [ef]))
      simp [hne]
section
variable {n a m : Nat} {s : Sr}
theorem clrN_app (n : Nat) : ∀ (T U : List (Int × Int)) (s : Sr), clrN n s (T ++ U) = clrN n (clrN n s T) U
  | [], _, _ => rfl
  | _ :: T, U, _ => clrN_app n T U _
/-- a page's own places -/
def own8 (p : Int) : List (Int × Int) := (List.range 8).map fun (i : Nat) => (p, (i : Int))
theorem own8_at (p : Int) {i : Nat} (hi : i < 8) : (own8 p)[i]? = some (p, (i : Int)) := by
  unfold own8; rw [List.getElem?_map, List.getElem?_range hi]; rfl
theorem own8_any (p f : Int) (j : Nat) (hj : j < 8) : ((own8 p).any fun x => decide (f = x.1 ∧ j = x.2.toNat)) = decide (f = p ∧ j < 8) := by
  rw [Bool.eq_iff_iff, List.any_eq_true, decide_eq_true_eq]
  constructor
  · rintro ⟨x, hx, h⟩
    unfold own8 at hx
    rw [List.mem_map] at hx
    obtain ⟨i, _, rfl⟩ := hx
    rw [decide_eq_true_eq] at h
    exact ⟨h.1, hj⟩
  · rintro ⟨rfl, _⟩
    exact ⟨(f, (j : Int)), by unfold own8; exact List.mem_map.2 ⟨j, by simpa using hj, rfl⟩, by simp⟩
/-- all that the document's Drop clears -/
theorem drop_clr (h : SrOk n a m s) {p : Int} (hb : dropB s p = true) : clrN n s (toldP 1 p s.L ++ own8 p) = wipeS s (goneC s.L p) := by
  have hT : ∀ x ∈ toldP 1 p s.L, 0 ≤ x.2 ∧ x.2 ≤ 7 := fun x hx => (told_bound h hx).2
  have hk := clr_ok (toldP 1 p s.L) h
  have e := clr_wipe (toldP 1 p s.L) h hT
  have hb' : dropB (clrN n s (toldP 1 p s.L)) p = true := by
    rw [e]
    unfold dropB wipeS
    rw [updS_L, some_upd]; exact hb
  rw [clrN_app, ← drop_wipe h hb, empty_wipe hk hb' 8 (by omega), clr_wipe (own8 p) hk (fun x hx => by
    unfold own8 at hx
    rw [List.mem_map] at hx
    obtain ⟨i, hi, rfl⟩ := hx
    simp at hi
    simp only; omega)]
  exact wipe_congr hk fun q _ i hi => own8_any p q.f i hi
end

theorem ownsRow_setCell {w : World} {base : Nat} {e : TypeId} {size n c g : Nat} {xs : List Value} (h : w.ownsRow base e size (.slice (some ⟨g, 0, none⟩) n c) n xs) (i : Nat) (u : Value) : (w.setCell ⟨g, i, none⟩ u).ownsRow base e size (.slice (some ⟨g, 0, none⟩) n c) n (xs.set i u) := by
  refine ⟨by simpa using h.1, ?_⟩
  rcases h.2 with ⟨h0, _⟩ | ⟨g', c', cur, hv, hg, hb, h1, h2, h3, h4⟩
  · cases h0
  · injection hv with e1 e2 e3
    injection e1 with e1; injection e1 with e1 _ _
    subst e1; subst e3
    refine .inr ⟨g, c, cur.setIfInBounds i u, rfl, hg, heap_setCell_same w g i cur e _ hb, h1, h2, by simpa using h3, ?_⟩
    rw [Array.toList_setIfInBounds, List.take_set, h4]
/-- one cell of a row of one's own turns -/
theorem OwnG.setCell {α : Type} {E : Enc α} {w : World} {t : TypeId} {g n c : Nat} {L L' : List α} (h : OwnG E w t (.slice (some ⟨g, 0, none⟩) n c) L) (i : Nat) (u : Value) (hl : L'.length = L.length) (he : E.all L' = (E.all L).set i u) :
    OwnG E (w.setCell ⟨g, i, none⟩ u) t (.slice (some ⟨g, 0, none⟩) n c) L' := by
  have hn : L.length = n := h.cap.2.2
  unfold OwnG at h ⊢
  rw [hl, he]
  rw [hn] at h ⊢
  exact ownsRow_setCell h i u
/-- the cells of a row in which one of them turns -/
theorem Enc.all_set1 {α : Type} {E : Enc α} {L : List α} {j i : Nat} {x y : α} {u : Value} (hx : L[j]? = some x) (hi : i < E.k) (hy : E.cl y = (E.cl x).set i u) : E.all (L.set j y) = (E.all L).set (j * E.k + i) u := by
  have hj := (List.getElem?_eq_some_iff.1 hx).1
  have hp := E.pos
  apply List.ext_getElem?
  intro k
  have hd : k = k / E.k * E.k + k % E.k := by have := Nat.div_add_mod k E.k; rw [Nat.mul_comm] at this; omega
  have hm : k % E.k < E.k := Nat.mod_lt _ hp
  have hlen : j * E.k + i < (E.all L).length := by
    rw [E.all_len]
    have := Nat.mul_le_mul_right E.k hj
    rw [Nat.succ_mul] at this; omega
  rw [List.getElem?_set]
  by_cases hk : j * E.k + i = k
  · rw [if_pos hk, if_pos hlen, ← hk, E.all_at _ _ _ hi, List.getElem?_set, if_pos rfl, if_pos hj, Option.bind_some, hy, List.getElem?_set, if_pos rfl, if_pos (by rw [E.len]; exact hi)]
  · rw [if_neg hk]
    conv => lhs; rw [hd, E.all_at _ _ _ hm]
    conv => rhs; rw [hd, E.all_at _ _ _ hm]
    rw [List.getElem?_set]
    by_cases hjk : j = k / E.k
    · rw [if_pos hjk, if_pos hj, ← hjk, hx, Option.bind_some, Option.bind_some, hy, List.getElem?_set, if_neg (fun e => hk (by rw [hjk, e]; exact hd.symm))]
    · rw [if_neg hjk]
theorem sltE_set5 {s : List Slt} {i : Nat} (hi : i < s.length) (x : Slt) : sltE.all (s.set i x) = (((((sltE.all s).set (i * 5) (.int .i64 x.kind)).set (i * 5 + 1) (.int .i64 x.to_)).set (i * 5 + 2) (.bool x.r.w)).set (i * 5 + 3) (.bool x.r.u)).set (i * 5 + 4) (.bool x.r.x) := by
  have hs : ∀ (y : Slt), (s.set i y)[i]? = some y := fun y => by rw [List.getElem?_set, if_pos rfl, if_pos hi]
  obtain ⟨x0, hx0⟩ : ∃ x0, s[i]? = some x0 := ⟨_, List.getElem?_eq_getElem hi⟩
  obtain ⟨k0, t0, ⟨w0, u0, e0⟩⟩ := x0
  obtain ⟨k, t, ⟨w, u, e⟩⟩ := x
  have h1 := Enc.all_set1 (E := sltE) (i := 0) (y := ⟨k, t0, ⟨w0, u0, e0⟩⟩) (u := .int .i64 k) hx0 (by decide) rfl
  have h2 := Enc.all_set1 (E := sltE) (i := 1) (y := ⟨k, t, ⟨w0, u0, e0⟩⟩) (u := .int .i64 t) (hs ⟨k, t0, ⟨w0, u0, e0⟩⟩) (by decide) rfl
  have h3 := Enc.all_set1 (E := sltE) (i := 2) (y := ⟨k, t, ⟨w, u0, e0⟩⟩) (u := .bool w) (hs ⟨k, t, ⟨w0, u0, e0⟩⟩) (by decide) rfl
  have h4 := Enc.all_set1 (E := sltE) (i := 3) (y := ⟨k, t, ⟨w, u, e0⟩⟩) (u := .bool u) (hs ⟨k, t, ⟨w, u0, e0⟩⟩) (by decide) rfl
  have h5 := Enc.all_set1 (E := sltE) (i := 4) (y := ⟨k, t, ⟨w, u, e⟩⟩) (u := .bool e) (hs ⟨k, t, ⟨w, u, e0⟩⟩) (by decide) rfl
  simp only [List.set_set, show sltE.k = 5 from rfl, Nat.add_zero] at h1 h2 h3 h4 h5
  rw [h5, h4, h3, h2, h1]
/-- a slot of a row of one's own turns -/
theorem OwnS.set5 {w : World} {t : TypeId} {g n c : Nat} {s : List Slt} (h : OwnG sltE w t (.slice (some ⟨g, 0, none⟩) n c) s) {i : Nat} (hi : i < s.length) (x : Slt) : OwnG sltE (set5 w g (i * 5) x) t (.slice (some ⟨g, 0, none⟩) n c) (s.set i x) := by
  have hn : s.length = n := h.cap.2.2
  unfold OwnG at h ⊢
  rw [List.length_set, hn, sltE_set5 hi x]
  rw [hn] at h
  unfold Go.Proofs.Ytpmfooeifhhfkaa.set5
  exact ownsRow_setCell (ownsRow_setCell (ownsRow_setCell (ownsRow_setCell (ownsRow_setCell h _ _) _ _) _ _) _ _) _ _

end Go.Proofs.Ytpmfooeifhhfkaa
