/-
  An array of 40 rows of eight words, as one thing that lies beside others. No program is walked here.
-/
import Derived.Test.YtgjfidjhbkaobaaSepG
import Derived.Test.YtgjfidjhbkaobaaG1
namespace Go.Proofs.Ytgjfidjhbkaobaa
open Go.RowKit

/-- an array of 40 rows of eight words, k of them laid -/
def rowsF (g : Nat) (t : TypeId) (F : Nat → List Int) (k : Nat) : Th := ⟨fun w S => ∃ C : Array Value, (C.size = 40 ∧ ∀ j, j < 40 → ∃ A n c, C[j]? = some (.slice A n c)) ∧ Blk w g t C ∧ g ∈ S ∧ (∀ i ∈ S, i < w.heap.size) ∧ ∀ j, j < k → ∃ A c, C[j]? = some (.slice A 8 c) ∧ SlU w A 8 (F j) ∧ ∀ b o, A = some ⟨b, o, none⟩ → b ∈ S ∧ b ≠ g,
  fun h => by obtain ⟨_, _, _, _, h, _⟩ := h; exact h,
  fun h hc hn => by
    obtain ⟨C, h1, h2, h3, h4, h5⟩ := h
    refine ⟨C, h1, h2.chg_ hc (hn _ h3), h3, fun i hi => Nat.lt_of_lt_of_le (h4 i hi) hc.size, fun j hj => ?_⟩
    obtain ⟨A, c, e1, e2, e3⟩ := h5 j hj
    exact ⟨A, c, e1, e2.chg hc fun b o e => hn b (e3 b o e).1, e3⟩⟩
section
variable {w0 w w1 : World} {l : List Th} {g : Nat} {t : TypeId} {F : Nat → List Int} {k : Nat}
theorem SepC.rowGetF (H : SepC w0 w (rowsF g t F k :: l)) {j : Nat} (hj : j < k) : ∃ (A : Option Addr) (c : Nat), w.cell? ⟨g, j, none⟩ = some (.slice A 8 c) ∧ SlU w A 8 (F j) := by
  obtain ⟨S, ⟨C, _, h2, _, _, h5⟩, _⟩ := H.fst
  obtain ⟨A, c, e1, e2, _⟩ := h5 j hj
  exact ⟨A, c, (h2.cell j).trans e1, e2⟩
theorem SepC.rowCellF (H : SepC w0 w (rowsF g t F k :: l)) {j : Nat} (hj : j < 40) : (∃ A n c, w.cell? ⟨g, j, none⟩ = some (.slice A n c)) ∧ w.frozen? ⟨g, j, none⟩ = false := by
  obtain ⟨S, ⟨C, h1, h2, _⟩, _⟩ := H.fst
  obtain ⟨A, n, c, e⟩ := h1.2 j hj
  exact ⟨⟨A, n, c, (h2.cell j).trans e⟩, h2.frozen j⟩
theorem SepC.rowsF0 (H : SepC w0 w (blkT g t (Array.replicate 40 (.slice none 0 0)) :: l)) (F : Nat → List Int) : SepC w0 w (rowsF g t F 0 :: l) :=
  H.step (S := [g]) (S' := [g]) (fun _ h => h.1) (Chg.refl _ _) ⟨_, ⟨by simp, fun j hj => ⟨none, 0, 0, by rw [Array.getElem?_replicate, if_pos hj]⟩⟩, H.blk, by simp, fun i hi => by simp only [List.mem_singleton] at hi; rw [hi]; exact H.blk.lt, fun j hj => by omega⟩ fun i hi => .inl hi
theorem SepC.rowPutF (H : SepC w0 w (rowsF g t F k :: l)) (y : Chg [] w w1) {A : Option Addr} {c : Nat} (hk : k < 40) (hu : SlU w1 A 8 (F k)) (hA : ∀ b o, A = some ⟨b, o, none⟩ → w.heap.size ≤ b) :
    SepC w0 (w1.setCell ⟨g, k, none⟩ (.slice A 8 c)) (rowsF g t F (k + 1) :: l) := by
  obtain ⟨h0, U, S, V, rfl, ⟨C, h1, h2, h3, h4, h5⟩, hn, hr⟩ := H
  have y2 : Chg [g] w (w1.setCell ⟨g, k, none⟩ (.slice A 8 c)) := (y.weak (by simp)).setCell (p := ⟨g, k, none⟩) (by simp) _
  obtain ⟨b, off, rfl, hb, _⟩ := hu.at_ (by omega)
  have hbw := hA b off rfl
  have hgw : g < w.heap.size := h4 g h3
  have hu2 : SlU (w1.setCell ⟨g, k, none⟩ (.slice (some ⟨b, off, none⟩) 8 c)) (some ⟨b, off, none⟩) 8 (F k) :=
    hu.chg ((Chg.refl [g] w1).setCell (p := ⟨g, k, none⟩) (by simp) _) fun b' o' e => by cases e; simp; omega
  have hz1 := y.size
  have hz2 := ((Chg.refl [g] w1).setCell (p := ⟨g, k, none⟩) (by simp) (Value.slice (some ⟨b, off, none⟩) 8 c)).size
  have hg0 : w0.heap.size ≤ g := (hn g h3).1
  refine ⟨h0.trans y2 (fun i hi hm => by simp only [List.mem_singleton] at hm; omega), (b :: S) ++ V, b :: S, V, rfl, ⟨C.setIfInBounds k (.slice (some ⟨b, off, none⟩) 8 c), ⟨by simp [h1.1], fun j hj => ?_⟩, ?_, List.mem_cons_of_mem _ h3, fun i hi => ?_, fun j hj => ?_⟩, fun i hi => ?_, hr.chg y2 fun i hi hm => ?_⟩
  · by_cases hjk : k = j
    · subst hjk; exact ⟨_, _, _, by rw [Array.getElem?_setIfInBounds, if_pos rfl, if_pos (by have := h1.1; omega)]⟩
    · obtain ⟨A', n', c', e⟩ := h1.2 j hj
      exact ⟨A', n', c', by rw [Array.getElem?_setIfInBounds, if_neg hjk]; exact e⟩
  · have h6 := (h2.chg_ y (by simp)).set_ k (.slice (some ⟨b, off, none⟩) 8 c)
    exact h6
  · simp only [List.mem_cons] at hi
    rcases hi with rfl | hi
    · omega
    · have := h4 i hi; omega
  · by_cases hjk : j = k
    · subst hjk
      refine ⟨_, c, by rw [Array.getElem?_setIfInBounds, if_pos rfl, if_pos (by have := h1.1; omega)], hu2, fun b' o' e => by cases e; exact ⟨by simp, by omega⟩⟩
    · obtain ⟨A', c', e1, e2, e3⟩ := h5 j (by omega)
      refine ⟨A', c', by rw [Array.getElem?_setIfInBounds, if_neg (fun e => hjk e.symm)]; exact e1, ?_, fun b' o' e => ⟨List.mem_cons_of_mem _ (e3 b' o' e).1, (e3 b' o' e).2⟩⟩
      refine e2.chg y2 fun b' o' e hm => ?_
      simp only [List.mem_singleton] at hm
      exact (e3 b' o' e).2 hm
  · simp only [List.mem_cons] at hi
    rcases hi with rfl | hi
    · exact ⟨Nat.le_trans h0.size hbw, fun hm => by have := hr.lt _ hm; omega⟩
    · exact hn i hi
  · simp only [List.mem_singleton] at hm; subst hm
    exact (hn _ h3).2 hi
end

end Go.Proofs.Ytgjfidjhbkaobaa
