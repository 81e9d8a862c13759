/-
  Facts for the law of a store's words: a page's word is its slot's entry; Set at a host; an array of 24 rows of words.
-/
import Derived.Test.YtpmfooeifhhfkaaStoreX
namespace Go.Proofs.Ytpmfooeifhhfkaa
open Go.RowKit Go.Maps
section
variable {n a m : Nat} {s : Sr}
theorem SrOk.entry (h : SrOk n a m s) {q : Pg} (hq : q ∈ s.L) {i : Nat} (hi : i < 8) : ∃ (x : Slt) (v : Nat), slotP s.L q.f (i : Int) = some x ∧ getW n s.W q.f (i : Int) = (v : Int) ∧ hasW n q.f (i : Int) = true ∧ v < 18446744073709551616 ∧
    ((x = Slt.no ∧ v = 0) ∨ ((x.kind = 1 ∨ x.kind = 2) ∧ v ≠ 0 ∧ ∃ f : Int, getE v = entS x f ∧ (x.kind = 1 → f = x.to_))) := by
  obtain ⟨x, hx, hs⟩ := h.slot hq hi
  have hin := h.inL hq
  have hle := h.le
  obtain ⟨F, hF⟩ := Int.eq_ofNat_of_zero_le (show 0 ≤ q.f by omega)
  obtain ⟨f, h0, h1, h2, hw⟩ := h.words q hq i _ hx
  rw [hF, Int.toNat_natCast] at hw
  have hW : hasW n q.f (i : Int) = true := by unfold hasW; rw [decide_eq_true_eq]; omega
  have hg := getW_at (n := n) (by omega) hi hw
  rw [← hF] at hg
  rcases h.kinds q hq x (List.mem_of_getElem? hx) with ⟨_, rfl⟩ | hk
  · exact ⟨Slt.no, 0, hs, hg, hW, by omega, .inl ⟨rfl, rfl⟩⟩
  · have hk' : x.kind = 1 ∨ x.kind = 2 := by
      rcases hk with ⟨e, _⟩ | ⟨e, _⟩
      · exact .inl e
      · exact .inr e
    have hne : ¬ x.kind = 0 := by omega
    have hok : (entS x f).ok = true := by unfold Ent.ok entS; simp only [Bool.not_false, Bool.true_and, Bool.and_eq_true, decide_eq_true_eq]; exact ⟨h0, h1⟩
    have hwv : wordS x f = ((putV (entS x f) : Nat) : Int) := by unfold wordS; rw [if_neg hne]
    have hge : getE (putV (entS x f)) = entS x f := by rw [putV_ok hok]; exact get_put _ hok
    refine ⟨x, putV (entS x f), hs, by rw [hg, hwv], hW, putV_lt _, .inr ⟨hk', fun e => ?_, f, hge, h2⟩⟩
    rw [e] at hge
    have : (getE 0).p = (entS x f).p := by rw [hge]
    have h3 : (getE 0).p = false := by simp [getE]
    rw [h3] at this; cases this
end
theorem getE_zero : getE 0 = ⟨false, false, false, false, false, false, false, false, 0⟩ := by simp [getE]
section
variable {w0 w : World} {l : List Th} {hp hb n : Nat} {W : List Int}
theorem SepC.hSet (H : SepC w0 w (hoT hp hb n W :: l)) (f i v : Int) :
    Calls Try.prog 38 #[.pointer (some ⟨hp, 0, none⟩), .int .i64 f, .int .i64 i, .int .u64 v] w fun e w' => e = .returned (.bool (hasW n f i)) ∧ SepC w0 w' (hoT hp hb n (setW n W f i v) :: l) :=
  H.callV fun S V hS _ _ => by
    obtain ⟨rfl, hm⟩ := hS
    exact (Set_at hp hb n W f i v w hm).mono fun _ _ ⟨he, y, hm'⟩ => ⟨he, [hb, hp], ⟨rfl, hm'⟩, y.weak (fun i _ hi => by simp only [List.mem_cons, List.not_mem_nil, or_false] at hi ⊢; exact .inl hi), fun _ hi => .inl hi⟩
end

/-- an array of 24 rows of eight words, k of them laid -/
def rowsT (g : Nat) (t : TypeId) (F : Nat → List Int) (k : Nat) : Th := ⟨fun w S => ∃ C : Array Value, (C.size = 24 ∧ ∀ j, j < 24 → ∃ A n c, C[j]? = some (.slice A n c)) ∧ Blk w g t C ∧ g ∈ S ∧ (∀ i ∈ S, i < w.heap.size) ∧ ∀ j, j < k → ∃ A c, C[j]? = some (.slice A 8 c) ∧ SlU w A 8 (F j) ∧ ∀ b o, A = some ⟨b, o, none⟩ → b ∈ S ∧ b ≠ g,
  fun h => by obtain ⟨_, _, _, _, h, _⟩ := h; exact h,
  fun h hc hn => by
    obtain ⟨C, h1, h2, h3, h4, h5⟩ := h
    refine ⟨C, h1, h2.chg_ hc (hn _ h3), h3, fun i hi => Nat.lt_of_lt_of_le (h4 i hi) hc.size, fun j hj => ?_⟩
    obtain ⟨A, c, e1, e2, e3⟩ := h5 j hj
    exact ⟨A, c, e1, e2.chg hc fun b o e => hn b (e3 b o e).1, e3⟩⟩
section
variable {w0 w w1 : World} {l : List Th} {g : Nat} {t : TypeId} {F : Nat → List Int} {k : Nat}
theorem SepC.rowGet (H : SepC w0 w (rowsT g t F k :: l)) {j : Nat} (hj : j < k) : ∃ (A : Option Addr) (c : Nat), w.cell? ⟨g, j, none⟩ = some (.slice A 8 c) ∧ SlU w A 8 (F j) := by
  obtain ⟨S, ⟨C, _, h2, _, _, h5⟩, _⟩ := H.fst
  obtain ⟨A, c, e1, e2, _⟩ := h5 j hj
  exact ⟨A, c, (h2.cell j).trans e1, e2⟩
theorem SepC.rowCell (H : SepC w0 w (rowsT g t F k :: l)) {j : Nat} (hj : j < 24) : (∃ A n c, w.cell? ⟨g, j, none⟩ = some (.slice A n c)) ∧ w.frozen? ⟨g, j, none⟩ = false := by
  obtain ⟨S, ⟨C, h1, h2, _⟩, _⟩ := H.fst
  obtain ⟨A, n, c, e⟩ := h1.2 j hj
  exact ⟨⟨A, n, c, (h2.cell j).trans e⟩, h2.frozen j⟩
theorem SepC.rows0 (H : SepC w0 w (blkT g t (Array.replicate 24 (.slice none 0 0)) :: l)) (F : Nat → List Int) : SepC w0 w (rowsT g t F 0 :: l) :=
  H.step (S := [g]) (S' := [g]) (fun _ h => h.1) (Chg.refl _ _) ⟨_, ⟨by simp, fun j hj => ⟨none, 0, 0, by rw [Array.getElem?_replicate, if_pos hj]⟩⟩, H.blk, by simp, fun i hi => by simp only [List.mem_singleton] at hi; rw [hi]; exact H.blk.lt, fun j hj => by omega⟩ fun i hi => .inl hi
theorem SepC.rowPut (H : SepC w0 w (rowsT g t F k :: l)) (y : Chg [] w w1) {A : Option Addr} {c : Nat} (hk : k < 24) (hu : SlU w1 A 8 (F k)) (hA : ∀ b o, A = some ⟨b, o, none⟩ → w.heap.size ≤ b) :
    SepC w0 (w1.setCell ⟨g, k, none⟩ (.slice A 8 c)) (rowsT g t F (k + 1) :: l) := by
  obtain ⟨h0, U, S, V, rfl, ⟨C, h1, h2, h3, h4, h5⟩, hn, hr⟩ := H
  have y2 : Chg [g] w (w1.setCell ⟨g, k, none⟩ (.slice A 8 c)) := (y.weak (by simp)).setCell (p := ⟨g, k, none⟩) (by simp) _
  obtain ⟨b, off, rfl, hb, _⟩ := hu.at_ (by omega)
  have hbw := hA b off rfl
  have hgw : g < w.heap.size := h4 g h3
  have hu2 : SlU (w1.setCell ⟨g, k, none⟩ (.slice (some ⟨b, off, none⟩) 8 c)) (some ⟨b, off, none⟩) 8 (F k) :=
    hu.chg ((Chg.refl [g] w1).setCell (p := ⟨g, k, none⟩) (by simp) _) fun b' o' e => by cases e; simp; omega
  have hz1 := y.size
  have hz2 := ((Chg.refl [g] w1).setCell (p := ⟨g, k, none⟩) (by simp) (Value.slice (some ⟨b, off, none⟩) 8 c)).size
  have hg0 : w0.heap.size ≤ g := (hn g h3).1
  refine ⟨h0.trans y2 (fun i hi hm => by simp only [List.mem_singleton] at hm; omega), (b :: S) ++ V, b :: S, V, rfl, ⟨C.setIfInBounds k (.slice (some ⟨b, off, none⟩) 8 c), ⟨by simp [h1.1], fun j hj => ?_⟩, ?_, List.mem_cons_of_mem _ h3, fun i hi => ?_, fun j hj => ?_⟩, fun i hi => ?_, hr.chg y2 fun i hi hm => ?_⟩
  · by_cases hjk : k = j
    · subst hjk; exact ⟨_, _, _, by rw [Array.getElem?_setIfInBounds, if_pos rfl, if_pos (by have := h1.1; omega)]⟩
    · obtain ⟨A', n', c', e⟩ := h1.2 j hj
      exact ⟨A', n', c', by rw [Array.getElem?_setIfInBounds, if_neg hjk]; exact e⟩
  · have h6 := (h2.chg_ y (by simp)).set_ k (.slice (some ⟨b, off, none⟩) 8 c)
    exact h6
  · simp only [List.mem_cons] at hi
    rcases hi with rfl | hi
    · omega
    · have := h4 i hi; omega
  · by_cases hjk : j = k
    · subst hjk
      refine ⟨_, c, by rw [Array.getElem?_setIfInBounds, if_pos rfl, if_pos (by have := h1.1; omega)], hu2, fun b' o' e => by cases e; exact ⟨by simp, by omega⟩⟩
    · obtain ⟨A', c', e1, e2, e3⟩ := h5 j (by omega)
      refine ⟨A', c', by rw [Array.getElem?_setIfInBounds, if_neg (fun e => hjk e.symm)]; exact e1, ?_, fun b' o' e => ⟨List.mem_cons_of_mem _ (e3 b' o' e).1, (e3 b' o' e).2⟩⟩
      refine e2.chg y2 fun b' o' e hm => ?_
      simp only [List.mem_singleton] at hm
      exact (e3 b' o' e).2 hm
  · simp only [List.mem_cons] at hi
    rcases hi with rfl | hi
    · exact ⟨Nat.le_trans h0.size hbw, fun hm => by have := hr.lt _ hm; omega⟩
    · exact hn i hi
  · simp only [List.mem_singleton] at hm; subst hm
    exact (hn _ h3).2 hi
end

end Go.Proofs.Ytpmfooeifhhfkaa
