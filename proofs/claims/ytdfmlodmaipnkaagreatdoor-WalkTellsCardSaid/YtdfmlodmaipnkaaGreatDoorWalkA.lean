/-
  Slices of places, and paths, in memory.
-/
import Derived.Test.YtdfmlodmaipnkaaGreatDoorWalkP
import Derived.Test.YtdfmlodmaipnkaaGreatDoorCls
import Derived.Test.YtdfmlodmaipnkaaGreatDoorLib2
import Derived.Test.YtdfmlodmaipnkaaGreatDoorFields
import Derived.Test.YtdfmlodmaipnkaaGreatDoorProg
namespace Go.Proofs.YtdfmlodmaipnkaaGreatDoor
open Go.RowKit

/-- places as cells -/
def flatA (l : List (Int × Int)) : List Value := l.flatMap fun x => [.int .i64 x.1, .int .i64 x.2]
theorem flatA_nil : flatA [] = [] := rfl
theorem flatA_cons (x : Int × Int) (l : List (Int × Int)) : flatA (x :: l) = .int .i64 x.1 :: .int .i64 x.2 :: flatA l := rfl
theorem flatA_app (l m : List (Int × Int)) : flatA (l ++ m) = flatA l ++ flatA m := by simp [flatA]
theorem flatA_len (l : List (Int × Int)) : (flatA l).length = l.length * 2 := by
  induction l with
  | nil => rfl
  | cons x l ih => rw [flatA_cons, List.length_cons, List.length_cons, ih, List.length_cons]; omega
theorem flatA_get : ∀ (l : List (Int × Int)) (j : Nat) (x : Int × Int), l[j]? = some x → (flatA l)[j * 2]? = some (.int .i64 x.1) ∧ (flatA l)[j * 2 + 1]? = some (.int .i64 x.2)
  | [], j, x, h => by simp at h
  | y :: l, 0, x, h => by
    obtain rfl : y = x := by simpa using h
    exact ⟨rfl, rfl⟩
  | y :: l, j + 1, x, h => by
    have := flatA_get l j x (by simpa using h)
    rw [flatA_cons, show (j + 1) * 2 = j * 2 + 1 + 1 by omega, List.getElem?_cons_succ, List.getElem?_cons_succ, List.getElem?_cons_succ, List.getElem?_cons_succ]
    exact this

/-- a slice of places reads as this list -/
structure SlA (w : World) (A : Option Addr) (n : Nat) (l : List (Int × Int)) : Prop where
  len : l.length = n
  at_ : 0 < n → ∃ b off, A = some ⟨b, off, none⟩ ∧ b < w.heap.size ∧ ∀ j x, l[j]? = some x → w.cell? ⟨b, off + j * 2, none⟩ = some (.int .i64 x.1) ∧ w.cell? ⟨b, off + j * 2 + 1, none⟩ = some (.int .i64 x.2)
section
variable {w w' : World} {A : Option Addr} {n c : Nat} {l : List (Int × Int)} {t : TypeId} {v : Value}
theorem SlA.chg {S : List Nat} (h : SlA w A n l) (hc : Chg S w w') (hn : ∀ b off, A = some ⟨b, off, none⟩ → b ∉ S) : SlA w' A n l :=
  ⟨h.len, fun h0 => by
    obtain ⟨b, off, rfl, hb, hr⟩ := h.at_ h0
    refine ⟨b, off, rfl, Nat.lt_of_lt_of_le hb hc.size, fun j x hj => ?_⟩
    obtain ⟨h1, h2⟩ := hr j x hj
    exact ⟨(hc.cell (p := ⟨b, _, none⟩) hb (hn b off rfl)).trans h1, (hc.cell (p := ⟨b, _, none⟩) hb (hn b off rfl)).trans h2⟩⟩
theorem SlA.self (h : SlA w A n l) (hc : Chg [] w w') : SlA w' A n l := h.chg hc (by simp)
theorem SlA.get (h : SlA w A n l) {k : Nat} (hk : k < n) :
    ∃ b off, A = some ⟨b, off, none⟩ ∧ b < w.heap.size ∧ l[k]? = some (l.getD k (0, 0)) ∧ w.cell? ⟨b, off + k * 2, none⟩ = some (.int .i64 (l.getD k (0, 0)).1) ∧ w.cell? ⟨b, off + k * 2 + 1, none⟩ = some (.int .i64 (l.getD k (0, 0)).2) := by
  obtain ⟨b, off, e, hb, hr⟩ := h.at_ (by omega)
  have hl := h.len
  have hj : l[k]? = some (l.getD k (0, 0)) := by simp [List.getD_eq_getElem?_getD, List.getElem?_eq_getElem (show k < l.length by omega)]
  obtain ⟨h1, h2⟩ := hr k _ hj
  exact ⟨b, off, e, hb, hj, h1, h2⟩
theorem SlA.nil (w : World) : SlA w none 0 [] := ⟨rfl, fun h => absurd h (by omega)⟩

/-- v is a slice of one's own of these places -/
def OwnA (w : World) (t : TypeId) (v : Value) (l : List (Int × Int)) : Prop := w.ownsRow 0 t 2 v l.length (flatA l)
theorem OwnA.none_ (w : World) (t : TypeId) : OwnA w t (.slice none 0 0) [] := World.ownsRow_nil _ _ _ _
theorem OwnA.chg {S : List Nat} (h : OwnA w t v l) (hc : Chg S w w') (hn : ∀ g ∈ v.ownBlock.toList, g ∉ S) : OwnA w' t v l := own_chg h hc fun g hg => hn g (by simp [hg])
theorem OwnA.self (h : OwnA w t v l) (hc : Chg [] w w') : OwnA w' t v l := h.chg hc (by simp)
theorem OwnA.lt (h : OwnA w t v l) : ∀ g ∈ v.ownBlock.toList, g < w.heap.size := fun g hg => (World.ownsRow.lt h g (by simpa using hg)).2
theorem OwnA.alloc (h : OwnA w t v l) (o : Obj) : OwnA (w.alloc o) t v l := World.ownsRow.alloc h o
theorem OwnA.form (h : OwnA w t v l) : ∃ A c, v = .slice A l.length c ∧ (A = none → l.length = 0 ∧ c = 0) ∧ (∀ a, A = some a → ∃ g, a = ⟨g, 0, none⟩ ∧ g < w.heap.size) := by
  obtain ⟨A, c, h1, h2, h3⟩ := own_form h
  exact ⟨A, c, h1, h2, fun a ha => by obtain ⟨g, e, _, h⟩ := h3 a ha; exact ⟨g, e, h⟩⟩
theorem OwnA.sla (h : OwnA w t (.slice A n c) l) : SlA w A n l := by
  obtain ⟨A', c', e, _, _⟩ := h.form
  injection e with _ e _
  subst e
  refine ⟨rfl, fun h0 => ?_⟩
  obtain ⟨g, c', cur, hv, hg, hb, h1, h2, h3, h4⟩ := own_blk h h0
  injection hv with hA
  refine ⟨g, 0, hA, hb.lt, fun j x hj => ?_⟩
  have hjl : j < l.length := (List.getElem?_eq_some_iff.1 hj).1
  obtain ⟨e1, e2⟩ := flatA_get l j x hj
  rw [← h4, List.getElem?_take, if_pos (by omega), Array.getElem?_toList] at e1 e2
  rw [Nat.zero_add, hb.cell, hb.cell]
  exact ⟨e1, e2⟩
theorem OwnA.cap (h : OwnA w t (.slice A n c) l) : n ≤ c := by
  rcases Nat.eq_zero_or_pos n with h0 | h0
  · omega
  · obtain ⟨A', c', e, _, _⟩ := h.form
    injection e with _ e _
    subst e
    obtain ⟨g, c', cur, hv, hg, hb, h1, h2, h3, h4⟩ := own_blk h h0
    injection hv with _ _ e
    omega
end

theorem blk12 {w : World} {g : Nat} {t : TypeId} {x0 x1 x2 x3 x4 x5 x6 x7 x8 x9 x10 x11 : Value} (h : Blk w g t #[x0, x1, x2, x3, x4, x5, x6, x7, x8, x9, x10, x11]) : w.cell? ⟨g, 0, none⟩ = some x0 ∧ w.cell? ⟨g, 1, none⟩ = some x1 ∧ w.cell? ⟨g, 2, none⟩ = some x2 ∧ w.cell? ⟨g, 3, none⟩ = some x3 ∧ w.cell? ⟨g, 4, none⟩ = some x4 ∧ w.cell? ⟨g, 5, none⟩ = some x5 ∧ w.cell? ⟨g, 6, none⟩ = some x6 ∧ w.cell? ⟨g, 7, none⟩ = some x7 ∧ w.cell? ⟨g, 8, none⟩ = some x8 ∧ w.cell? ⟨g, 9, none⟩ = some x9 ∧ w.cell? ⟨g, 10, none⟩ = some x10 ∧ w.cell? ⟨g, 11, none⟩ = some x11 ∧ w.frozen? ⟨g, 0, none⟩ = false ∧ w.frozen? ⟨g, 1, none⟩ = false ∧ w.frozen? ⟨g, 2, none⟩ = false ∧ w.frozen? ⟨g, 3, none⟩ = false ∧ w.frozen? ⟨g, 4, none⟩ = false ∧ w.frozen? ⟨g, 5, none⟩ = false ∧ w.frozen? ⟨g, 6, none⟩ = false ∧ w.frozen? ⟨g, 7, none⟩ = false ∧ w.frozen? ⟨g, 8, none⟩ = false ∧ w.frozen? ⟨g, 9, none⟩ = false ∧ w.frozen? ⟨g, 10, none⟩ = false ∧ w.frozen? ⟨g, 11, none⟩ = false :=
  ⟨h.cell 0, h.cell 1, h.cell 2, h.cell 3, h.cell 4, h.cell 5, h.cell 6, h.cell 7, h.cell 8, h.cell 9, h.cell 10, h.cell 11, h.frozen 0, h.frozen 1, h.frozen 2, h.frozen 3, h.frozen 4, h.frozen 5, h.frozen 6, h.frozen 7, h.frozen 8, h.frozen 9, h.frozen 10, h.frozen 11⟩
theorem set12 {w : World} {g : Nat} {t : TypeId} {x0 x1 x2 x3 x4 x5 x6 x7 x8 x9 x10 x11 y0 y1 y2 y3 y4 y5 y6 y7 y8 y9 y10 y11 : Value} (h : Blk w g t #[x0, x1, x2, x3, x4, x5, x6, x7, x8, x9, x10, x11]) : Blk ((((((((((((w.setCell ⟨g, 0, none⟩ y0).setCell ⟨g, 1, none⟩ y1).setCell ⟨g, 2, none⟩ y2).setCell ⟨g, 3, none⟩ y3).setCell ⟨g, 4, none⟩ y4).setCell ⟨g, 5, none⟩ y5).setCell ⟨g, 6, none⟩ y6).setCell ⟨g, 7, none⟩ y7).setCell ⟨g, 8, none⟩ y8).setCell ⟨g, 9, none⟩ y9).setCell ⟨g, 10, none⟩ y10).setCell ⟨g, 11, none⟩ y11) g t #[y0, y1, y2, y3, y4, y5, y6, y7, y8, y9, y10, y11] := by
  have := ((((((((((((h.set_ 0 y0).set_ 1 y1).set_ 2 y2).set_ 3 y3).set_ 4 y4).set_ 5 y5).set_ 6 y6).set_ 7 y7).set_ 8 y8).set_ 9 y9).set_ 10 y10).set_ 11 y11)
  simpa using this
theorem chg12 {S : List Nat} {a w : World} {g : Nat} {y0 y1 y2 y3 y4 y5 y6 y7 y8 y9 y10 y11 : Value} (h : Chg S a w) (hg : g < a.heap.size → g ∈ S) : Chg S a ((((((((((((w.setCell ⟨g, 0, none⟩ y0).setCell ⟨g, 1, none⟩ y1).setCell ⟨g, 2, none⟩ y2).setCell ⟨g, 3, none⟩ y3).setCell ⟨g, 4, none⟩ y4).setCell ⟨g, 5, none⟩ y5).setCell ⟨g, 6, none⟩ y6).setCell ⟨g, 7, none⟩ y7).setCell ⟨g, 8, none⟩ y8).setCell ⟨g, 9, none⟩ y9).setCell ⟨g, 10, none⟩ y10).setCell ⟨g, 11, none⟩ y11) := ((((((((((((h.setCell (p := ⟨g, 0, none⟩) hg y0).setCell (p := ⟨g, 1, none⟩) hg y1).setCell (p := ⟨g, 2, none⟩) hg y2).setCell (p := ⟨g, 3, none⟩) hg y3).setCell (p := ⟨g, 4, none⟩) hg y4).setCell (p := ⟨g, 5, none⟩) hg y5).setCell (p := ⟨g, 6, none⟩) hg y6).setCell (p := ⟨g, 7, none⟩) hg y7).setCell (p := ⟨g, 8, none⟩) hg y8).setCell (p := ⟨g, 9, none⟩) hg y9).setCell (p := ⟨g, 10, none⟩) hg y10).setCell (p := ⟨g, 11, none⟩) hg y11)
theorem far12 {w : World} {g g' : Nat} {t : TypeId} {cs : Array Value} {y0 y1 y2 y3 y4 y5 y6 y7 y8 y9 y10 y11 : Value} (h : Blk w g' t cs) (hn : g' ≠ g) : Blk ((((((((((((w.setCell ⟨g, 0, none⟩ y0).setCell ⟨g, 1, none⟩ y1).setCell ⟨g, 2, none⟩ y2).setCell ⟨g, 3, none⟩ y3).setCell ⟨g, 4, none⟩ y4).setCell ⟨g, 5, none⟩ y5).setCell ⟨g, 6, none⟩ y6).setCell ⟨g, 7, none⟩ y7).setCell ⟨g, 8, none⟩ y8).setCell ⟨g, 9, none⟩ y9).setCell ⟨g, 10, none⟩ y10).setCell ⟨g, 11, none⟩ y11) g' t cs := ((((((((((((h.far (p := ⟨g, 0, none⟩) hn y0).far (p := ⟨g, 1, none⟩) hn y1).far (p := ⟨g, 2, none⟩) hn y2).far (p := ⟨g, 3, none⟩) hn y3).far (p := ⟨g, 4, none⟩) hn y4).far (p := ⟨g, 5, none⟩) hn y5).far (p := ⟨g, 6, none⟩) hn y6).far (p := ⟨g, 7, none⟩) hn y7).far (p := ⟨g, 8, none⟩) hn y8).far (p := ⟨g, 9, none⟩) hn y9).far (p := ⟨g, 10, none⟩) hn y10).far (p := ⟨g, 11, none⟩) hn y11)
theorem blk7 {w : World} {g : Nat} {t : TypeId} {x0 x1 x2 x3 x4 x5 x6 : Value} (h : Blk w g t #[x0, x1, x2, x3, x4, x5, x6]) : w.cell? ⟨g, 0, none⟩ = some x0 ∧ w.cell? ⟨g, 1, none⟩ = some x1 ∧ w.cell? ⟨g, 2, none⟩ = some x2 ∧ w.cell? ⟨g, 3, none⟩ = some x3 ∧ w.cell? ⟨g, 4, none⟩ = some x4 ∧ w.cell? ⟨g, 5, none⟩ = some x5 ∧ w.cell? ⟨g, 6, none⟩ = some x6 ∧ w.frozen? ⟨g, 0, none⟩ = false ∧ w.frozen? ⟨g, 1, none⟩ = false ∧ w.frozen? ⟨g, 2, none⟩ = false ∧ w.frozen? ⟨g, 3, none⟩ = false ∧ w.frozen? ⟨g, 4, none⟩ = false ∧ w.frozen? ⟨g, 5, none⟩ = false ∧ w.frozen? ⟨g, 6, none⟩ = false :=
  ⟨h.cell 0, h.cell 1, h.cell 2, h.cell 3, h.cell 4, h.cell 5, h.cell 6, h.frozen 0, h.frozen 1, h.frozen 2, h.frozen 3, h.frozen 4, h.frozen 5, h.frozen 6⟩
theorem set7 {w : World} {g : Nat} {t : TypeId} {x0 x1 x2 x3 x4 x5 x6 y0 y1 y2 y3 y4 y5 y6 : Value} (h : Blk w g t #[x0, x1, x2, x3, x4, x5, x6]) : Blk (((((((w.setCell ⟨g, 0, none⟩ y0).setCell ⟨g, 1, none⟩ y1).setCell ⟨g, 2, none⟩ y2).setCell ⟨g, 3, none⟩ y3).setCell ⟨g, 4, none⟩ y4).setCell ⟨g, 5, none⟩ y5).setCell ⟨g, 6, none⟩ y6) g t #[y0, y1, y2, y3, y4, y5, y6] := by
  have := (((((((h.set_ 0 y0).set_ 1 y1).set_ 2 y2).set_ 3 y3).set_ 4 y4).set_ 5 y5).set_ 6 y6)
  simpa using this
theorem chg7 {S : List Nat} {a w : World} {g : Nat} {y0 y1 y2 y3 y4 y5 y6 : Value} (h : Chg S a w) (hg : g < a.heap.size → g ∈ S) : Chg S a (((((((w.setCell ⟨g, 0, none⟩ y0).setCell ⟨g, 1, none⟩ y1).setCell ⟨g, 2, none⟩ y2).setCell ⟨g, 3, none⟩ y3).setCell ⟨g, 4, none⟩ y4).setCell ⟨g, 5, none⟩ y5).setCell ⟨g, 6, none⟩ y6) := (((((((h.setCell (p := ⟨g, 0, none⟩) hg y0).setCell (p := ⟨g, 1, none⟩) hg y1).setCell (p := ⟨g, 2, none⟩) hg y2).setCell (p := ⟨g, 3, none⟩) hg y3).setCell (p := ⟨g, 4, none⟩) hg y4).setCell (p := ⟨g, 5, none⟩) hg y5).setCell (p := ⟨g, 6, none⟩) hg y6)
theorem far7 {w : World} {g g' : Nat} {t : TypeId} {cs : Array Value} {y0 y1 y2 y3 y4 y5 y6 : Value} (h : Blk w g' t cs) (hn : g' ≠ g) : Blk (((((((w.setCell ⟨g, 0, none⟩ y0).setCell ⟨g, 1, none⟩ y1).setCell ⟨g, 2, none⟩ y2).setCell ⟨g, 3, none⟩ y3).setCell ⟨g, 4, none⟩ y4).setCell ⟨g, 5, none⟩ y5).setCell ⟨g, 6, none⟩ y6) g' t cs := (((((((h.far (p := ⟨g, 0, none⟩) hn y0).far (p := ⟨g, 1, none⟩) hn y1).far (p := ⟨g, 2, none⟩) hn y2).far (p := ⟨g, 3, none⟩) hn y3).far (p := ⟨g, 4, none⟩) hn y4).far (p := ⟨g, 5, none⟩) hn y5).far (p := ⟨g, 6, none⟩) hn y6)

/-- a path as a value -/
def pathV (A : Option Addr) (c : Nat) (p : Pa) : Array Value := #[.slice A p.ats.length c, .int .i64 p.g, .bool p.r.w, .bool p.r.u, .bool p.r.x, .bool p.large, .bool p.dirty]

end Go.Proofs.YtdfmlodmaipnkaaGreatDoor
