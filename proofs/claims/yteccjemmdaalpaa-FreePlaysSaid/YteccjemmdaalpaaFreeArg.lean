/-
  A list of calls, as the laws of free get it.
-/
import Derived.Test.YteccjemmdaalpaaFreeHead
namespace Go.Proofs.Yteccjemmdaalpaa
open Go.RowKit Go.Maps

/-- one call of a list of calls, as it lies in memory -/
structure OpAt (w : World) (b o : Nat) (g : Bool) (f : Int) : Prop where
  c0 : w.cell? ⟨b, o, none⟩ = some (.bool g)
  c1 : w.cell? ⟨b, o + 1, none⟩ = some (.int .i64 f)
  wf : -9223372036854775808 ≤ f ∧ f ≤ 9223372036854775807

/-- a list of calls, as it lies in memory -/
structure SlOp (w : World) (A : Option Addr) (n : Nat) : Prop where
  le : n ≤ 9223372036854775807
  at_ : 0 < n → ∃ b off, A = some ⟨b, off, none⟩ ∧ b < w.heap.size ∧ ∀ j, j < n → ∃ g f, OpAt w b (off + j * 2) g f

theorem OpAt.chg {w w' : World} {b o : Nat} {g : Bool} {f : Int} (h : OpAt w b o g f) (hc : Chg [] w w') (hb : b < w.heap.size) : OpAt w' b o g f :=
  ⟨(hc.cell hb (by simp)).trans h.c0, (hc.cell hb (by simp)).trans h.c1, h.wf⟩
theorem SlOp.chg {w w' : World} {A : Option Addr} {n : Nat} (h : SlOp w A n) (hc : Chg [] w w') : SlOp w' A n :=
  ⟨h.le, fun h0 => by
    obtain ⟨b, off, e, hb, hr⟩ := h.at_ h0
    refine ⟨b, off, e, Nat.lt_of_lt_of_le hb hc.size, fun j hj => ?_⟩
    obtain ⟨g, f, ho⟩ := hr j hj
    exact ⟨g, f, ho.chg hc hb⟩⟩
theorem SlOp.get {w : World} {A : Option Addr} {n : Nat} (h : SlOp w A n) {k : Nat} (hk : k < n) :
    ∃ b off, A = some ⟨b, off, none⟩ ∧ b < w.heap.size ∧ ∃ g f, OpAt w b (off + k * 2) g f := by
  obtain ⟨b, off, e, hb, hr⟩ := h.at_ (by omega)
  exact ⟨b, off, e, hb, hr k hk⟩

end Go.Proofs.Yteccjemmdaalpaa
