/-
 Words that a memory begins with: lists of them as arguments; a host's words that they make.
-/
import Derived.Test.YtmbgepafpcbakaaGreatDoorG0K
import Derived.Test.YtmbgepafpcbakaaGreatDoorWdWK
namespace Go.Proofs.YtmbgepafpcbakaaGreatDoor
open Go.RowKit
structure Pu where
 g : Int
 i : Int
 v : Int
structure SlP (w : World) (A : Option Addr) (n : Nat) (l : List Pu) : Prop where
 le : n ≤ 9223372036854775807
 len : l.length = n
 wf : ∀ x ∈ l, 0 ≤ x.v ∧ x.v < 18446744073709551616
 at_ : 0 < n → ∃ b off, A = some ⟨b, off, none⟩ ∧ b < w.heap.size ∧ ∀ j x, l[j]? = some x →
  w.cell? ⟨b, off + j * 3, none⟩ = some (.int .i64 x.g) ∧ w.cell? ⟨b, off + j * 3 + 1, none⟩ = some (.int .i64 x.i) ∧ w.cell? ⟨b, off + j * 3 + 2, none⟩ = some (.int .u64 x.v)
section
variable {w w' : World} {A : Option Addr} {n : Nat} {l : List Pu}
theorem SlP.chg {S : List Nat} (h : SlP w A n l) (hc : Chg S w w') (hn : ∀ b off, A = some ⟨b, off, none⟩ → b ∉ S) : SlP w' A n l :=
 ⟨h.le, h.len, h.wf, fun h0 => by
  obtain ⟨b, off, rfl, hb, hr⟩ := h.at_ h0
  refine ⟨b, off, rfl, Nat.lt_of_lt_of_le hb hc.size, fun j x hj => ?_⟩
  obtain ⟨h1, h2, h3⟩ := hr j x hj
  exact ⟨(hc.cell (p := ⟨b, _, none⟩) hb (hn b off rfl)).trans h1, (hc.cell (p := ⟨b, _, none⟩) hb (hn b off rfl)).trans h2, (hc.cell (p := ⟨b, _, none⟩) hb (hn b off rfl)).trans h3⟩⟩
theorem SlP.self (h : SlP w A n l) (hc : Chg [] w w') : SlP w' A n l := h.chg hc (by simp)
theorem SlP.get (h : SlP w A n l) {k : Nat} (hk : k < n) :
  ∃ b off x, A = some ⟨b, off, none⟩ ∧ b < w.heap.size ∧ l[k]? = some x ∧ w.cell? ⟨b, off + k * 3, none⟩ = some (.int .i64 x.g) ∧ w.cell? ⟨b, off + k * 3 + 1, none⟩ = some (.int .i64 x.i) ∧ w.cell? ⟨b, off + k * 3 + 2, none⟩ = some (.int .u64 x.v) := by
 obtain ⟨b, off, e, hb, hr⟩ := h.at_ (by omega)
 have hl := h.len
 have hj : l[k]? = some (l[k]'(by omega)) := List.getElem?_eq_getElem (by omega)
 obtain ⟨h1, h2, h3⟩ := hr k _ hj
 exact ⟨b, off, _, e, hb, hj, h1, h2, h3⟩
end
end Go.Proofs.YtmbgepafpcbakaaGreatDoor
