/-
 Facts for the laws of stores: behind a Clear; the words of all frames, one frame behind the other; a number of a list of one's own turns.
-/
import Derived.Test.YtmbgepafpcbakaaGreatDoorGS4K
namespace Go.Proofs.YtmbgepafpcbakaaGreatDoor
open Go.RowKit Go.Maps
theorem SlG.slu {w : World} {A : Option Addr} {n : Nat} {L : List Int} (h : SlG (numE .u64) w A n L) : SlU w A n L := by
 refine ⟨h.len, fun h0 => ?_⟩
 obtain ⟨b, off, _, e, hb, _, _⟩ := SlN.get h h0
 refine ⟨b, off, e, hb, fun j u hu => ?_⟩
 have hj : j < n := by rw [← h.len]; exact (List.getElem?_eq_some_iff.1 hu).1
 obtain ⟨b', off', x, e', _, hx, hc⟩ := SlN.get h hj
 rw [e] at e'; cases e'
 rw [hu] at hx; cases hx
 exact hc
section
variable {n a m : Nat} {s : Sr}
end
end Go.Proofs.YtmbgepafpcbakaaGreatDoor
