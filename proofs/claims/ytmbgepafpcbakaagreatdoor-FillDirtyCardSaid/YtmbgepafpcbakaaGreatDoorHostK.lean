/-
 A host's memory, the program's and the document's, as things that lie beside others.
-/
import Derived.Test.YtmbgepafpcbakaaGreatDoorSepGK
import Derived.Test.YtmbgepafpcbakaaGreatDoorG1K
namespace Go.Proofs.YtmbgepafpcbakaaGreatDoor
open Go.RowKit
def hoT (hp hb n : Nat) (W : List Int) : Th := ⟨fun w U => U = [hb, hp] ∧ MemAt w hp hb n W, fun h i hi => by
 rw [h.1] at hi; simp only [List.mem_cons, List.not_mem_nil, or_false] at hi
 rcases hi with rfl | rfl
 ·exact h.2.ws.lt
 exact h.2.st.lt, fun h hc hn => ⟨h.1, hc.blk h.2.st (hn _ (by rw [h.1]; simp)), hc.blk h.2.ws (hn _ (by rw [h.1]; simp)), h.2.len, h.2.pos, h.2.le⟩⟩
section
variable {w0 w w' : World} {l : List Th} {hp hb n : Nat} {W : List Int}
theorem SepC.hmem (H : SepC w0 w (hoT hp hb n W :: l)) : MemAt w hp hb n W := by
 obtain ⟨_, ⟨_, h⟩, _⟩ := H.fst; exact h
end
end Go.Proofs.YtmbgepafpcbakaaGreatDoor
