/-
 StoreO, StoreHead, StoreQ, StoreT, StoreU, StoreV in one text.
-/
import Derived.Test.YtmbgepafpcbakaaGreatDoorGS3K
import Derived.Test.YtmbgepafpcbakaaGreatDoorSameIK
namespace Go.Proofs.YtmbgepafpcbakaaGreatDoor
open Go.RowKit Go.Maps
section
variable {w0 w : World} {l : List Th} {q hp hb n a m : Nat} {s : Sr}
end
def hd0 : Sr := ⟨[], dnk 4 3, zeros 128⟩
def hd1 : Sr := makeS 16 hd0 ⟨9, 2, 0⟩
def hd2 : Sr := makeS 16 hd1 ⟨5, 1, 0⟩
section
variable {n a m : Nat} {s : Sr}
theorem keyV_at {L : List Pg} {p : Int} {q : Pg} (h : pgAt L p = some q) : keyV L p = q.k := by unfold keyV; rw [h]; rfl
theorem slotV_at {L : List Pg} {p i : Int} {x : Slt} (h : slotP L p i = some x) : slotV L p i = x := by unfold slotV; rw [h]; rfl
end
section
variable {n a m : Nat} {s : Sr}
end
section
variable {n a m : Nat} {s : Sr}
end
section
variable {n a m : Nat} {s : Sr}
end
end Go.Proofs.YtmbgepafpcbakaaGreatDoor
