/-
 The rights of an entry.
-/
import Derived.Test.YtmbgepafpcbakaaGreatDoorG4K
namespace Go.Proofs.YtmbgepafpcbakaaGreatDoor
open Go.RowKit
def ofE (e : Ent) : Rg := ⟨e.w, e.u, !e.n⟩
end Go.Proofs.YtmbgepafpcbakaaGreatDoor
