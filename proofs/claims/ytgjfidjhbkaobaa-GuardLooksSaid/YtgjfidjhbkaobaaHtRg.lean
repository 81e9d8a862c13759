/-
  The rights of a hit.
-/
import Derived.Test.YtgjfidjhbkaobaaG9a
import Derived.Test.YtgjfidjhbkaobaaOfE
namespace Go.Proofs.Ytgjfidjhbkaobaa
open Go.RowKit

def Ht.rg (h : Ht) : Rg := ⟨h.w, h.u, h.x⟩

end Go.Proofs.Ytgjfidjhbkaobaa
