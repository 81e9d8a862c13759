/-
  The rights of a hit.
-/
import Derived.Test.YtfckedecpflldaaG9a
import Derived.Test.YtfckedecpflldaaOfE
namespace Go.Proofs.Ytfckedecpflldaa
open Go.RowKit

def Ht.rg (h : Ht) : Rg := ⟨h.w, h.u, h.x⟩

end Go.Proofs.Ytfckedecpflldaa
