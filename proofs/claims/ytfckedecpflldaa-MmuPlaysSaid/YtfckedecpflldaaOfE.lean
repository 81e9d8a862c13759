/-
  The rights of an entry.
-/
import Derived.Test.YtfckedecpflldaaG4
namespace Go.Proofs.Ytfckedecpflldaa
open Go.RowKit

def ofE (e : Ent) : Rg := ⟨e.w, e.u, !e.n⟩

end Go.Proofs.Ytfckedecpflldaa
