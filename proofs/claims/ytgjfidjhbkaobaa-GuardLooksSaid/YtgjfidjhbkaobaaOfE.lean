/-
  The rights of an entry.
-/
import Derived.Test.YtgjfidjhbkaobaaG4
namespace Go.Proofs.Ytgjfidjhbkaobaa
open Go.RowKit

def ofE (e : Ent) : Rg := ⟨e.w, e.u, !e.n⟩

end Go.Proofs.Ytgjfidjhbkaobaa
