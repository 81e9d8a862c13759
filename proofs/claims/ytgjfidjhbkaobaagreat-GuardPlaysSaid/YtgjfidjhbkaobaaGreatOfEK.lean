/-
 The rights of an entry.
-/
import Derived.Test.YtgjfidjhbkaobaaGreatG4K
namespace Go.Proofs.YtgjfidjhbkaobaaGreat
open Go.RowKit
end Go.Proofs.YtgjfidjhbkaobaaGreat
