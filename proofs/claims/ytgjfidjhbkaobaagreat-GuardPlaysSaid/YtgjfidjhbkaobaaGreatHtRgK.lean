/-
 The rights of a hit.
-/
import Derived.Test.YtgjfidjhbkaobaaGreatG9aK
import Derived.Test.YtgjfidjhbkaobaaGreatOfEK
namespace Go.Proofs.YtgjfidjhbkaobaaGreat
open Go.RowKit
end Go.Proofs.YtgjfidjhbkaobaaGreat
