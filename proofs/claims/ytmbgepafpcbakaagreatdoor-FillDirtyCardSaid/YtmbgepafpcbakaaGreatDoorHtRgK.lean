/-
 The rights of a hit.
-/
import Derived.Test.YtmbgepafpcbakaaGreatDoorG9aK
import Derived.Test.YtmbgepafpcbakaaGreatDoorOfEK
namespace Go.Proofs.YtmbgepafpcbakaaGreatDoor
open Go.RowKit
end Go.Proofs.YtmbgepafpcbakaaGreatDoor
