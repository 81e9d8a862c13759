/-
  ModelS, ModelT in one text.
-/
import Derived.Test.YtgebfagiomcmbaaGreatDoorG10bK
import Derived.Test.YtgebfagiomcmbaaGreatDoorG4rK
import Derived.Laws.BitsAllLaws
namespace Go.Proofs.YtgebfagiomcmbaaGreatDoor
open Go.RowKit

section
variable {n : Nat} {L : List Int} {s : Ms}
end

end Go.Proofs.YtgebfagiomcmbaaGreatDoor

namespace Go.Proofs.YtgebfagiomcmbaaGreatDoor
open Go.RowKit

end Go.Proofs.YtgebfagiomcmbaaGreatDoor
