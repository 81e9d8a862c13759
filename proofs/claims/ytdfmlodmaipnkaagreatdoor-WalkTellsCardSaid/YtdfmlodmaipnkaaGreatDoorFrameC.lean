/-
  The contract of frame's Fill.
-/
import Derived.Test.YtdfmlodmaipnkaaGreatDoorFrameB
namespace Go.Proofs.YtdfmlodmaipnkaaGreatDoor
open Go.RowKit

end Go.Proofs.YtdfmlodmaipnkaaGreatDoor
