/-
  The contract of frame's Fill.
-/
import Derived.Test.YtdfmlodmaipnkaaDoorFrameB
namespace Go.Proofs.YtdfmlodmaipnkaaDoor
open Go.RowKit

end Go.Proofs.YtdfmlodmaipnkaaDoor
