/-
 Facts for the laws of stores: behind a Clear; the words of all frames, one frame behind the other; a number of a list of one's own turns.
-/
import Derived.Test.YtgjfidjhbkaobaaGreatGS4K
namespace Go.Proofs.YtgjfidjhbkaobaaGreat
open Go.RowKit Go.Maps
section
variable {n a m : Nat} {s : Sr}
end
end Go.Proofs.YtgjfidjhbkaobaaGreat
