/-
  The arguments of the laws of va: numbers alone.
-/
import Derived.ProofKit
import Derived.OpenShut
import Derived.Test.YtnmaffgcbpjabaaProg
namespace Go.Proofs.Ytnmaffgcbpjabaa
open Go.ChangeShapes Go.WideShapes Go.ChangeAt Go.RowKit

theorem wf_bits {k : IntKind} {n : Int} (h : (Lit.int k n).wf = true) : k.min ≤ n ∧ n ≤ k.max := by
  simpa [Lit.wf] using h

end Go.Proofs.Ytnmaffgcbpjabaa
