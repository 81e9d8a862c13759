/-
 An array of N rows of words; a list of one hit.
-/
import Derived.Test.YtgjfidjhbkaobaaGreatHostK
import Derived.Test.YtgjfidjhbkaobaaGreatTlbsK
namespace Go.Proofs.YtgjfidjhbkaobaaGreat
open Go.RowKit
theorem SepC.hitsForm {w0 w : World} {l : List Th} {v : Value} {T : List Ht} (H : SepC w0 w (hitsT v T :: l)) : ∃ A c, v = .slice A T.length c := by
 obtain ⟨A, c, e, _⟩ := H.hitsOwn.form; exact ⟨A, c, e⟩
section
variable {w0 w w1 : World} {l : List Th} {N g : Nat} {t : TypeId} {F : Nat → List Int} {k : Nat}
end
end Go.Proofs.YtgjfidjhbkaobaaGreat
