/-
  A list of numbers as an argument of a law of gmap.
-/
import Derived.Test.YtmnlbolnphcpmaaOpen
import Derived.Test.YtmnlbolnphcpmaaLib2
import Derived.Test.YtmnlbolnphcpmaaProg
namespace Go.Proofs.Ytmnlbolnphcpmaa
open Go.ChangeShapes Go.WideShapes Go.ChangeAt Go.RowKit Go.Deep

section
variable {H : Type} {enc : TypeId × Value → H} {w : World} {base : Nat} {spare : Nat → Bool} {held : Bool}

theorem open_nums {fuel : Nat} {cs : List Value} {x : DataW H × List MemPlace} (hsp : ∀ b, spare b = true)
    (h : DataW.trod enc Try.prog w base spare held fuel 22 cs = some x) : ∃ A n c zs, cs = [.slice A n c] ∧ SlK .i64 w A n zs ∧ (A = none → n = 0 ∧ c = 0) := by
  obtain ⟨A, n, c, zs, hcs, hm, hnil, hl, hw, hat⟩ := open_row Try.underlying22 Try.underlying3 (by kernel_rfl) hsp h
  exact ⟨A, n, c, zs, hcs, ⟨hl, by simpa [maxLen] using hm, fun q hq => wf_bits (hw q hq), hat⟩, hnil⟩
end

end Go.Proofs.Ytmnlbolnphcpmaa
