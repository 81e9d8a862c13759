/-
  A list of calls, and one of small numbers, as an argument of a law of free.
-/
import Derived.Test.YteccjemmdaalpaaOpen
import Derived.Test.YteccjemmdaalpaaFreeArg
namespace Go.Proofs.Yteccjemmdaalpaa
open Go.ChangeShapes Go.WideShapes Go.ChangeAt Go.RowKit Go.Deep

section
variable {H : Type} {enc : TypeId × Value → H} {w : World} {base : Nat} {spare : Nat → Bool} {held : Bool}

theorem open_u8s {fuel : Nat} {cs : List Value} {x : DataW H × List MemPlace} (hsp : ∀ b, spare b = true)
    (h : DataW.trod enc Try.prog w base spare held fuel 38 cs = some x) : ∃ A n c zs, cs = [.slice A n c] ∧ SlK .u8 w A n zs := by
  obtain ⟨A, n, c, zs, hcs, hm, hnil, hl, hw, hat⟩ := open_row Try.underlying38 Try.underlying5 (by kernel_rfl) hsp h
  exact ⟨A, n, c, zs, hcs, hl, by simpa [maxLen] using hm, fun q hq => wf_bits (hw q hq), hat⟩

theorem open_ops {fuel : Nat} {cs : List Value} {x : DataW H × List MemPlace} (hsp : ∀ b, spare b = true)
    (h : DataW.trod enc Try.prog w base spare held fuel 22 cs = some x) : ∃ A n c, cs = [.slice A n c] ∧ SlOp w A n := by
  obtain ⟨A, n, c, hcs, hm, _, hat⟩ := open_structs Try.underlying22 Try.underlying29 (by kernel_rfl) (by kernel_rfl) (by decide) hsp h
  refine ⟨A, n, c, hcs, by simpa [maxLen] using hm, fun hn => ?_⟩
  obtain ⟨b, off, e, hb, hr⟩ := hat hn
  refine ⟨b, off, e, hb, fun j hj => ?_⟩
  obtain ⟨u0, _, _, k0, t0⟩ := hr j hj 0 _ rfl
  obtain ⟨u1, _, _, k1, t1⟩ := hr j hj 1 _ rfl
  obtain ⟨g, h0, _⟩ := DataW.trod_bool Try.underlying4 t0
  obtain ⟨f, h1, _, w1⟩ := DataW.trod_int Try.underlying3 t1
  injection h0 with h0; injection h1 with h1
  subst h0; subst h1
  have b1 := wf_bits w1
  exact ⟨g, f, k0, k1, by simpa [IntKind.min, IntKind.max, IntKind.signed, IntKind.bits] using b1⟩
end

end Go.Proofs.Yteccjemmdaalpaa
