/-
  A list of calls, and a list of numbers, as arguments of a law of guest.
-/
import Derived.Test.YtepbknndemlbcaaOpen
import Derived.Test.YtepbknndemlbcaaRefA
import Derived.Test.YtepbknndemlbcaaLib2
namespace Go.Proofs.Ytepbknndemlbcaa
open Go.ChangeShapes Go.WideShapes Go.ChangeAt Go.RowKit Go.Deep

section
variable {H : Type} {enc : TypeId × Value → H} {w : World} {base : Nat} {spare : Nat → Bool} {held : Bool}

theorem open_u64s {fuel : Nat} {cs : List Value} {x : DataW H × List MemPlace} (hsp : ∀ b, spare b = true)
    (h : DataW.trod enc Try.prog w base spare held fuel 39 cs = some x) : ∃ A n c zs, cs = [.slice A n c] ∧ n ≤ 9223372036854775807 ∧ (A = none → n = 0 ∧ c = 0) ∧ SlU w A n zs ∧ n ≤ c := by
  obtain ⟨A, n, c, zs, hcs, hm, hnil, hl, _, hat⟩ := open_row Try.underlying39 Try.underlying38 (by kernel_rfl) hsp h
  subst hcs
  exact ⟨A, n, c, zs, rfl, by simpa [maxLen] using hm, hnil, ⟨hl, hat⟩, open_row_cap Try.underlying39 Try.underlying38 (by kernel_rfl) h⟩

theorem open_ops {fuel : Nat} {cs : List Value} {x : DataW H × List MemPlace} (hsp : ∀ b, spare b = true)
    (h : DataW.trod enc Try.prog w base spare held fuel 23 cs = some x) : ∃ A n c, cs = [.slice A n c] ∧ SlOp w A n := by
  obtain ⟨A, n, c, hcs, hm, _, hat⟩ := open_structs Try.underlying23 Try.underlying41 (by kernel_rfl) (by kernel_rfl) (by decide) hsp h
  refine ⟨A, n, c, hcs, by simpa [maxLen] using hm, fun hn => ?_⟩
  obtain ⟨b, off, e, hb, hr⟩ := hat hn
  refine ⟨b, off, e, hb, fun j hj => ?_⟩
  obtain ⟨u0, _, _, k0, t0⟩ := hr j hj 0 _ rfl
  obtain ⟨u1, _, _, k1, t1⟩ := hr j hj 1 _ rfl
  obtain ⟨u2, _, _, k2, t2⟩ := hr j hj 2 _ rfl
  obtain ⟨u3, _, _, k3, t3⟩ := hr j hj 3 _ rfl
  obtain ⟨u4, _, _, k4, t4⟩ := hr j hj 4 _ rfl
  obtain ⟨what, h0, _, w0⟩ := DataW.trod_int Try.underlying3 t0
  obtain ⟨f, h1, _, w1⟩ := DataW.trod_int Try.underlying3 t1
  obtain ⟨i, h2, _, w2⟩ := DataW.trod_int Try.underlying3 t2
  obtain ⟨v, h3, _, w3⟩ := DataW.trod_int Try.underlying38 t3
  obtain ⟨LA, LN, LC, zs, h4, hln, _, hs, hlc⟩ := open_u64s hsp t4
  injection h0 with h0; injection h1 with h1; injection h2 with h2; injection h3 with h3; injection h4 with h4
  subst h0; subst h1; subst h2; subst h3; subst h4
  have b1 := wf_bits w1; have b2 := wf_bits w2
  exact ⟨what, f, i, v, LA, LN, LC, zs, k0, k1, k2, k3, k4, hs, hln, hlc, by simpa [IntKind.min, IntKind.max, IntKind.signed, IntKind.bits] using b1, by simpa [IntKind.min, IntKind.max, IntKind.signed, IntKind.bits] using b2⟩
theorem open_nums {fuel : Nat} {cs : List Value} {x : DataW H × List MemPlace} (hsp : ∀ b, spare b = true)
    (h : DataW.trod enc Try.prog w base spare held fuel 22 cs = some x) : ∃ A n c zs, cs = [.slice A n c] ∧ SlK .i64 w A n zs ∧ (A = none → n = 0 ∧ c = 0) := by
  obtain ⟨A, n, c, zs, hcs, hm, hnil, hl, hw, hat⟩ := open_row Try.underlying22 Try.underlying3 (by kernel_rfl) hsp h
  exact ⟨A, n, c, zs, hcs, ⟨hl, by simpa [maxLen] using hm, fun q hq => wf_bits (hw q hq), hat⟩, hnil⟩
end

end Go.Proofs.Ytepbknndemlbcaa
