/-
  A list of words that a memory begins with, as an argument of a law.
-/
import Derived.Test.YtgjfidjhbkaobaaOpen
import Derived.Test.YtgjfidjhbkaobaaPuts
import Derived.RowKitTokens
namespace Go.Proofs.Ytgjfidjhbkaobaa
open Go.ChangeShapes Go.WideShapes Go.ChangeAt Go.RowKit Go.Deep

theorem list_ofP {α : Type} (Q : Nat → α → Prop) : ∀ n, (∀ j, j < n → ∃ r, Q j r) → ∃ L : List α, L.length = n ∧ ∀ j r, L[j]? = some r → Q j r
  | 0, _ => ⟨[], rfl, by simp⟩
  | n + 1, h => by
    obtain ⟨L, hl, hL⟩ := list_ofP Q n fun j hj => h j (by omega)
    obtain ⟨r, hr⟩ := h n (by omega)
    refine ⟨L ++ [r], by simp [hl], fun j q hq => ?_⟩
    rcases Nat.lt_or_ge j n with hj | hj
    · rw [List.getElem?_append_left (by omega)] at hq; exact hL j q hq
    · rw [List.getElem?_append_right (by omega)] at hq
      have hj' := (List.getElem?_eq_some_iff.1 hq).1
      simp at hj'
      obtain rfl : j = n := by omega
      rw [hl, Nat.sub_self] at hq
      obtain rfl : r = q := by simpa using hq
      exact hr

section
variable {H : Type} {enc : TypeId × Value → H} {w : World} {base : Nat} {spare : Nat → Bool} {held : Bool}
theorem open_puts {fuel : Nat} {cs : List Value} {x : DataW H × List MemPlace} (hsp : ∀ b, spare b = true)
    (h : DataW.trod enc Try.prog w base spare held fuel 22 cs = some x) : ∃ A n c l, cs = [.slice A n c] ∧ SlP w A n l := by
  obtain ⟨A, n, c, hcs, hm, _, hat⟩ := open_structs Try.underlying22 Try.underlying56 (by kernel_rfl) (by kernel_rfl) (by decide) hsp h
  rcases Nat.eq_zero_or_pos n with hn | hn
  · subst hn
    exact ⟨A, 0, c, [], hcs, by decide, rfl, by simp, fun h => absurd h (by decide)⟩
  · obtain ⟨b, off, e, hb, hr⟩ := hat hn
    obtain ⟨L, hl, hL⟩ := list_ofP (fun j (x : Pu) => (0 ≤ x.v ∧ x.v < 18446744073709551616) ∧ w.cell? ⟨b, off + j * 3, none⟩ = some (.int .i64 x.g) ∧ w.cell? ⟨b, off + j * 3 + 1, none⟩ = some (.int .i64 x.i) ∧ w.cell? ⟨b, off + j * 3 + 2, none⟩ = some (.int .u64 x.v)) n fun j hj => by
      obtain ⟨u0, _, _, k0, t0⟩ := hr j hj 0 _ rfl
      obtain ⟨u1, _, _, k1, t1⟩ := hr j hj 1 _ rfl
      obtain ⟨u2, _, _, k2, t2⟩ := hr j hj 2 _ rfl
      obtain ⟨g, h0, _, _⟩ := DataW.trod_int Try.underlying3 t0
      obtain ⟨i, h1, _, _⟩ := DataW.trod_int Try.underlying3 t1
      obtain ⟨v, h2, _, w2⟩ := DataW.trod_int Try.underlying34 t2
      injection h0 with h0; injection h1 with h1; injection h2 with h2
      subst h0; subst h1; subst h2
      have b2 := wf_bits w2
      simp [IntKind.min, IntKind.max, IntKind.signed, IntKind.bits] at b2
      exact ⟨⟨g, i, v⟩, ⟨b2.1, by show v < 18446744073709551616; omega⟩, k0, k1, k2⟩
    refine ⟨A, n, c, L, hcs, by simpa [maxLen] using hm, hl, fun x hx => ?_, fun _ => ⟨b, off, e, hb, fun j x hj => (hL j x hj).2⟩⟩
    obtain ⟨j, hj, rfl⟩ := List.getElem_of_mem hx
    exact (hL j _ (List.getElem?_eq_getElem hj)).1
end

end Go.Proofs.Ytgjfidjhbkaobaa
