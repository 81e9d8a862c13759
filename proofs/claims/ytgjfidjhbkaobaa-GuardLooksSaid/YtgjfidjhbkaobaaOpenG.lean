/-
  Rows of structs of any kind, and bytes, as arguments of a law.
-/
import Derived.Test.YtgjfidjhbkaobaaOpen
import Derived.Test.YtgjfidjhbkaobaaRowG
namespace Go.Proofs.Ytgjfidjhbkaobaa
open Go.ChangeShapes Go.WideShapes Go.ChangeAt Go.RowKit Go.Deep

theorem list_ofG {α : Type} (Q : Nat → α → Prop) : ∀ n, (∀ j, j < n → ∃ r, Q j r) → ∃ L : List α, L.length = n ∧ ∀ j r, L[j]? = some r → Q j r
  | 0, _ => ⟨[], rfl, by simp⟩
  | n + 1, h => by
    obtain ⟨L, hl, hL⟩ := list_ofG Q n fun j hj => h j (by omega)
    obtain ⟨r, hr⟩ := h n (by omega)
    refine ⟨L ++ [r], by simp [hl], fun j x hx => ?_⟩
    rcases Nat.lt_or_ge j n with hj | hj
    · rw [List.getElem?_append_left (by omega)] at hx; exact hL j x hx
    · have hjl := (List.getElem?_eq_some_iff.1 hx).1
      simp [hl] at hjl
      obtain rfl : j = n := by omega
      rw [List.getElem?_append_right (by omega)] at hx
      simp [hl] at hx; subst hx; exact hr

section
variable {H : Type} {enc : TypeId × Value → H} {w : World} {base : Nat} {spare : Nat → Bool} {held : Bool}
/-- a row of structs as an argument, from one of them -/
theorem open_rows {α : Type} {E : Enc α} {Wf : α → Prop} {t ts : TypeId} (hts : Try.prog.underlying ts = some (.slice t)) (hC : Try.prog.cellsOf t = E.k)
    (el : ∀ {fuel : Nat} {cs : List Value} {x : DataW H × List MemPlace}, DataW.trod enc Try.prog w base spare held fuel t cs = some x → ∃ o, cs = E.cl o ∧ Wf o)
    {fuel : Nat} {cs : List Value} {x : DataW H × List MemPlace} (hsp : ∀ b, spare b = true) (h : DataW.trod enc Try.prog w base spare held fuel ts cs = some x) :
    ∃ A n c l, cs = [.slice A n c] ∧ SlG E w A n l ∧ (∀ x ∈ l, Wf x) ∧ (A = none → n = 0 ∧ c = 0) ∧ n ≤ c := by
  rcases open_slice hts h with ⟨rfl, _⟩ | ⟨a, len, cap, m, n, D, Pl, rfl, hlc, hl, hm, hmm, _, hi⟩
  · exact ⟨none, 0, 0, [], rfl, SlG.nil w, by simp, fun _ => ⟨rfl, rfl⟩, by omega⟩
  · rw [hsp] at hmm
    simp only [if_true] at hmm
    obtain ⟨L, hL1, hL2⟩ := list_ofG (fun j (o : α) => Wf o ∧ ∀ i u, (E.cl o)[i]? = some u → w.cell? (a.add (j * E.k + i)) = some u) len fun j hj => by
      obtain ⟨cs', hc, htr⟩ := hi j (by omega)
      obtain ⟨o, rfl, hw⟩ := el htr
      rw [hC] at hc
      obtain ⟨_, hlen, hat⟩ := World.cells?_some hc
      refine ⟨o, hw, fun i u hu => ?_⟩
      have h8 := (List.getElem?_eq_some_iff.1 hu).1
      rw [E.len] at h8
      rw [← Go.Deep.add_add, hat i (by omega), hu]
    refine ⟨some a, len, cap, L, rfl, ⟨hL1, by simp [maxLen] at hm; omega, fun h0 => ?_⟩, fun x hx => ?_, by simp, by omega⟩
    · have hx0 := List.getElem?_eq_getElem (show 0 < L.length by omega)
      have hu := (hL2 0 _ hx0).2 0 _ (List.getElem?_eq_getElem (by rw [E.len]; exact E.pos))
      have ha : a.add (0 * E.k + 0) = a := by simp [Addr.add]
      rw [ha] at hu
      have hs := cell_spot hu
      refine ⟨a.block, a.off, by rw [← addr_form hs], World.block_lt_of_cell? _ _ hu, fun j x hx i u hu => ?_⟩
      have h1 := (hL2 j x hx).2 i u hu
      rw [addr_form hs, add_at] at h1
      rw [Nat.add_assoc]; exact h1
    · obtain ⟨j, hj, rfl⟩ := List.getElem_of_mem hx
      exact (hL2 j _ (List.getElem?_eq_getElem hj)).1
theorem u8_of_trod {fuel : Nat} {cs : List Value} {x : DataW H × List MemPlace} (h : DataW.trod enc Try.prog w base spare held fuel 5 cs = some x) : ∃ o : Int, cs = (numE .u8).cl o ∧ (0 ≤ o ∧ o < 256) := by
  obtain ⟨b1, h1, _, w1⟩ := DataW.trod_int Try.underlying5 (x := x) h
  have e1 := wf_bits w1
  simp [IntKind.min, IntKind.max, IntKind.signed, IntKind.bits] at e1
  exact ⟨b1, h1, by omega⟩
end

end Go.Proofs.Ytgjfidjhbkaobaa
