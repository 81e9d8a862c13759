/-
  An entry, a right, a list of rights, as arguments of a law of right.
-/
import Derived.Test.YthnhellobpceaaaOpen
import Derived.Test.YthnhellobpceaaaRightA
namespace Go.Proofs.Ythnhellobpceaaa
open Go.ChangeShapes Go.WideShapes Go.ChangeAt Go.RowKit Go.Deep

/-- an entry's nine cells -/
structure Ent9 where
  p0 : Bool
  p1 : Bool
  p2 : Bool
  p3 : Bool
  p4 : Bool
  p5 : Bool
  p6 : Bool
  p7 : Bool
  f : Int
def Ent9.cs (e : Ent9) : Array Value := #[.bool e.p0, .bool e.p1, .bool e.p2, .bool e.p3, .bool e.p4, .bool e.p5, .bool e.p6, .bool e.p7, .int .i64 e.f]

section
variable {H : Type} {enc : TypeId × Value → H} {w : World} {base : Nat} {spare : Nat → Bool} {held : Bool}

theorem open_pte_cells {fuel : Nat} {cs : List Value} {x : DataW H × List MemPlace} (h : DataW.trod enc Try.prog w base spare held fuel 23 cs = some x) : ∃ e : Ent9, cs = e.cs.toList := by
  obtain ⟨xs, n, _, _, hl, hxl, hf⟩ := DataW.trod_struct Try.underlying23 h
  have hl9 : cs.length = 9 := hl.trans (by kernel_rfl)
  have hx9 : xs.length = 9 := hxl
  match cs, hl9 with
  | [c0, c1, c2, c3, c4, c5, c6, c7, c8], _ =>
  match xs, hx9 with
  | [y0, y1, y2, y3, y4, y5, y6, y7, y8], _ =>
  obtain ⟨b0, h0, _⟩ := DataW.trod_bool Try.underlying4 (x := y0) (hf 0 _ rfl)
  obtain ⟨b1, h1, _⟩ := DataW.trod_bool Try.underlying4 (x := y1) (hf 1 _ rfl)
  obtain ⟨b2, h2, _⟩ := DataW.trod_bool Try.underlying4 (x := y2) (hf 2 _ rfl)
  obtain ⟨b3, h3, _⟩ := DataW.trod_bool Try.underlying4 (x := y3) (hf 3 _ rfl)
  obtain ⟨b4, h4, _⟩ := DataW.trod_bool Try.underlying4 (x := y4) (hf 4 _ rfl)
  obtain ⟨b5, h5, _⟩ := DataW.trod_bool Try.underlying4 (x := y5) (hf 5 _ rfl)
  obtain ⟨b6, h6, _⟩ := DataW.trod_bool Try.underlying4 (x := y6) (hf 6 _ rfl)
  obtain ⟨b7, h7, _⟩ := DataW.trod_bool Try.underlying4 (x := y7) (hf 7 _ rfl)
  obtain ⟨f, h8, _, _⟩ := DataW.trod_int Try.underlying3 (x := y8) (hf 8 _ rfl)
  have g0 : [c0] = [Value.bool b0] := h0
  have g1 : [c1] = [Value.bool b1] := h1
  have g2 : [c2] = [Value.bool b2] := h2
  have g3 : [c3] = [Value.bool b3] := h3
  have g4 : [c4] = [Value.bool b4] := h4
  have g5 : [c5] = [Value.bool b5] := h5
  have g6 : [c6] = [Value.bool b6] := h6
  have g7 : [c7] = [Value.bool b7] := h7
  have g8 : [c8] = [Value.int .i64 f] := h8
  injection g0 with g0 _; injection g1 with g1 _; injection g2 with g2 _; injection g3 with g3 _; injection g4 with g4 _
  injection g5 with g5 _; injection g6 with g6 _; injection g7 with g7 _; injection g8 with g8 _
  subst g0 g1 g2 g3 g4 g5 g6 g7 g8
  exact ⟨⟨b0, b1, b2, b3, b4, b5, b6, b7, f⟩, rfl⟩

theorem open_pte {r : Reach} {b0 : Nat} {v : Value} {d : DataW H} {ps : List MemPlace} (hval : Value.okWide Try.prog w r b0 23 v) (hd : DataW.Trod enc Try.prog w base spare held 23 v d ps) : ∃ e : Ent9, v = .agg e.cs := by
  obtain ⟨cs, rfl, _⟩ := okWide_struct Try.underlying23 hval
  obtain ⟨fuel, hf⟩ := hd
  obtain ⟨e, he⟩ := open_pte_cells hf
  refine ⟨e, ?_⟩
  congr 1
  apply Array.ext'
  simpa [Value.cells] using he

theorem open_right_cells {fuel : Nat} {cs : List Value} {x : DataW H × List MemPlace} (h : DataW.trod enc Try.prog w base spare held fuel 26 cs = some x) : ∃ e : Rg, cs = e.cs.toList := by
  obtain ⟨xs, n, _, _, hl, hxl, hf⟩ := DataW.trod_struct Try.underlying26 h
  have hl9 : cs.length = 3 := hl.trans (by kernel_rfl)
  have hx9 : xs.length = 3 := hxl
  match cs, hl9 with
  | [c0, c1, c2], _ =>
  match xs, hx9 with
  | [y0, y1, y2], _ =>
  obtain ⟨b0, h0, _⟩ := DataW.trod_bool Try.underlying4 (x := y0) (hf 0 _ rfl)
  obtain ⟨b1, h1, _⟩ := DataW.trod_bool Try.underlying4 (x := y1) (hf 1 _ rfl)
  obtain ⟨b2, h2, _⟩ := DataW.trod_bool Try.underlying4 (x := y2) (hf 2 _ rfl)
  have g0 : [c0] = [Value.bool b0] := h0
  have g1 : [c1] = [Value.bool b1] := h1
  have g2 : [c2] = [Value.bool b2] := h2
  injection g0 with g0 _; injection g1 with g1 _; injection g2 with g2 _
  subst g0 g1 g2
  exact ⟨⟨b0, b1, b2⟩, rfl⟩

theorem open_right {r : Reach} {b0 : Nat} {v : Value} {d : DataW H} {ps : List MemPlace} (hval : Value.okWide Try.prog w r b0 26 v) (hd : DataW.Trod enc Try.prog w base spare held 26 v d ps) : ∃ e : Rg, v = .agg e.cs := by
  obtain ⟨cs, rfl, _⟩ := okWide_struct Try.underlying26 hval
  obtain ⟨fuel, hf⟩ := hd
  obtain ⟨e, he⟩ := open_right_cells hf
  refine ⟨e, ?_⟩
  congr 1
  apply Array.ext'
  simpa [Value.cells] using he

/-- a list may be read off a predicate on places -/
theorem list_of {α : Type} (Q : Nat → α → Prop) : ∀ n, (∀ j, j < n → ∃ r, Q j r) → ∃ L : List α, L.length = n ∧ ∀ j r, L[j]? = some r → Q j r
  | 0, _ => ⟨[], rfl, by simp⟩
  | n + 1, h => by
    obtain ⟨L, hl, hL⟩ := list_of Q n fun j hj => h j (by omega)
    obtain ⟨r, hr⟩ := h n (by omega)
    refine ⟨L ++ [r], by simp [hl], fun j q hq => ?_⟩
    rcases Nat.lt_or_ge j n with hj | hj
    · rw [List.getElem?_append_left (by omega)] at hq; exact hL j q hq
    · rw [List.getElem?_append_right (by omega)] at hq
      have hj' := (List.getElem?_eq_some_iff.1 hq).1
      simp at hj'
      obtain rfl : j = n := by omega
      simp [hl] at hq
      subst hq; exact hr

theorem open_rights {fuel : Nat} {cs : List Value} {x : DataW H × List MemPlace} (hsp : ∀ b, spare b = true)
    (h : DataW.trod enc Try.prog w base spare held fuel 24 cs = some x) : ∃ A n c L, cs = [.slice A n c] ∧ n ≤ 9223372036854775807 ∧ (A = none → n = 0 ∧ c = 0) ∧ SlR w A n L := by
  obtain ⟨A, n, c, hcs, hm, hnil, hat⟩ := open_structs Try.underlying24 Try.underlying26 (by kernel_rfl) (by kernel_rfl) (by decide) hsp h
  rcases Nat.eq_zero_or_pos n with hn | hn
  · subst hn
    exact ⟨A, 0, c, [], hcs, by decide, hnil, rfl, fun h => absurd h (by decide)⟩
  · obtain ⟨b, off, e, hb, hr⟩ := hat hn
    obtain ⟨L, hl, hL⟩ := list_of (fun j (r : Rg) => w.cell? ⟨b, off + j * 3 + 0, none⟩ = some (.bool r.w) ∧ w.cell? ⟨b, off + j * 3 + 1, none⟩ = some (.bool r.u) ∧ w.cell? ⟨b, off + j * 3 + 2, none⟩ = some (.bool r.x)) n fun j hj => by
      obtain ⟨u0, _, _, k0, t0⟩ := hr j hj 0 _ rfl
      obtain ⟨u1, _, _, k1, t1⟩ := hr j hj 1 _ rfl
      obtain ⟨u2, _, _, k2, t2⟩ := hr j hj 2 _ rfl
      obtain ⟨b0, h0, _⟩ := DataW.trod_bool Try.underlying4 t0
      obtain ⟨b1, h1, _⟩ := DataW.trod_bool Try.underlying4 t1
      obtain ⟨b2, h2, _⟩ := DataW.trod_bool Try.underlying4 t2
      injection h0 with h0; injection h1 with h1; injection h2 with h2
      subst h0; subst h1; subst h2
      exact ⟨⟨b0, b1, b2⟩, k0, k1, k2⟩
    exact ⟨A, n, c, L, hcs, by simpa [maxLen] using hm, hnil, hl, fun _ => ⟨b, off, e, hb, hL⟩⟩
end

end Go.Proofs.Ythnhellobpceaaa
