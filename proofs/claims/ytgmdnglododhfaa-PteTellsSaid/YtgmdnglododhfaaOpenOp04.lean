/-
  An entry as an argument of a law of pte.
-/
import Derived.Test.YtgmdnglododhfaaPteB
import Derived.ProofKit
import Derived.OpenShut
namespace Go.Proofs.Ytgmdnglododhfaa
open Go.ChangeShapes Go.WideShapes Go.ChangeAt Go.RowKit

section
variable {H : Type} {enc : TypeId × Value → H} {w : World} {base : Nat} {spare : Nat → Bool} {held : Bool}

theorem wf_bits {k : IntKind} {n : Int} (h : (Lit.int k n).wf = true) : k.min ≤ n ∧ n ≤ k.max := by
  simpa [Lit.wf] using h

theorem open_cells {fuel : Nat} {cs : List Value} {x : DataW H × List MemPlace} (h : DataW.trod enc Try.prog w base spare held fuel 24 cs = some x) : ∃ e : Ent, cs = e.cs.toList := by
  obtain ⟨xs, n, _, _, hl, hxl, hf⟩ := DataW.trod_struct Try.underlying24 h
  have hl9 : cs.length = 9 := hl.trans (by kernel_rfl)
  have hx9 : xs.length = 9 := hxl
  match cs, hl9 with
  | [c0, c1, c2, c3, c4, c5, c6, c7, c8], _ =>
  match xs, hx9 with
  | [y0, y1, y2, y3, y4, y5, y6, y7, y8], _ =>
  obtain ⟨b0, h0, _⟩ := DataW.trod_bool Try.underlying4 (x := y0) (hf 0 _ rfl)
  obtain ⟨b1, h1, _⟩ := DataW.trod_bool Try.underlying4 (x := y1) (hf 1 _ rfl)
  obtain ⟨b2, h2, _⟩ := DataW.trod_bool Try.underlying4 (x := y2) (hf 2 _ rfl)
  obtain ⟨b3, h3, _⟩ := DataW.trod_bool Try.underlying4 (x := y3) (hf 3 _ rfl)
  obtain ⟨b4, h4, _⟩ := DataW.trod_bool Try.underlying4 (x := y4) (hf 4 _ rfl)
  obtain ⟨b5, h5, _⟩ := DataW.trod_bool Try.underlying4 (x := y5) (hf 5 _ rfl)
  obtain ⟨b6, h6, _⟩ := DataW.trod_bool Try.underlying4 (x := y6) (hf 6 _ rfl)
  obtain ⟨b7, h7, _⟩ := DataW.trod_bool Try.underlying4 (x := y7) (hf 7 _ rfl)
  obtain ⟨f, h8, _, _⟩ := DataW.trod_int Try.underlying3 (x := y8) (hf 8 _ rfl)
  have g0 : [c0] = [Value.bool b0] := h0
  have g1 : [c1] = [Value.bool b1] := h1
  have g2 : [c2] = [Value.bool b2] := h2
  have g3 : [c3] = [Value.bool b3] := h3
  have g4 : [c4] = [Value.bool b4] := h4
  have g5 : [c5] = [Value.bool b5] := h5
  have g6 : [c6] = [Value.bool b6] := h6
  have g7 : [c7] = [Value.bool b7] := h7
  have g8 : [c8] = [Value.int .i64 f] := h8
  injection g0 with g0 _; injection g1 with g1 _; injection g2 with g2 _; injection g3 with g3 _; injection g4 with g4 _
  injection g5 with g5 _; injection g6 with g6 _; injection g7 with g7 _; injection g8 with g8 _
  subst g0 g1 g2 g3 g4 g5 g6 g7 g8
  exact ⟨⟨b0, b1, b2, b3, b4, b5, b6, b7, f⟩, rfl⟩

theorem open_pte {r : Reach} {b0 : Nat} {v : Value} {d : DataW H} {ps : List MemPlace} (hval : Value.okWide Try.prog w r b0 24 v) (hd : DataW.Trod enc Try.prog w base spare held 24 v d ps) : ∃ e : Ent, v = .agg e.cs := by
  obtain ⟨cs, rfl, _⟩ := okWide_struct Try.underlying24 hval
  obtain ⟨fuel, hf⟩ := hd
  obtain ⟨e, he⟩ := open_cells hf
  refine ⟨e, ?_⟩
  congr 1
  apply Array.ext'
  simpa [Value.cells] using he
end

end Go.Proofs.Ytgmdnglododhfaa
