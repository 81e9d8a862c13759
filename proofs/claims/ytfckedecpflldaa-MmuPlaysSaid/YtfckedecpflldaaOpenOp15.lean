/-
  Calls of a host's machine, as an argument of a law.
-/
import Derived.Test.YtfckedecpflldaaOpenG
import Derived.Test.YtfckedecpflldaaOpenPuts
import Derived.Test.YtfckedecpflldaaMmuD
namespace Go.Proofs.Ytfckedecpflldaa
open Go.ChangeShapes Go.WideShapes Go.ChangeAt Go.RowKit Go.Deep

section
variable {H : Type} {enc : TypeId × Value → H} {w : World} {base : Nat} {spare : Nat → Bool} {held : Bool}
set_option maxRecDepth 100000 in
theorem opx_of_trod {fuel : Nat} {cs : List Value} {x : DataW H × List MemPlace} (h : DataW.trod enc Try.prog w base spare held fuel 42 cs = some x) : ∃ o : OpX, cs = opX.cl o ∧ o.Wf := by
  obtain ⟨xs, n, _, _, hl, hxl, hf⟩ := DataW.trod_struct Try.underlying42 h
  have hl2 : cs.length = 9 := hl.trans (by kernel_rfl)
  have hx2 : xs.length = 9 := hxl
  match cs, hl2 with
  | [c0, c1, c2, c3, c4, c5, c6, c7, c8], _ =>
  match xs, hx2 with
  | [y0, y1, y2, y3, y4, y5, y6, y7, y8], _ =>
  obtain ⟨b0, h0, _, w0⟩ := DataW.trod_int Try.underlying3 (x := y0) (hf 0 _ rfl)
  have g0 : [c0] = [Value.int .i64 b0] := h0
  injection g0 with g0 _
  obtain ⟨b1, h1, _, w1⟩ := DataW.trod_int Try.underlying3 (x := y1) (hf 1 _ rfl)
  have g1 : [c1] = [Value.int .i64 b1] := h1
  injection g1 with g1 _
  obtain ⟨b2, h2, _, w2⟩ := DataW.trod_int Try.underlying3 (x := y2) (hf 2 _ rfl)
  have g2 : [c2] = [Value.int .i64 b2] := h2
  injection g2 with g2 _
  obtain ⟨b3, h3, _, w3⟩ := DataW.trod_int Try.underlying3 (x := y3) (hf 3 _ rfl)
  have g3 : [c3] = [Value.int .i64 b3] := h3
  injection g3 with g3 _
  obtain ⟨b4, h4, _, w4⟩ := DataW.trod_int Try.underlying3 (x := y4) (hf 4 _ rfl)
  have g4 : [c4] = [Value.int .i64 b4] := h4
  injection g4 with g4 _
  obtain ⟨b5, h5, _⟩ := DataW.trod_bool Try.underlying4 (x := y5) (hf 5 _ rfl)
  have g5 : [c5] = [Value.bool b5] := h5
  injection g5 with g5 _
  obtain ⟨b6, h6, _, w6⟩ := DataW.trod_int Try.underlying3 (x := y6) (hf 6 _ rfl)
  have g6 : [c6] = [Value.int .i64 b6] := h6
  injection g6 with g6 _
  obtain ⟨b7, h7, _, w7⟩ := DataW.trod_int Try.underlying3 (x := y7) (hf 7 _ rfl)
  have g7 : [c7] = [Value.int .i64 b7] := h7
  injection g7 with g7 _
  obtain ⟨b8, h8, _, w8⟩ := DataW.trod_int Try.underlying34 (x := y8) (hf 8 _ rfl)
  have g8 : [c8] = [Value.int .u64 b8] := h8
  injection g8 with g8 _
  have e8 := wf_bits w8
  simp [IntKind.min, IntKind.max, IntKind.signed, IntKind.bits] at e8
  exact ⟨⟨b0, b1, b2, b3, b4, b5, b6, b7, b8⟩, by rw [g0, g1, g2, g3, g4, g5, g6, g7, g8]; rfl, ⟨e8.1, by show b8 < 18446744073709551616; omega⟩⟩
set_option maxRecDepth 100000 in
theorem open_opsX {fuel : Nat} {cs : List Value} {x : DataW H × List MemPlace} (hsp : ∀ b, spare b = true)
    (h : DataW.trod enc Try.prog w base spare held fuel 23 cs = some x) : ∃ A n c l, cs = [.slice A n c] ∧ OpsX w A n l := by
  obtain ⟨A, n, c, l, h1, h2, h3, _⟩ := open_rows (E := opX) Try.underlying23 (by kernel_rfl) (fun {_ _ _} h => opx_of_trod h) hsp h
  exact ⟨A, n, c, l, h1, h2, h3⟩
end

end Go.Proofs.Ytfckedecpflldaa
