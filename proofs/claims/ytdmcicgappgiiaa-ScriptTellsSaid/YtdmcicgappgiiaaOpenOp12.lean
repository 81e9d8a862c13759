/-
  Operations of a script as arguments of a law.
-/
import Derived.Test.YtdmcicgappgiiaaOpenG
import Derived.Test.YtdmcicgappgiiaaScriptA
namespace Go.Proofs.Ytdmcicgappgiiaa
open Go.ChangeShapes Go.WideShapes Go.ChangeAt Go.RowKit Go.Deep

section
variable {H : Type} {enc : TypeId × Value → H} {w : World} {base : Nat} {spare : Nat → Bool} {held : Bool}
set_option maxRecDepth 100000 in
theorem sop_of_trod {fuel : Nat} {cs : List Value} {x : DataW H × List MemPlace} (h : DataW.trod enc Try.prog w base spare held fuel 31 cs = some x) : ∃ o : Sop, cs = opE.cl o ∧ o.Wf := by
  obtain ⟨xs, n, _, _, hl, hxl, hf⟩ := DataW.trod_struct Try.underlying31 h
  have hl2 : cs.length = 7 := hl.trans (by kernel_rfl)
  have hx2 : xs.length = 7 := hxl
  match cs, hl2 with
  | [c0, c1, c2, c3, c4, c5, c6], _ =>
  match xs, hx2 with
  | [y0, y1, y2, y3, y4, y5, y6], _ =>
  obtain ⟨b0, h0, _⟩ := DataW.trod_int Try.underlying3 (x := y0) (hf 0 _ rfl)
  obtain ⟨b1, h1, _⟩ := DataW.trod_bool Try.underlying4 (x := y1) (hf 1 _ rfl)
  obtain ⟨b2, h2, _, w2⟩ := DataW.trod_int Try.underlying29 (x := y2) (hf 2 _ rfl)
  obtain ⟨b3, h3, _, w3⟩ := DataW.trod_int Try.underlying29 (x := y3) (hf 3 _ rfl)
  obtain ⟨b4, h4, _⟩ := DataW.trod_int Try.underlying3 (x := y4) (hf 4 _ rfl)
  obtain ⟨b5, h5, _⟩ := DataW.trod_int Try.underlying3 (x := y5) (hf 5 _ rfl)
  obtain ⟨b6, h6, _⟩ := DataW.trod_int Try.underlying3 (x := y6) (hf 6 _ rfl)
  have g0 : [c0] = [Value.int .i64 b0] := h0
  have g1 : [c1] = [Value.bool b1] := h1
  have g2 : [c2] = [Value.int .u64 b2] := h2
  have g3 : [c3] = [Value.int .u64 b3] := h3
  have g4 : [c4] = [Value.int .i64 b4] := h4
  have g5 : [c5] = [Value.int .i64 b5] := h5
  have g6 : [c6] = [Value.int .i64 b6] := h6
  injection g0 with g0 _; injection g1 with g1 _; injection g2 with g2 _; injection g3 with g3 _; injection g4 with g4 _; injection g5 with g5 _; injection g6 with g6 _
  have e2 := wf_bits w2
  have e3 := wf_bits w3
  simp [IntKind.min, IntKind.max, IntKind.signed, IntKind.bits] at e2 e3
  exact ⟨⟨b0, b1, b2, b3, b4, b5, b6⟩, by rw [g0, g1, g2, g3, g4, g5, g6]; rfl, ⟨by simp only; omega, by simp only; omega⟩⟩
theorem open_opsS {fuel : Nat} {cs : List Value} {x : DataW H × List MemPlace} (hsp : ∀ b, spare b = true)
    (h : DataW.trod enc Try.prog w base spare held fuel 22 cs = some x) : ∃ A n c l, cs = [.slice A n c] ∧ SlG opE w A n l ∧ (∀ o ∈ l, o.Wf) ∧ (A = none → n = 0 ∧ c = 0) ∧ n ≤ c :=
  open_rows Try.underlying22 (by kernel_rfl) (fun {_ _ _} h => sop_of_trod h) hsp h
theorem open_bytesS {fuel : Nat} {cs : List Value} {x : DataW H × List MemPlace} (hsp : ∀ b, spare b = true)
    (h : DataW.trod enc Try.prog w base spare held fuel 23 cs = some x) : ∃ A n c l, cs = [.slice A n c] ∧ SlG (numE .u8) w A n l ∧ (∀ x ∈ l, 0 ≤ x ∧ x < 256) ∧ (A = none → n = 0 ∧ c = 0) ∧ n ≤ c :=
  open_rows Try.underlying23 (by kernel_rfl) (fun {_ _ _} h => u8_of_trod h) hsp h
theorem open_opS {r : Reach} {b0 : Nat} {v : Value} {d : DataW H} {ps : List MemPlace} (hval : Value.okWide Try.prog w r b0 31 v) (hd : DataW.Trod enc Try.prog w base spare held 31 v d ps) : ∃ o : { o : Sop // o.Wf }, v = .agg o.1.ar := by
  obtain ⟨cs, rfl, _⟩ := okWide_struct Try.underlying31 hval
  obtain ⟨fuel, hf⟩ := hd
  obtain ⟨o, he, hw⟩ := sop_of_trod hf
  refine ⟨⟨o, hw⟩, ?_⟩
  show Value.agg cs = _
  congr 1
  apply Array.ext'
  simpa [Value.cells, opE, Sop.cl, Sop.ar] using he
end

end Go.Proofs.Ytdmcicgappgiiaa
