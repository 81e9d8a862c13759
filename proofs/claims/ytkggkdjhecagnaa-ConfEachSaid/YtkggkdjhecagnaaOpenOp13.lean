/-
  A machine as an argument of a law.
-/
import Derived.Test.YtkggkdjhecagnaaOpen
import Derived.Test.YtkggkdjhecagnaaConfC
namespace Go.Proofs.Ytkggkdjhecagnaa
open Go.ChangeShapes Go.WideShapes Go.ChangeAt Go.RowKit Go.Deep

section
variable {H : Type} {enc : TypeId × Value → H} {w : World} {base : Nat} {spare : Nat → Bool} {held : Bool}
set_option maxRecDepth 100000 in
theorem cf_of_trod {fuel : Nat} {cs : List Value} {x : DataW H × List MemPlace} (hsp : ∀ b, spare b = true) (h : DataW.trod enc Try.prog w base spare held fuel 24 cs = some x) :
    ∃ (c : Cf) (A : Option Addr) (n k : Nat), cs = (c.cs A n k).toList ∧ CfIn c A n w ∧ (A = none → n = 0 ∧ k = 0) := by
  obtain ⟨xs, n, _, _, hl, hxl, hf⟩ := DataW.trod_struct Try.underlying24 h
  have hl2 : cs.length = 7 := hl.trans (by kernel_rfl)
  have hx2 : xs.length = 7 := hxl
  match cs, hl2 with
  | [c0, c1, c2, c3, c4, c5, c6], _ =>
  match xs, hx2 with
  | [y0, y1, y2, y3, y4, y5, y6], _ =>
  obtain ⟨b0, h0, _, w0⟩ := DataW.trod_int Try.underlying3 (x := y0) (hf 0 _ rfl)
  obtain ⟨A, sn, sc, zs, hcs, hm, hnil, hzl, hzw, hat⟩ := open_row (x := y1) Try.underlying22 Try.underlying3 (by kernel_rfl) hsp (hf 1 _ rfl)
  obtain ⟨b2, h2, _, w2⟩ := DataW.trod_int Try.underlying3 (x := y2) (hf 2 _ rfl)
  obtain ⟨b3, h3, _, w3⟩ := DataW.trod_int Try.underlying3 (x := y3) (hf 3 _ rfl)
  obtain ⟨b4, h4, _, w4⟩ := DataW.trod_int Try.underlying3 (x := y4) (hf 4 _ rfl)
  obtain ⟨b5, h5, _, w5⟩ := DataW.trod_int Try.underlying3 (x := y5) (hf 5 _ rfl)
  obtain ⟨b6, h6, _, w6⟩ := DataW.trod_int Try.underlying3 (x := y6) (hf 6 _ rfl)
  have g0 : [c0] = [Value.int .i64 b0] := h0
  have g1 : [c1] = [Value.slice A sn sc] := hcs
  have g2 : [c2] = [Value.int .i64 b2] := h2
  have g3 : [c3] = [Value.int .i64 b3] := h3
  have g4 : [c4] = [Value.int .i64 b4] := h4
  have g5 : [c5] = [Value.int .i64 b5] := h5
  have g6 : [c6] = [Value.int .i64 b6] := h6
  injection g0 with g0 _; injection g1 with g1 _; injection g2 with g2 _; injection g3 with g3 _; injection g4 with g4 _; injection g5 with g5 _; injection g6 with g6 _
  have e0 := wf_bits w0; have e2 := wf_bits w2; have e3 := wf_bits w3; have e4 := wf_bits w4; have e5 := wf_bits w5; have e6 := wf_bits w6
  simp [IntKind.min, IntKind.max, IntKind.signed, IntKind.bits] at e0 e2 e3 e4 e5 e6
  exact ⟨⟨b0, zs, b2, b3, b4, b5, b6⟩, A, sn, sc, by rw [g0, g1, g2, g3, g4, g5, g6]; rfl, ⟨⟨hzl, by simpa [maxLen] using hm, fun q hq => wf_bits (hzw q hq), hat⟩, ⟨e0, e2, e3, e4, e5, e6⟩⟩, hnil⟩
theorem open_cf {r : Reach} {b0 : Nat} {v : Value} {d : DataW H} {ps : List MemPlace} (hsp : ∀ b, spare b = true) (hval : Value.okWide Try.prog w r b0 24 v) (hd : DataW.Trod enc Try.prog w base spare held 24 v d ps) :
    ∃ (c : Cf) (A : Option Addr) (n k : Nat), v = .agg (c.cs A n k) ∧ CfIn c A n w ∧ (A = none → n = 0 ∧ k = 0) := by
  obtain ⟨cs, rfl, _⟩ := okWide_struct Try.underlying24 hval
  obtain ⟨fuel, hf⟩ := hd
  obtain ⟨c, A, n, k, he, hc, hn⟩ := cf_of_trod hsp hf
  refine ⟨c, A, n, k, ?_, hc, hn⟩
  congr 1
  apply Array.ext'
  simpa [Value.cells] using he
end

end Go.Proofs.Ytkggkdjhecagnaa
