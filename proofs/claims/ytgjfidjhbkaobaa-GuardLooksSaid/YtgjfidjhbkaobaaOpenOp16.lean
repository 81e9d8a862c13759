/-
  Calls of a guard, and keys, as arguments of a law.
-/
import Derived.Test.YtgjfidjhbkaobaaOpenG
import Derived.Test.YtgjfidjhbkaobaaGuardA
namespace Go.Proofs.Ytgjfidjhbkaobaa
open Go.ChangeShapes Go.WideShapes Go.ChangeAt Go.RowKit Go.Deep

section
variable {H : Type} {enc : TypeId × Value → H} {w : World} {base : Nat} {spare : Nat → Bool} {held : Bool}
set_option maxRecDepth 100000 in
theorem ky_of_trod {fuel : Nat} {cs : List Value} {x : DataW H × List MemPlace} (h : DataW.trod enc Try.prog w base spare held fuel 25 cs = some x) : ∃ k : Ky, cs = k.cs.toList ∧ i64B k.g := by
  obtain ⟨xs, n, _, _, hl, hxl, hf⟩ := DataW.trod_struct Try.underlying25 h
  have hl2 : cs.length = 3 := hl.trans (by kernel_rfl)
  have hx2 : xs.length = 3 := hxl
  match cs, hl2 with
  | [c0, c1, c2], _ =>
  match xs, hx2 with
  | [y0, y1, y2], _ =>
  obtain ⟨b0, h0, _, w0⟩ := DataW.trod_int Try.underlying3 (x := y0) (hf 0 _ rfl)
  have g0 : [c0] = [Value.int .i64 b0] := h0
  injection g0 with g0 _
  obtain ⟨b1, h1, _, w1⟩ := DataW.trod_int Try.underlying3 (x := y1) (hf 1 _ rfl)
  have g1 : [c1] = [Value.int .i64 b1] := h1
  injection g1 with g1 _
  obtain ⟨b2, h2, _, w2⟩ := DataW.trod_int Try.underlying3 (x := y2) (hf 2 _ rfl)
  have g2 : [c2] = [Value.int .i64 b2] := h2
  injection g2 with g2 _
  have e0 := wf_bits w0
  simp [IntKind.min, IntKind.max, IntKind.signed, IntKind.bits] at e0
  exact ⟨⟨b0, b1, b2⟩, by rw [g0, g1, g2]; rfl, e0⟩
set_option maxRecDepth 100000 in
theorem rg_of_trod {fuel : Nat} {cs : List Value} {x : DataW H × List MemPlace} (h : DataW.trod enc Try.prog w base spare held fuel 33 cs = some x) : ∃ r : Rg, cs = [.bool r.w, .bool r.u, .bool r.x] := by
  obtain ⟨xs, n, _, _, hl, hxl, hf⟩ := DataW.trod_struct Try.underlying33 h
  have hl2 : cs.length = 3 := hl.trans (by kernel_rfl)
  have hx2 : xs.length = 3 := hxl
  match cs, hl2 with
  | [c0, c1, c2], _ =>
  match xs, hx2 with
  | [y0, y1, y2], _ =>
  obtain ⟨b0, h0, _⟩ := DataW.trod_bool Try.underlying4 (x := y0) (hf 0 _ rfl)
  have g0 : [c0] = [Value.bool b0] := h0
  injection g0 with g0 _
  obtain ⟨b1, h1, _⟩ := DataW.trod_bool Try.underlying4 (x := y1) (hf 1 _ rfl)
  have g1 : [c1] = [Value.bool b1] := h1
  injection g1 with g1 _
  obtain ⟨b2, h2, _⟩ := DataW.trod_bool Try.underlying4 (x := y2) (hf 2 _ rfl)
  have g2 : [c2] = [Value.bool b2] := h2
  injection g2 with g2 _
  exact ⟨⟨b0, b1, b2⟩, by rw [g0, g1, g2]⟩
set_option maxRecDepth 100000 in
theorem gst_of_trod {fuel : Nat} {cs : List Value} {x : DataW H × List MemPlace} (h : DataW.trod enc Try.prog w base spare held fuel 36 cs = some x) : ∃ o : Gst, cs = gopE.cl o ∧ o.Wf := by
  obtain ⟨xs, n, _, _, hl, hxl, hf⟩ := DataW.trod_struct Try.underlying36 h
  have hl2 : cs.length = 11 := hl.trans (by kernel_rfl)
  have hx2 : xs.length = 7 := hxl
  match cs, hl2 with
  | [c0, c1, c2, c3, c4, c5, c6, c7, c8, c9, c10], _ =>
  match xs, hx2 with
  | [y0, y1, y2, y3, y4, y5, y6], _ =>
  obtain ⟨b0, h0, _, w0⟩ := DataW.trod_int Try.underlying3 (x := y0) (hf 0 _ rfl)
  have g0 : [c0] = [Value.int .i64 b0] := h0
  injection g0 with g0 _
  obtain ⟨ky, hky, wk⟩ := ky_of_trod (x := y1) (hf 1 _ rfl)
  have gk : [c1, c2, c3] = ky.cs.toList := hky
  simp only [Ky.cs, List.cons.injEq, and_true] at gk
  obtain ⟨b2, h2, _, w2⟩ := DataW.trod_int Try.underlying3 (x := y2) (hf 2 _ rfl)
  have g2 : [c4] = [Value.int .i64 b2] := h2
  injection g2 with g2 _
  obtain ⟨b3, h3, _, w3⟩ := DataW.trod_int Try.underlying3 (x := y3) (hf 3 _ rfl)
  have g3 : [c5] = [Value.int .i64 b3] := h3
  injection g3 with g3 _
  obtain ⟨b4, h4, _, w4⟩ := DataW.trod_int Try.underlying3 (x := y4) (hf 4 _ rfl)
  have g4 : [c6] = [Value.int .i64 b4] := h4
  injection g4 with g4 _
  obtain ⟨rg, hrg⟩ := rg_of_trod (x := y5) (hf 5 _ rfl)
  have gr : [c7, c8, c9] = [Value.bool rg.w, .bool rg.u, .bool rg.x] := hrg
  simp only [List.cons.injEq, and_true] at gr
  obtain ⟨b6, h6, _, w6⟩ := DataW.trod_int Try.underlying34 (x := y6) (hf 6 _ rfl)
  have g6 : [c10] = [Value.int .u64 b6] := h6
  injection g6 with g6 _
  have e2 := wf_bits w2; have e4 := wf_bits w4; have e6 := wf_bits w6
  simp [IntKind.min, IntKind.max, IntKind.signed, IntKind.bits] at e2 e4 e6
  obtain ⟨k0, k1, k2⟩ := gk
  obtain ⟨r0, r1, r2⟩ := gr
  exact ⟨⟨b0, ky, b2, b3, b4, rg, b6⟩, by rw [g0, k0, k1, k2, g2, g3, g4, r0, r1, r2, g6]; rfl, ⟨wk, e2, e4, by show 0 ≤ b6; omega, by show b6 < 18446744073709551616; omega⟩⟩
set_option maxRecDepth 100000 in
theorem open_gopsT {fuel : Nat} {cs : List Value} {x : DataW H × List MemPlace} (hsp : ∀ b, spare b = true)
    (h : DataW.trod enc Try.prog w base spare held fuel 23 cs = some x) : ∃ A n c l, cs = [.slice A n c] ∧ GopsIn w A n l := by
  obtain ⟨A, n, c, l, h1, h2, h3, _⟩ := open_rows (E := gopE) Try.underlying23 (by kernel_rfl) (fun {_ _ _} h => gst_of_trod h) hsp h
  exact ⟨A, n, c, l, h1, h2, h3⟩
set_option maxRecDepth 100000 in
theorem open_key {r : Reach} {b0 : Nat} {v : Value} {d : DataW H} {ps : List MemPlace} (hval : Value.okWide Try.prog w r b0 25 v) (hd : DataW.Trod enc Try.prog w base spare held 25 v d ps) : ∃ k : Ky, v = .agg k.cs := by
  obtain ⟨cs, rfl, _⟩ := okWide_struct Try.underlying25 hval
  obtain ⟨fuel, hf⟩ := hd
  obtain ⟨k, he, _⟩ := ky_of_trod hf
  refine ⟨k, ?_⟩
  congr 1
  apply Array.ext'
  simpa [Value.cells] using he
end

end Go.Proofs.Ytgjfidjhbkaobaa
