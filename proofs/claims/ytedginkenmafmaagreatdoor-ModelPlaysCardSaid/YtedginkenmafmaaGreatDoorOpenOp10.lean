/-
  Operations on a model, and lists of them, as arguments of a law.
-/
import Derived.Test.YtedginkenmafmaaGreatDoorGO
import Derived.Test.YtedginkenmafmaaGreatDoorModelH
namespace Go.Proofs.YtedginkenmafmaaGreatDoor
open Go.ChangeShapes Go.WideShapes Go.ChangeAt Go.RowKit Go.Deep

section
variable {H : Type} {enc : TypeId × Value → H} {w : World} {base : Nat} {spare : Nat → Bool} {held : Bool}
set_option maxRecDepth 100000 in
theorem opm_of_trod {fuel : Nat} {cs : List Value} {x : DataW H × List MemPlace} (h : DataW.trod enc Tryz.prog w base spare held fuel 35 cs = some x) : ∃ o : OpM, cs = o.cl ∧ o.Wf := by
  obtain ⟨xs, n, _, _, hl, hxl, hf⟩ := DataW.trod_struct Tryz.underlying35 h
  have hl8 : cs.length = 8 := hl.trans (by kernel_rfl)
  have hx8 : xs.length = 8 := hxl
  match cs, hl8 with
  | [c0, c1, c2, c3, c4, c5, c6, c7], _ =>
  match xs, hx8 with
  | [y0, y1, y2, y3, y4, y5, y6, y7], _ =>
  obtain ⟨b0, h0, _⟩ := DataW.trod_int Tryz.underlying3 (x := y0) (hf 0 _ rfl)
  obtain ⟨b1, h1, _⟩ := DataW.trod_int Tryz.underlying3 (x := y1) (hf 1 _ rfl)
  obtain ⟨b2, h2, _⟩ := DataW.trod_bool Tryz.underlying4 (x := y2) (hf 2 _ rfl)
  obtain ⟨b3, h3, _, w3⟩ := DataW.trod_int Tryz.underlying33 (x := y3) (hf 3 _ rfl)
  obtain ⟨b4, h4, _, w4⟩ := DataW.trod_int Tryz.underlying33 (x := y4) (hf 4 _ rfl)
  obtain ⟨b5, h5, _, w5⟩ := DataW.trod_int Tryz.underlying3 (x := y5) (hf 5 _ rfl)
  obtain ⟨b6, h6, _, w6⟩ := DataW.trod_int Tryz.underlying3 (x := y6) (hf 6 _ rfl)
  obtain ⟨b7, h7, _⟩ := DataW.trod_int Tryz.underlying3 (x := y7) (hf 7 _ rfl)
  have g0 : [c0] = [Value.int .i64 b0] := h0
  have g1 : [c1] = [Value.int .i64 b1] := h1
  have g2 : [c2] = [Value.bool b2] := h2
  have g3 : [c3] = [Value.int .u64 b3] := h3
  have g4 : [c4] = [Value.int .u64 b4] := h4
  have g5 : [c5] = [Value.int .i64 b5] := h5
  have g6 : [c6] = [Value.int .i64 b6] := h6
  have g7 : [c7] = [Value.int .i64 b7] := h7
  injection g0 with g0 _; injection g1 with g1 _; injection g2 with g2 _; injection g3 with g3 _; injection g4 with g4 _; injection g5 with g5 _; injection g6 with g6 _; injection g7 with g7 _
  have e3 := wf_bits w3; have e4 := wf_bits w4; have e5 := wf_bits w5; have e6 := wf_bits w6
  simp [IntKind.min, IntKind.max, IntKind.signed, IntKind.bits] at e3 e4 e5 e6
  obtain ⟨a, rfl⟩ := Int.eq_ofNat_of_zero_le e3.1
  exact ⟨⟨b0, b1, b2, a, b4, b5, b6, b7⟩, by rw [g0, g1, g2, g3, g4, g5, g6, g7]; rfl, ⟨by show a < 18446744073709551616; omega, ⟨e4.1, by show b4 < 18446744073709551616; omega⟩, e5, e6⟩⟩
set_option maxRecDepth 100000 in
theorem open_op {r : Reach} {b0 : Nat} {v : Value} {d : DataW H} {ps : List MemPlace} (hval : Value.okWide Tryz.prog w r b0 35 v) (hd : DataW.Trod enc Tryz.prog w base spare held 35 v d ps) : ∃ o : { o : OpM // o.Wf }, v = o.1.val := by
  obtain ⟨cs, rfl, _⟩ := okWide_struct Tryz.underlying35 hval
  obtain ⟨fuel, hf⟩ := hd
  obtain ⟨o, he, hw⟩ := opm_of_trod hf
  refine ⟨⟨o, hw⟩, ?_⟩
  show Value.agg cs = _
  unfold OpM.val
  congr 1
  apply Array.ext'
  simpa [Value.cells, OpM.cl] using he
theorem open_ops {fuel : Nat} {cs : List Value} {x : DataW H × List MemPlace} (hsp : ∀ b, spare b = true)
    (h : DataW.trod enc Tryz.prog w base spare held fuel 23 cs = some x) : ∃ A n c l, cs = [.slice A n c] ∧ SlM w A n l := by
  rcases open_slice Tryz.underlying23 h with ⟨rfl, _⟩ | ⟨a, len, cap, m, n, D, Pl, rfl, _, hl, hm, hmm, _, hi⟩
  · exact ⟨none, 0, 0, [], rfl, by omega, rfl, by simp, fun h => absurd h (by omega)⟩
  · rw [hsp] at hmm
    simp only [if_true] at hmm
    have hC : Tryz.prog.cellsOf 35 = 8 := by kernel_rfl
    obtain ⟨L, hL1, hL2⟩ := list_ofP (fun j (o : OpM) => o.Wf ∧ ∀ i u, o.cl[i]? = some u → w.cell? (a.add (j * 8 + i)) = some u) len fun j hj => by
      obtain ⟨cs', hc, htr⟩ := hi j (by omega)
      obtain ⟨o, rfl, hw⟩ := opm_of_trod htr
      rw [hC] at hc
      obtain ⟨_, hlen, hat⟩ := World.cells?_some hc
      refine ⟨o, hw, fun i u hu => ?_⟩
      have h8 := (List.getElem?_eq_some_iff.1 hu).1
      rw [← Go.Deep.add_add, hat i (by omega), hu]
    refine ⟨some a, len, cap, L, rfl, by simp [maxLen] at hm; omega, hL1, fun x hx => ?_, fun h0 => ?_⟩
    · obtain ⟨j, hj, rfl⟩ := List.getElem_of_mem hx
      exact (hL2 j _ (List.getElem?_eq_getElem hj)).1
    have hu := (hL2 0 _ (List.getElem?_eq_getElem (by omega))).2 0 _ rfl
    have ha : a.add (0 * 8 + 0) = a := by simp [Addr.add]
    rw [ha] at hu
    have hs := cell_spot hu
    refine ⟨a.block, a.off, by rw [← addr_form hs], World.block_lt_of_cell? _ _ hu, fun j x hx => ?_⟩
    have k : ∀ i u, x.cl[i]? = some u → w.cell? ⟨a.block, a.off + j * 8 + i, none⟩ = some u := fun i u hu => by
      have h1 := (hL2 j x hx).2 i u hu
      rw [addr_form hs, add_at] at h1
      rw [Nat.add_assoc]; exact h1
    exact ⟨k 0 _ rfl, k 1 _ rfl, k 2 _ rfl, k 3 _ rfl, k 4 _ rfl, k 5 _ rfl, k 6 _ rfl, k 7 _ rfl⟩
end

end Go.Proofs.YtedginkenmafmaaGreatDoor
