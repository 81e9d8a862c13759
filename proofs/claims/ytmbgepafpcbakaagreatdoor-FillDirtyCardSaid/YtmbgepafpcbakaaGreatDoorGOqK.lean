/-
 Open, OpenG, OpenOp17, OpenPuts in one text.
-/
import Derived.Test.YtmbgepafpcbakaaGreatDoorG0K
import Derived.ProofKit
import Derived.OpenShut
import Derived.Deep.Slices
import Derived.Deep.Fields
import Derived.Test.YtmbgepafpcbakaaGreatDoorRowGK
import Derived.Test.YtmbgepafpcbakaaGreatDoorGFrK
import Derived.Test.YtmbgepafpcbakaaGreatDoorPutsK
import Derived.RowKitTokens
namespace Go.Proofs.YtmbgepafpcbakaaGreatDoor
open Go.ChangeShapes Go.WideShapes Go.ChangeAt Go.RowKit Go.Deep
section
variable {H : Type} {enc : TypeId × Value → H} {P : Program} {w : World} {base : Nat} {spare : Nat → Bool} {held : Bool}
theorem cell_spot {w : World} {a : Addr} {v : Value} (h : w.cell? a = some v) : a.spot = none := by
 unfold World.cell? at h
 split at h
 ·cases hs : a.spot with
  | none => rfl
  | some _ => simp [hs] at h
 cases h
theorem addr_form {a : Addr} (h : a.spot = none) : a = ⟨a.block, a.off, none⟩ := by cases a; simp_all
theorem open_structs {t e : TypeId} {fs : Array Field} {fuel : Nat} {cs : List Value} {x : DataW H × List MemPlace} (ht : P.underlying t = some (.slice e)) (he : P.underlying e = some (.struct fs))
  (hone : oneCellFields P fs = true) (hC : P.cellsOf e = fs.size) (h0 : 0 < fs.size) (hsp : ∀ b, spare b = true) (h : DataW.trod enc P w base spare held fuel t cs = some x) :
  ∃ A n c, cs = [.slice A n c] ∧ n ≤ maxLen ∧ (A = none → n = 0 ∧ c = 0) ∧ (0 < n → ∃ b off, A = some ⟨b, off, none⟩ ∧ b < w.heap.size ∧
   ∀ j, j < n → ∀ i f, fs[i]? = some f → ∃ u y m, w.cell? ⟨b, off + j * fs.size + i, none⟩ = some u ∧ DataW.trod enc P w base spare held m f.type [u] = some y) := by
 rcases open_slice ht h with ⟨rfl, _⟩ | ⟨a, len, cap, m, n, D, Pl, rfl, _, hl, hm, hmm, _, hi⟩
 ·exact ⟨none, 0, 0, rfl, by simp [maxLen], fun _ => ⟨rfl, rfl⟩, fun h => absurd h (by omega)⟩
 refine ⟨some a, len, cap, rfl, by omega, by simp, fun hn => ?_⟩
 rw [hsp] at hmm
 simp only [if_true] at hmm
 have hstep : ∀ j, j < len → ∀ i f, fs[i]? = some f → ∃ u y m, w.cell? (a.add (j * fs.size + i)) = some u ∧ DataW.trod enc P w base spare held m f.type [u] = some y := by
  intro j hj i f hf
  obtain ⟨cs', hc, htr⟩ := hi j (by omega)
  rw [hC] at hc
  obtain ⟨ys, n', _, _, _, hyl, hfld⟩ := DataW.trod_struct he htr
  obtain ⟨_, hlen, hat⟩ := World.cells?_some hc
  have hil : i < fs.size := (Array.getElem?_eq_some_iff.1 hf).1
  obtain ⟨ho, hk⟩ := hone_of hone i f hf
  have h1 := hfld i f hf
  rw [ho, hk, List.drop_eq_getElem_cons (by omega)] at h1
  have hy : ys[i]? = some (ys[i]'(by omega)) := List.getElem?_eq_getElem (by omega)
  rw [hy] at h1
  refine ⟨cs'[i]'(by omega), _, _, ?_, h1⟩
  rw [← Go.Deep.add_add, hat i hil, List.getElem?_eq_getElem (by omega)]
 have hf0 : fs[0]? = some (fs[0]'h0) := Array.getElem?_eq_getElem h0
 obtain ⟨u, y, m', hu, _⟩ := hstep 0 hn 0 _ hf0
 have ha : a.add (0 * fs.size + 0) = a := by simp [Addr.add]
 rw [ha] at hu
 have hs := cell_spot hu
 have hlt := World.block_lt_of_cell? _ _ hu
 refine ⟨a.block, a.off, by rw [← addr_form hs], hlt, fun j hj i f hf => ?_⟩
 obtain ⟨u, y, m', hu, hy⟩ := hstep j hj i f hf
 refine ⟨u, y, m', ?_, hy⟩
 rw [addr_form hs, add_at] at hu
 rw [Nat.add_assoc]; exact hu
end
theorem wf_bits {k : IntKind} {n : Int} (h : (Lit.int k n).wf = true) : k.min ≤ n ∧ n ≤ k.max := by
 simpa [Lit.wf] using h
theorem list_ofG {α : Type} (Q : Nat → α → Prop) : ∀ n, (∀ j, j < n → ∃ r, Q j r) → ∃ L : List α, L.length = n ∧ ∀ j r, L[j]? = some r → Q j r
 | 0, _ => ⟨[], rfl, by simp⟩
 | n + 1, h => by
  obtain ⟨L, hl, hL⟩ := list_ofG Q n fun j hj => h j (by omega)
  obtain ⟨r, hr⟩ := h n (by omega)
  refine ⟨L ++ [r], by simp [hl], fun j x hx => ?_⟩
  rcases Nat.lt_or_ge j n with hj | hj
  ·rw [List.getElem?_append_left (by omega)] at hx; exact hL j x hx
  have hjl := (List.getElem?_eq_some_iff.1 hx).1
  simp [hl] at hjl
  obtain rfl : j = n := by omega
  rw [List.getElem?_append_right (by omega)] at hx
  simp [hl] at hx; subst hx; exact hr
section
variable {H : Type} {enc : TypeId × Value → H} {w : World} {base : Nat} {spare : Nat → Bool} {held : Bool}
theorem open_rows {α : Type} {E : Enc α} {Wf : α → Prop} {t ts : TypeId} (hts : Tryz.prog.underlying ts = some (.slice t)) (hC : Tryz.prog.cellsOf t = E.k)
  (el : ∀ {fuel : Nat} {cs : List Value} {x : DataW H × List MemPlace}, DataW.trod enc Tryz.prog w base spare held fuel t cs = some x → ∃ o, cs = E.cl o ∧ Wf o)
  {fuel : Nat} {cs : List Value} {x : DataW H × List MemPlace} (hsp : ∀ b, spare b = true) (h : DataW.trod enc Tryz.prog w base spare held fuel ts cs = some x) :
  ∃ A n c l, cs = [.slice A n c] ∧ SlG E w A n l ∧ (∀ x ∈ l, Wf x) ∧ (A = none → n = 0 ∧ c = 0) ∧ n ≤ c := by
 rcases open_slice hts h with ⟨rfl, _⟩ | ⟨a, len, cap, m, n, D, Pl, rfl, hlc, hl, hm, hmm, _, hi⟩
 ·exact ⟨none, 0, 0, [], rfl, SlG.nil w, by simp, fun _ => ⟨rfl, rfl⟩, by omega⟩
 rw [hsp] at hmm
 simp only [if_true] at hmm
 obtain ⟨L, hL1, hL2⟩ := list_ofG (fun j (o : α) => Wf o ∧ ∀ i u, (E.cl o)[i]? = some u → w.cell? (a.add (j * E.k + i)) = some u) len fun j hj => by
  obtain ⟨cs', hc, htr⟩ := hi j (by omega)
  obtain ⟨o, rfl, hw⟩ := el htr
  rw [hC] at hc
  obtain ⟨_, hlen, hat⟩ := World.cells?_some hc
  refine ⟨o, hw, fun i u hu => ?_⟩
  have h8 := (List.getElem?_eq_some_iff.1 hu).1
  rw [E.len] at h8
  rw [← Go.Deep.add_add, hat i (by omega), hu]
 refine ⟨some a, len, cap, L, rfl, ⟨hL1, by simp [maxLen] at hm; omega, fun h0 => ?_⟩, fun x hx => ?_, by simp, by omega⟩
 ·have hx0 := List.getElem?_eq_getElem (show 0 < L.length by omega)
  have hu := (hL2 0 _ hx0).2 0 _ (List.getElem?_eq_getElem (by rw [E.len]; exact E.pos))
  have ha : a.add (0 * E.k + 0) = a := by simp [Addr.add]
  rw [ha] at hu
  have hs := cell_spot hu
  refine ⟨a.block, a.off, by rw [← addr_form hs], World.block_lt_of_cell? _ _ hu, fun j x hx i u hu => ?_⟩
  have h1 := (hL2 j x hx).2 i u hu
  rw [addr_form hs, add_at] at h1
  rw [Nat.add_assoc]; exact h1
 obtain ⟨j, hj, rfl⟩ := List.getElem_of_mem hx
 exact (hL2 j _ (List.getElem?_eq_getElem hj)).1
end
section
variable {H : Type} {enc : TypeId × Value → H} {w : World} {base : Nat} {spare : Nat → Bool} {held : Bool}
set_option maxRecDepth 100000 in
theorem fst_of_trod {fuel : Nat} {cs : List Value} {x : DataW H × List MemPlace} (h : DataW.trod enc Tryz.prog w base spare held fuel 61 cs = some x) : ∃ o : Fst, cs = fopE.cl o ∧ o.Wf := by
 obtain ⟨xs, n, _, _, hl, hxl, hf⟩ := DataW.trod_struct Tryz.underlying61 h
 have hl2 : cs.length = 9 := hl.trans (by kernel_rfl)
 have hx2 : xs.length = 9 := hxl
 match cs, hl2 with
 | [c0, c1, c2, c3, c4, c5, c6, c7, c8], _ =>
 match xs, hx2 with
 | [y0, y1, y2, y3, y4, y5, y6, y7, y8], _ =>
 obtain ⟨b0, h0, _, w0⟩ := DataW.trod_int Tryz.underlying3 (x := y0) (hf 0 _ rfl)
 have g0 : [c0] = [Value.int .i64 b0] := h0
 injection g0 with g0 _
 obtain ⟨b1, h1, _, w1⟩ := DataW.trod_int Tryz.underlying3 (x := y1) (hf 1 _ rfl)
 have g1 : [c1] = [Value.int .i64 b1] := h1
 injection g1 with g1 _
 obtain ⟨b2, h2, _, w2⟩ := DataW.trod_int Tryz.underlying3 (x := y2) (hf 2 _ rfl)
 have g2 : [c2] = [Value.int .i64 b2] := h2
 injection g2 with g2 _
 obtain ⟨b3, h3, _, w3⟩ := DataW.trod_int Tryz.underlying3 (x := y3) (hf 3 _ rfl)
 have g3 : [c3] = [Value.int .i64 b3] := h3
 injection g3 with g3 _
 obtain ⟨b4, h4, _⟩ := DataW.trod_bool Tryz.underlying4 (x := y4) (hf 4 _ rfl)
 have g4 : [c4] = [Value.bool b4] := h4
 injection g4 with g4 _
 obtain ⟨b5, h5, _, w5⟩ := DataW.trod_int Tryz.underlying3 (x := y5) (hf 5 _ rfl)
 have g5 : [c5] = [Value.int .i64 b5] := h5
 injection g5 with g5 _
 obtain ⟨b6, h6, _, w6⟩ := DataW.trod_int Tryz.underlying3 (x := y6) (hf 6 _ rfl)
 have g6 : [c6] = [Value.int .i64 b6] := h6
 injection g6 with g6 _
 obtain ⟨b7, h7, _, w7⟩ := DataW.trod_int Tryz.underlying59 (x := y7) (hf 7 _ rfl)
 have g7 : [c7] = [Value.int .u64 b7] := h7
 injection g7 with g7 _
 obtain ⟨b8, h8, _, w8⟩ := DataW.trod_int Tryz.underlying3 (x := y8) (hf 8 _ rfl)
 have g8 : [c8] = [Value.int .i64 b8] := h8
 injection g8 with g8 _
 have e5 := wf_bits w5; have e7 := wf_bits w7
 simp [IntKind.min, IntKind.max, IntKind.signed, IntKind.bits] at e5 e7
 exact ⟨⟨b0, b1, b2, b3, b4, b5, b6, b7, b8⟩, by rw [g0, g1, g2, g3, g4, g5, g6, g7, g8]; rfl, ⟨e5, by show 0 ≤ b7; omega, by show b7 < 18446744073709551616; omega⟩⟩
set_option maxRecDepth 100000 in
theorem open_fopsT {fuel : Nat} {cs : List Value} {x : DataW H × List MemPlace} (hsp : ∀ b, spare b = true)
  (h : DataW.trod enc Tryz.prog w base spare held fuel 23 cs = some x) : ∃ A n c l, cs = [.slice A n c] ∧ FopsIn w A n l := by
 obtain ⟨A, n, c, l, h1, h2, h3, _⟩ := open_rows (E := fopE) Tryz.underlying23 (by kernel_rfl) (fun {_ _ _} h => fst_of_trod h) hsp h
 exact ⟨A, n, c, l, h1, h2, h3⟩
set_option maxRecDepth 100000 in
theorem open_fop {r : Reach} {b0 : Nat} {v : Value} {d : DataW H} {ps : List MemPlace} (hval : Value.okWide Tryz.prog w r b0 61 v) (hd : DataW.Trod enc Tryz.prog w base spare held 61 v d ps) : ∃ o : { o : Fst // o.Wf }, v = .agg o.1.cs := by
 obtain ⟨cs, rfl, _⟩ := okWide_struct Tryz.underlying61 hval
 obtain ⟨fuel, hf⟩ := hd
 obtain ⟨o, he, hw⟩ := fst_of_trod hf
 refine ⟨⟨o, hw⟩, ?_⟩
 congr 1
 apply Array.ext'
 have h2 : (Value.agg cs).cells.toList = o.cs.toList := he
 simpa [Value.cells] using h2
end
theorem list_ofP {α : Type} (Q : Nat → α → Prop) : ∀ n, (∀ j, j < n → ∃ r, Q j r) → ∃ L : List α, L.length = n ∧ ∀ j r, L[j]? = some r → Q j r
 | 0, _ => ⟨[], rfl, by simp⟩
 | n + 1, h => by
  obtain ⟨L, hl, hL⟩ := list_ofP Q n fun j hj => h j (by omega)
  obtain ⟨r, hr⟩ := h n (by omega)
  refine ⟨L ++ [r], by simp [hl], fun j q hq => ?_⟩
  rcases Nat.lt_or_ge j n with hj | hj
  ·rw [List.getElem?_append_left (by omega)] at hq; exact hL j q hq
  rw [List.getElem?_append_right (by omega)] at hq
  have hj' := (List.getElem?_eq_some_iff.1 hq).1
  simp at hj'
  obtain rfl : j = n := by omega
  rw [hl, Nat.sub_self] at hq
  obtain rfl : r = q := by simpa using hq
  exact hr
section
variable {H : Type} {enc : TypeId × Value → H} {w : World} {base : Nat} {spare : Nat → Bool} {held : Bool}
theorem open_puts {fuel : Nat} {cs : List Value} {x : DataW H × List MemPlace} (hsp : ∀ b, spare b = true)
  (h : DataW.trod enc Tryz.prog w base spare held fuel 22 cs = some x) : ∃ A n c l, cs = [.slice A n c] ∧ SlP w A n l := by
 obtain ⟨A, n, c, hcs, hm, _, hat⟩ := open_structs Tryz.underlying22 Tryz.underlying107 (by kernel_rfl) (by kernel_rfl) (by decide) hsp h
 rcases Nat.eq_zero_or_pos n with hn | hn
 ·subst hn
  exact ⟨A, 0, c, [], hcs, by decide, rfl, by simp, fun h => absurd h (by decide)⟩
 obtain ⟨b, off, e, hb, hr⟩ := hat hn
 obtain ⟨L, hl, hL⟩ := list_ofP (fun j (x : Pu) => (0 ≤ x.v ∧ x.v < 18446744073709551616) ∧ w.cell? ⟨b, off + j * 3, none⟩ = some (.int .i64 x.g) ∧ w.cell? ⟨b, off + j * 3 + 1, none⟩ = some (.int .i64 x.i) ∧ w.cell? ⟨b, off + j * 3 + 2, none⟩ = some (.int .u64 x.v)) n fun j hj => by
  obtain ⟨u0, _, _, k0, t0⟩ := hr j hj 0 _ rfl
  obtain ⟨u1, _, _, k1, t1⟩ := hr j hj 1 _ rfl
  obtain ⟨u2, _, _, k2, t2⟩ := hr j hj 2 _ rfl
  obtain ⟨g, h0, _, _⟩ := DataW.trod_int Tryz.underlying3 t0
  obtain ⟨i, h1, _, _⟩ := DataW.trod_int Tryz.underlying3 t1
  obtain ⟨v, h2, _, w2⟩ := DataW.trod_int Tryz.underlying59 t2
  injection h0 with h0; injection h1 with h1; injection h2 with h2
  subst h0; subst h1; subst h2
  have b2 := wf_bits w2
  simp [IntKind.min, IntKind.max, IntKind.signed, IntKind.bits] at b2
  exact ⟨⟨g, i, v⟩, ⟨b2.1, by show v < 18446744073709551616; omega⟩, k0, k1, k2⟩
 refine ⟨A, n, c, L, hcs, by simpa [maxLen] using hm, hl, fun x hx => ?_, fun _ => ⟨b, off, e, hb, fun j x hj => (hL j x hj).2⟩⟩
 obtain ⟨j, hj, rfl⟩ := List.getElem_of_mem hx
 exact (hL j _ (List.getElem?_eq_getElem hj)).1
end
end Go.Proofs.YtmbgepafpcbakaaGreatDoor
