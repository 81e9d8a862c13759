/-
  Lists of hits, of calls, of numbers, as arguments of a law of tlb.
-/
import Derived.Test.YtikdoldmhlbklaaOpen
import Derived.Test.YtikdoldmhlbklaaTlbO
namespace Go.Proofs.Ytikdoldmhlbklaa
open Go.ChangeShapes Go.WideShapes Go.ChangeAt Go.RowKit Go.Deep

theorem list_ofH {α : Type} (Q : Nat → α → Prop) : ∀ n, (∀ j, j < n → ∃ r, Q j r) → ∃ L : List α, L.length = n ∧ ∀ j r, L[j]? = some r → Q j r
  | 0, _ => ⟨[], rfl, by simp⟩
  | n + 1, h => by
    obtain ⟨L, hl, hL⟩ := list_ofH Q n fun j hj => h j (by omega)
    obtain ⟨r, hr⟩ := h n (by omega)
    refine ⟨L ++ [r], by simp [hl], fun j q hq => ?_⟩
    rcases Nat.lt_or_ge j n with hj | hj
    · rw [List.getElem?_append_left (by omega)] at hq; exact hL j q hq
    · rw [List.getElem?_append_right (by omega)] at hq
      have hj' := (List.getElem?_eq_some_iff.1 hq).1
      simp at hj'
      obtain rfl : j = n := by omega
      rw [hl, Nat.sub_self] at hq
      obtain rfl : r = q := by simpa using hq
      exact hr

section
variable {H : Type} {enc : TypeId × Value → H} {w : World} {base : Nat} {spare : Nat → Bool} {held : Bool}

/-- one cell of a struct, as a field -/
theorem take1 {cs : List Value} {n : Nat} (h : n < cs.length) : (cs.drop n).take 1 = [cs[n]] := by
  rw [List.drop_eq_getElem_cons h]; rfl
theorem right_of_trod {fuel : Nat} {cs : List Value} {x : DataW H × List MemPlace} (h : DataW.trod enc Try.prog w base spare held fuel 29 cs = some x) : ∃ a b c, cs = [.bool a, .bool b, .bool c] := by
  obtain ⟨xs, n, _, _, hlen, hxl, hf⟩ := DataW.trod_struct Try.underlying29 h
  have hl : cs.length = 3 := hlen
  have e : ∀ i, i < 3 → xs[i]? = some (xs[i]!) := fun i hi => by rw [getElem!_pos xs i (by rw [hxl]; exact hi), List.getElem?_eq_getElem]
  have h0 := (hf 0 _ rfl).trans (e 0 (by decide)); have h1 := (hf 1 _ rfl).trans (e 1 (by decide)); have h2 := (hf 2 _ rfl).trans (e 2 (by decide))
  change DataW.trod enc Try.prog w base spare held n 4 ((cs.drop 0).take 1) = _ at h0
  change DataW.trod enc Try.prog w base spare held n 4 ((cs.drop 1).take 1) = _ at h1
  change DataW.trod enc Try.prog w base spare held n 4 ((cs.drop 2).take 1) = _ at h2
  rw [take1 (by omega)] at h0 h1 h2
  obtain ⟨a, h0, _⟩ := DataW.trod_bool Try.underlying4 h0
  obtain ⟨b, h1, _⟩ := DataW.trod_bool Try.underlying4 h1
  obtain ⟨c, h2, _⟩ := DataW.trod_bool Try.underlying4 h2
  injection h0 with h0; injection h1 with h1; injection h2 with h2
  refine ⟨a, b, c, ?_⟩
  match cs, hl with
  | [x0, x1, x2], _ => simp at h0 h1 h2; rw [h0, h1, h2]
theorem hit_of_trod {fuel : Nat} {cs : List Value} {x : DataW H × List MemPlace} (h : DataW.trod enc Try.prog w base spare held fuel 31 cs = some x) : ∃ h : Ht, cs = h.cl := by
  obtain ⟨xs, n, _, _, hlen, hxl, hf⟩ := DataW.trod_struct Try.underlying31 h
  have hl : cs.length = 7 := hlen
  have e : ∀ i, i < 5 → xs[i]? = some (xs[i]!) := fun i hi => by rw [getElem!_pos xs i (by rw [hxl]; exact hi), List.getElem?_eq_getElem]
  have h0 := (hf 0 _ rfl).trans (e 0 (by decide)); have h1 := (hf 1 _ rfl).trans (e 1 (by decide)); have h2 := (hf 2 _ rfl).trans (e 2 (by decide)); have h3 := (hf 3 _ rfl).trans (e 3 (by decide)); have h4 := (hf 4 _ rfl).trans (e 4 (by decide))
  change DataW.trod enc Try.prog w base spare held n 3 ((cs.drop 0).take 1) = _ at h0
  change DataW.trod enc Try.prog w base spare held n 3 ((cs.drop 1).take 1) = _ at h1
  change DataW.trod enc Try.prog w base spare held n 3 ((cs.drop 2).take 1) = _ at h2
  change DataW.trod enc Try.prog w base spare held n 29 ((cs.drop 3).take 3) = _ at h3
  change DataW.trod enc Try.prog w base spare held n 4 ((cs.drop 6).take 1) = _ at h4
  rw [take1 (by omega)] at h0 h1 h2 h4
  obtain ⟨a, h0, _⟩ := DataW.trod_int Try.underlying3 h0
  obtain ⟨p, h1, _⟩ := DataW.trod_int Try.underlying3 h1
  obtain ⟨f, h2, _⟩ := DataW.trod_int Try.underlying3 h2
  obtain ⟨rw_, ru, rx, h3⟩ := right_of_trod h3
  obtain ⟨d, h4, _⟩ := DataW.trod_bool Try.underlying4 h4
  injection h0 with h0; injection h1 with h1; injection h2 with h2; injection h4 with h4
  refine ⟨⟨a, p, f, rw_, ru, rx, d⟩, ?_⟩
  match cs, hl with
  | [x0, x1, x2, x3, x4, x5, x6], _ =>
    simp at h0 h1 h2 h3 h4
    obtain ⟨h30, h31, h32⟩ := h3
    rw [h0, h1, h2, h30, h31, h32, h4]; rfl
theorem op_of_trod {fuel : Nat} {cs : List Value} {x : DataW H × List MemPlace} (h : DataW.trod enc Try.prog w base spare held fuel 33 cs = some x) : ∃ (o : OpT), cs = .int .i64 o.what :: (o.h.cl ++ [.int .i64 o.n]) ∧ -9223372036854775808 ≤ o.n ∧ o.n ≤ 9223372036854775807 := by
  obtain ⟨xs, n, _, _, hlen, hxl, hf⟩ := DataW.trod_struct Try.underlying33 h
  have hl : cs.length = 9 := hlen
  have e : ∀ i, i < 3 → xs[i]? = some (xs[i]!) := fun i hi => by rw [getElem!_pos xs i (by rw [hxl]; exact hi), List.getElem?_eq_getElem]
  have h0 := (hf 0 _ rfl).trans (e 0 (by decide)); have h1 := (hf 1 _ rfl).trans (e 1 (by decide)); have h2 := (hf 2 _ rfl).trans (e 2 (by decide))
  change DataW.trod enc Try.prog w base spare held n 3 ((cs.drop 0).take 1) = _ at h0
  change DataW.trod enc Try.prog w base spare held n 31 ((cs.drop 1).take 7) = _ at h1
  change DataW.trod enc Try.prog w base spare held n 3 ((cs.drop 8).take 1) = _ at h2
  rw [take1 (by omega)] at h0 h2
  obtain ⟨what, h0, _⟩ := DataW.trod_int Try.underlying3 h0
  obtain ⟨hh, h1⟩ := hit_of_trod h1
  obtain ⟨nn, h2, _, w2⟩ := DataW.trod_int Try.underlying3 h2
  injection h0 with h0; injection h2 with h2
  have b2 := wf_bits w2
  refine ⟨⟨what, hh, nn⟩, ?_, by simpa [IntKind.min, IntKind.max, IntKind.signed, IntKind.bits] using b2⟩
  match cs, hl with
  | [x0, x1, x2, x3, x4, x5, x6, x7, x8], _ =>
    simp at h0 h1 h2
    rw [h0, h2]
    show _ = Value.int .i64 what :: (hh.cl ++ [.int .i64 nn])
    rw [← h1]; rfl

theorem open_hits {fuel : Nat} {cs : List Value} {x : DataW H × List MemPlace} (hsp : ∀ b, spare b = true)
    (h : DataW.trod enc Try.prog w base spare held fuel 41 cs = some x) : ∃ A n c L, cs = [.slice A n c] ∧ SlH w A n L := by
  rcases open_slice Try.underlying41 h with ⟨rfl, _⟩ | ⟨a, len, cap, m, n, D, Pl, rfl, _, hl, hm, hmm, _, hi⟩
  · exact ⟨none, 0, 0, [], rfl, rfl, by omega, fun h => absurd h (by omega)⟩
  · rw [hsp] at hmm
    simp only [if_true] at hmm
    have hC : Try.prog.cellsOf 31 = 7 := by kernel_rfl
    obtain ⟨L, hL1, hL2⟩ := list_ofH (fun j (h : Ht) => ∀ i u, h.cl[i]? = some u → w.cell? (a.add (j * 7 + i)) = some u) len fun j hj => by
      obtain ⟨cs', hc, htr⟩ := hi j (by omega)
      obtain ⟨h, rfl⟩ := hit_of_trod htr
      rw [hC] at hc
      obtain ⟨_, hlen, hat⟩ := World.cells?_some hc
      refine ⟨h, fun i u hu => ?_⟩
      have h7 := (List.getElem?_eq_some_iff.1 hu).1
      rw [← Go.Deep.add_add, hat i (by omega), hu]
    refine ⟨some a, len, cap, L, rfl, hL1, by simp [maxLen] at hm; omega, fun h0 => ?_⟩
    have hu := hL2 0 _ (List.getElem?_eq_getElem (by omega)) 0 _ rfl
    have ha : a.add (0 * 7 + 0) = a := by simp [Addr.add]
    rw [ha] at hu
    have hs := cell_spot hu
    refine ⟨a.block, a.off, by rw [← addr_form hs], World.block_lt_of_cell? _ _ hu, fun j x hx => .of fun i u hu => ?_⟩
    have h1 := hL2 j x hx i u hu
    rw [addr_form hs, add_at] at h1
    rw [Nat.add_assoc]; exact h1
theorem open_calls {fuel : Nat} {cs : List Value} {x : DataW H × List MemPlace} (hsp : ∀ b, spare b = true)
    (h : DataW.trod enc Try.prog w base spare held fuel 22 cs = some x) : ∃ A n c, cs = [.slice A n c] ∧ SlO w A n := by
  rcases open_slice Try.underlying22 h with ⟨rfl, _⟩ | ⟨a, len, cap, m, n, D, Pl, rfl, _, hl, hm, hmm, _, hi⟩
  · exact ⟨none, 0, 0, rfl, by omega, fun h => absurd h (by omega)⟩
  · rw [hsp] at hmm
    simp only [if_true] at hmm
    have hC : Try.prog.cellsOf 33 = 9 := by kernel_rfl
    have hstep : ∀ j, j < len → ∃ o : OpT, (∀ i u, (Value.int .i64 o.what :: (o.h.cl ++ [.int .i64 o.n]))[i]? = some u → w.cell? (a.add (j * 9 + i)) = some u) ∧ -9223372036854775808 ≤ o.n ∧ o.n ≤ 9223372036854775807 := fun j hj => by
      obtain ⟨cs', hc, htr⟩ := hi j (by omega)
      obtain ⟨o, rfl, hw⟩ := op_of_trod htr
      rw [hC] at hc
      obtain ⟨_, hlen, hat⟩ := World.cells?_some hc
      refine ⟨o, fun i u hu => ?_, hw⟩
      have h9 := (List.getElem?_eq_some_iff.1 hu).1
      rw [← Go.Deep.add_add, hat i (by omega), hu]
    refine ⟨some a, len, cap, rfl, by simp [maxLen] at hm; omega, fun h0 => ?_⟩
    obtain ⟨o0, hu, _⟩ := hstep 0 h0
    have hu := hu 0 _ rfl
    have ha : a.add (0 * 9 + 0) = a := by simp [Addr.add]
    rw [ha] at hu
    have hs := cell_spot hu
    refine ⟨a.block, a.off, by rw [← addr_form hs], World.block_lt_of_cell? _ _ hu, fun j hj => ?_⟩
    obtain ⟨o, ho, hw⟩ := hstep j hj
    have k : ∀ i u, (Value.int .i64 o.what :: (o.h.cl ++ [.int .i64 o.n]))[i]? = some u → w.cell? ⟨a.block, a.off + j * 9 + i, none⟩ = some u := fun i u hu => by
      have h1 := ho i u hu
      rw [addr_form hs, add_at] at h1
      rw [Nat.add_assoc]; exact h1
    exact ⟨o, k 0 _ rfl, k 1 _ rfl, k 2 _ rfl, k 3 _ rfl, k 4 _ rfl, k 5 _ rfl, k 6 _ rfl, k 7 _ rfl, k 8 _ rfl, hw⟩
theorem open_numbers {fuel : Nat} {cs : List Value} {x : DataW H × List MemPlace} (hsp : ∀ b, spare b = true)
    (h : DataW.trod enc Try.prog w base spare held fuel 47 cs = some x) : ∃ A n c zs, cs = [.slice A n c] ∧ SlK .i64 w A n zs := by
  obtain ⟨A, n, c, zs, hcs, hm, hnil, hl, hw, hat⟩ := open_row Try.underlying47 Try.underlying3 (by kernel_rfl) hsp h
  exact ⟨A, n, c, zs, hcs, hl, by simpa [maxLen] using hm, fun q hq => wf_bits (hw q hq), hat⟩
end

end Go.Proofs.Ytikdoldmhlbklaa
