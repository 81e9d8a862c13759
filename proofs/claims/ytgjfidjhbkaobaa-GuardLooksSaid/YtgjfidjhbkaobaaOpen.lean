/-
  What the laws' arguments are in memory: numbers, slices of words, slices of structs.
-/
import Derived.Test.YtgjfidjhbkaobaaG0
import Derived.ProofKit
import Derived.OpenShut
import Derived.Deep.Slices
import Derived.Deep.Fields
namespace Go.Proofs.Ytgjfidjhbkaobaa
open Go.ChangeShapes Go.WideShapes Go.ChangeAt Go.RowKit Go.Deep

section
variable {H : Type} {enc : TypeId × Value → H} {P : Program} {w : World} {base : Nat} {spare : Nat → Bool} {held : Bool}

theorem cell_spot {w : World} {a : Addr} {v : Value} (h : w.cell? a = some v) : a.spot = none := by
  unfold World.cell? at h
  split at h
  · cases hs : a.spot with
    | none => rfl
    | some _ => simp [hs] at h
  · cases h

theorem addr_form {a : Addr} (h : a.spot = none) : a = ⟨a.block, a.off, none⟩ := by cases a; simp_all

/-- a slice of structs, each of whose fields is one cell: where it lies, and what its cells read as -/
theorem open_structs {t e : TypeId} {fs : Array Field} {fuel : Nat} {cs : List Value} {x : DataW H × List MemPlace} (ht : P.underlying t = some (.slice e)) (he : P.underlying e = some (.struct fs))
    (hone : oneCellFields P fs = true) (hC : P.cellsOf e = fs.size) (h0 : 0 < fs.size) (hsp : ∀ b, spare b = true) (h : DataW.trod enc P w base spare held fuel t cs = some x) :
    ∃ A n c, cs = [.slice A n c] ∧ n ≤ maxLen ∧ (A = none → n = 0 ∧ c = 0) ∧ (0 < n → ∃ b off, A = some ⟨b, off, none⟩ ∧ b < w.heap.size ∧
      ∀ j, j < n → ∀ i f, fs[i]? = some f → ∃ u y m, w.cell? ⟨b, off + j * fs.size + i, none⟩ = some u ∧ DataW.trod enc P w base spare held m f.type [u] = some y) := by
  rcases open_slice ht h with ⟨rfl, _⟩ | ⟨a, len, cap, m, n, D, Pl, rfl, _, hl, hm, hmm, _, hi⟩
  · exact ⟨none, 0, 0, rfl, by simp [maxLen], fun _ => ⟨rfl, rfl⟩, fun h => absurd h (by omega)⟩
  · refine ⟨some a, len, cap, rfl, by omega, by simp, fun hn => ?_⟩
    rw [hsp] at hmm
    simp only [if_true] at hmm
    have hstep : ∀ j, j < len → ∀ i f, fs[i]? = some f → ∃ u y m, w.cell? (a.add (j * fs.size + i)) = some u ∧ DataW.trod enc P w base spare held m f.type [u] = some y := by
      intro j hj i f hf
      obtain ⟨cs', hc, htr⟩ := hi j (by omega)
      rw [hC] at hc
      obtain ⟨ys, n', _, _, _, hyl, hfld⟩ := DataW.trod_struct he htr
      obtain ⟨_, hlen, hat⟩ := World.cells?_some hc
      have hil : i < fs.size := (Array.getElem?_eq_some_iff.1 hf).1
      obtain ⟨ho, hk⟩ := hone_of hone i f hf
      have h1 := hfld i f hf
      rw [ho, hk, List.drop_eq_getElem_cons (by omega)] at h1
      have hy : ys[i]? = some (ys[i]'(by omega)) := List.getElem?_eq_getElem (by omega)
      rw [hy] at h1
      refine ⟨cs'[i]'(by omega), _, _, ?_, h1⟩
      rw [← Go.Deep.add_add, hat i hil, List.getElem?_eq_getElem (by omega)]
    have hf0 : fs[0]? = some (fs[0]'h0) := Array.getElem?_eq_getElem h0
    obtain ⟨u, y, m', hu, _⟩ := hstep 0 hn 0 _ hf0
    have ha : a.add (0 * fs.size + 0) = a := by simp [Addr.add]
    rw [ha] at hu
    have hs := cell_spot hu
    have hlt := World.block_lt_of_cell? _ _ hu
    refine ⟨a.block, a.off, by rw [← addr_form hs], hlt, fun j hj i f hf => ?_⟩
    obtain ⟨u, y, m', hu, hy⟩ := hstep j hj i f hf
    refine ⟨u, y, m', ?_, hy⟩
    rw [addr_form hs, add_at] at hu
    rw [Nat.add_assoc]; exact hu

/-- a slice of integers of any kind -/
theorem open_row {t e : TypeId} {k : IntKind} {fuel : Nat} {cs : List Value} {x : DataW H × List MemPlace} (ht : P.underlying t = some (.slice e)) (he : P.underlying e = some (.int k)) (hc : P.cellsOf e = 1) (hsp : ∀ b, spare b = true)
    (h : DataW.trod enc P w base spare held fuel t cs = some x) :
    ∃ (A : Option Addr) (n c : Nat) (zs : List Int), cs = [.slice A n c] ∧ n ≤ maxLen ∧ (A = none → n = 0 ∧ c = 0) ∧ zs.length = n ∧ (∀ q ∈ zs, (Lit.int k q).wf = true) ∧ (0 < n → ∃ b off, A = some ⟨b, off, none⟩ ∧ b < w.heap.size ∧ ∀ j u, zs[j]? = some u → w.cell? ⟨b, off + j, none⟩ = some (.int k u)) := by
  rcases open_ints ht he hc h with ⟨rfl, _⟩ | ⟨a, len, cap, zs, rfl, _, hl, hm, hz, _, hcell, hwf⟩
  · exact ⟨none, 0, 0, [], rfl, by simp [maxLen], fun _ => ⟨rfl, rfl⟩, rfl, by simp, fun h => absurd h (by omega)⟩
  · rw [hsp] at hz
    simp only [if_true] at hz
    refine ⟨some a, len, cap, zs.take len, rfl, by omega, by simp, by simp; omega, fun q hq => hwf q (List.mem_of_mem_take hq), fun hn => ?_⟩
    have h0 := hcell 0 (by omega)
    have ha : a.add 0 = a := by simp [Addr.add]
    rw [ha] at h0
    have hs := cell_spot h0
    refine ⟨a.block, a.off, by rw [← addr_form hs], World.block_lt_of_cell? _ _ h0, fun j u hu => ?_⟩
    have hj : j < len := by have := (List.getElem?_eq_some_iff.1 hu).1; simp at this; omega
    have h1 := hcell j (by omega)
    rw [addr_form hs, add_at] at h1
    rw [h1]
    rw [List.getElem?_take, if_pos hj] at hu
    simp only [List.getD_eq_getElem?_getD, hu, Option.getD_some]
/-- .. and it has room for its elements -/
theorem open_row_cap {t e : TypeId} {k : IntKind} {fuel : Nat} {A : Option Addr} {n c : Nat} {x : DataW H × List MemPlace} (ht : P.underlying t = some (.slice e)) (he : P.underlying e = some (.int k)) (hc : P.cellsOf e = 1)
    (h : DataW.trod enc P w base spare held fuel t [.slice A n c] = some x) : n ≤ c := by
  rcases open_ints ht he hc h with ⟨e, _⟩ | ⟨a, len, cap, zs, e, _, hl, hm, hz, _, hcell, hwf⟩
  · injection e with e; injection e with e1 e2 e3; omega
  · injection e with e; injection e with e1 e2 e3; omega
end

theorem wf_bits {k : IntKind} {n : Int} (h : (Lit.int k n).wf = true) : k.min ≤ n ∧ n ≤ k.max := by
  simpa [Lit.wf] using h

end Go.Proofs.Ytgjfidjhbkaobaa
