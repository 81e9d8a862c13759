/-
  Words that a memory begins with: lists of them as arguments, and the memory that they make.
-/
import Derived.Test.YtdfmlodmaipnkaaGreatDoorWalkM
import Derived.Test.YtdfmlodmaipnkaaGreatDoorLib2
import Derived.Test.YtdfmlodmaipnkaaGreatDoorProg
namespace Go.Proofs.YtdfmlodmaipnkaaGreatDoor
open Go.RowKit

/-- a word that a memory begins with -/
structure Pu where
  g : Int
  i : Int
  v : Int
/-- a slice of them reads as this list -/
structure SlP (w : World) (A : Option Addr) (n : Nat) (l : List Pu) : Prop where
  le : n ≤ 9223372036854775807
  len : l.length = n
  wf : ∀ x ∈ l, 0 ≤ x.v ∧ x.v < 18446744073709551616
  at_ : 0 < n → ∃ b off, A = some ⟨b, off, none⟩ ∧ b < w.heap.size ∧ ∀ j x, l[j]? = some x →
    w.cell? ⟨b, off + j * 3, none⟩ = some (.int .i64 x.g) ∧ w.cell? ⟨b, off + j * 3 + 1, none⟩ = some (.int .i64 x.i) ∧ w.cell? ⟨b, off + j * 3 + 2, none⟩ = some (.int .u64 x.v)
def Pu.zero : Pu := ⟨0, 0, 0⟩
section
variable {w w' : World} {A : Option Addr} {n : Nat} {l : List Pu}
theorem SlP.chg {S : List Nat} (h : SlP w A n l) (hc : Chg S w w') (hn : ∀ b off, A = some ⟨b, off, none⟩ → b ∉ S) : SlP w' A n l :=
  ⟨h.le, h.len, h.wf, fun h0 => by
    obtain ⟨b, off, rfl, hb, hr⟩ := h.at_ h0
    refine ⟨b, off, rfl, Nat.lt_of_lt_of_le hb hc.size, fun j x hj => ?_⟩
    obtain ⟨h1, h2, h3⟩ := hr j x hj
    exact ⟨(hc.cell (p := ⟨b, _, none⟩) hb (hn b off rfl)).trans h1, (hc.cell (p := ⟨b, _, none⟩) hb (hn b off rfl)).trans h2, (hc.cell (p := ⟨b, _, none⟩) hb (hn b off rfl)).trans h3⟩⟩
theorem SlP.self (h : SlP w A n l) (hc : Chg [] w w') : SlP w' A n l := h.chg hc (by simp)
theorem SlP.get (h : SlP w A n l) {k : Nat} (hk : k < n) :
    ∃ b off x, A = some ⟨b, off, none⟩ ∧ b < w.heap.size ∧ l[k]? = some x ∧ w.cell? ⟨b, off + k * 3, none⟩ = some (.int .i64 x.g) ∧ w.cell? ⟨b, off + k * 3 + 1, none⟩ = some (.int .i64 x.i) ∧ w.cell? ⟨b, off + k * 3 + 2, none⟩ = some (.int .u64 x.v) := by
  obtain ⟨b, off, e, hb, hr⟩ := h.at_ (by omega)
  have hl := h.len
  have hj : l[k]? = some (l[k]'(by omega)) := List.getElem?_eq_getElem (by omega)
  obtain ⟨h1, h2, h3⟩ := hr k _ hj
  exact ⟨b, off, _, e, hb, hj, h1, h2, h3⟩
end

def L16 : List Int := [0, 1, 2, 3, 4, 5, 6, 7, 8, 9, 10, 11, 12, 13, 14, 15]
theorem L16_ok : OkL L16 16 := ⟨by decide, by decide, by decide, by decide, by decide, by decide⟩
theorem L16_len : L16.length = 16 := rfl
theorem hasG_16 (g i : Int) : hasG 16 L16 g i = decide (0 ≤ g ∧ g < 16 ∧ 0 ≤ i ∧ i < 8) := hasG_nat (n := 16) L16_ok.inh
/-- the memory's words -/
def madeW (l : List Pu) : List Int := l.foldl (fun W x => setG 16 W L16 x.g x.i x.v) (zeros (8 * 16))
theorem made_nil : madeW [] = zeros (8 * 16) := rfl
theorem made_snoc {l : List Pu} {k : Nat} {x : Pu} (h : l[k]? = some x) : madeW (l.take (k + 1)) = setG 16 (madeW (l.take k)) L16 x.g x.i x.v := by
  have hk := (List.getElem?_eq_some_iff.1 h).1
  have he := (List.getElem?_eq_some_iff.1 h).2
  rw [List.take_succ_eq_append_getElem hk, he]
  simp [madeW, List.foldl_append]
theorem made_wd (l : List Pu) (h : ∀ x ∈ l, 0 ≤ x.v ∧ x.v < 18446744073709551616) : WdW (madeW l) ∧ (madeW l).length = 8 * 16 := by
  have : ∀ (l : List Pu) (W : List Int), (∀ x ∈ l, 0 ≤ x.v ∧ x.v < 18446744073709551616) → WdW W → W.length = 8 * 16 → WdW (l.foldl (fun W x => setG 16 W L16 x.g x.i x.v) W) ∧ (l.foldl (fun W x => setG 16 W L16 x.g x.i x.v) W).length = 8 * 16 := by
    intro l
    induction l with
    | nil => intro W _ h1 h2; exact ⟨h1, h2⟩
    | cons x l ih =>
      intro W h h1 h2
      exact ih _ (fun y hy => h y (List.mem_cons_of_mem _ hy)) (h1.set_ _ _ _ _ _ (h x (List.mem_cons_self ..))) ((setG_len _ _ _ _ _ _).trans h2)
  exact this l _ h (WdW.zeros_ _) (by simp [zeros])

end Go.Proofs.YtdfmlodmaipnkaaGreatDoor
