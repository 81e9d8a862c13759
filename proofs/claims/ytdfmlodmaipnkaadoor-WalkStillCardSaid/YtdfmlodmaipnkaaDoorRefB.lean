/-
  The contracts of the document's memory: New, Frames, is, Get, Set, Frame, Fill.
-/
import Derived.Test.YtdfmlodmaipnkaaDoorRefA
namespace Go.Proofs.YtdfmlodmaipnkaaDoor
open Go.RowKit

theorem MemAt.chg {p b n : Nat} {L : List Int} {w w' : World} {S : List Nat} (h : MemAt w p b n L) (hc : Chg S w w') (hp : p ∉ S) (hb : b ∉ S) : MemAt w' p b n L :=
  ⟨hc.blk h.st hp, hc.blk h.ws hb, h.len, h.pos, h.le⟩

theorem hasW_zero (n : Nat) (f : Int) : hasW n f 0 = hasF n f := by simp [hasW, hasF]

/-- so many words of xs are written from o on -/
def setTo (L : List Int) (o : Nat) (xs : List Int) (k : Nat) : List Int := setAll L o (xs.take k)
theorem setTo_zero (L : List Int) (o : Nat) (xs : List Int) : setTo L o xs 0 = L := by simp [setTo, setAll]
theorem setTo_full (L : List Int) (o : Nat) (xs : List Int) (n : Nat) (h : xs.length = n) : setTo L o xs n = setAll L o xs := by rw [setTo, List.take_of_length_le (by omega)]
theorem setAll_snoc : ∀ (xs L : List Int) (o : Nat) (x : Int), setAll L o (xs ++ [x]) = (setAll L o xs).set (o + xs.length) x
  | [], L, o, x => by simp [setAll]
  | y :: r, L, o, x => by rw [List.cons_append, setAll, setAll_snoc r, setAll, List.length_cons, show o + 1 + r.length = o + (r.length + 1) from by omega]
theorem setTo_step (L : List Int) (o : Nat) (xs : List Int) (k : Nat) (hk : k < xs.length) : (setTo L o xs k).set (o + k) (xs.getD k 0) = setTo L o xs (k + 1) := by
  unfold setTo
  rw [List.take_succ_eq_append_getElem hk, setAll_snoc, List.length_take, Nat.min_eq_left (by omega)]
  simp only [List.getD_eq_getElem?_getD, List.getElem?_eq_getElem hk, Option.getD_some]

end Go.Proofs.YtdfmlodmaipnkaaDoor
