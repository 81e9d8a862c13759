/-
  What a page's walk finds, plainly: no program is walked here.
-/
import Derived.Test.YtdfmlodmaipnkaaGreatDoorGuestP
import Derived.Test.YtdfmlodmaipnkaaGreatDoorPteB
import Derived.Test.YtdfmlodmaipnkaaGreatDoorRightB
import Derived.Test.YtdfmlodmaipnkaaGreatDoorVaA
namespace Go.Proofs.YtdfmlodmaipnkaaGreatDoor
open Go.RowKit

/-- a word of a guest, if there is one -/
def rdG (n : Nat) (W L : List Int) (g i : Int) : Option Nat := if hasG n L g i then some (getG n W L g i).toNat else none
/-- may there be no such entry at its level? -/
def badE (e : Ent) (lv : Int) : Bool := e.bad || (e.s && (lv != 2 || e.f % 8 != 0))
def ofE (e : Ent) : Rg := ⟨e.w, e.u, !e.n⟩
/-- a path -/
structure Pa where
  ats : List (Int × Int)
  g : Int
  r : Rg
  large : Bool
  dirty : Bool
def Pa.zero : Pa := ⟨[], 0, ⟨false, false, false⟩, false, false⟩
def Pa.start : Pa := ⟨[], 0, Rg.all, false, false⟩
/-- an entry on a way: its level, its place, what it says; or why there is none: 0: no word; 1: it is not there; 2: it may not be -/
structure It where
  lv : Int
  g : Int
  i : Int
  e : Ent
  err : Option Nat
def Ent.zero : Ent := ⟨false, false, false, false, false, false, false, false, 0⟩
def It.bad (t : Nat) : It := ⟨0, 0, 0, Ent.zero, some t⟩
/-- does the way end with it? -/
def It.last (x : It) : Bool := x.lv == 1 || x.e.s
/-- what a page's entry of the table g is -/
def stepW (rd : Int → Int → Option Nat) (page g lv : Int) : It :=
  match rd g (idxI page lv) with
  | none => It.bad 0
  | some v => if (getE v).p then (if badE (getE v) lv then It.bad 2 else ⟨lv, g, idxI page lv, getE v, none⟩) else It.bad 1
/-- the entries of a way -/
def seqW (rd : Int → Int → Option Nat) (page : Int) : Nat → Int → List It
  | 0, _ => []
  | lv + 1, g => stepW rd page g (lv + 1 : Nat) :: if (stepW rd page g (lv + 1 : Nat)).err.isSome || (stepW rd page g (lv + 1 : Nat)).last then [] else seqW rd page lv (stepW rd page g (lv + 1 : Nat)).e.f
/-- the path, and one entry more -/
def accP (page : Int) (p : Pa) (x : It) : Pa :=
  ⟨p.ats ++ [(x.g, x.i)], if x.last then (if x.e.s then wrap64 (x.e.f + idxI page 1) else x.e.f) else p.g, p.r.and (ofE x.e), if x.last then x.e.s else p.large, if x.last then x.e.d else p.dirty⟩
def runW (page : Int) : List It → Pa → Except Nat Pa
  | [], p => .ok p
  | x :: l, p => match x.err with
    | some t => .error t
    | none => runW page l (accP page p x)
def pathP (rd : Int → Int → Option Nat) (page root : Int) : Except Nat Pa := runW page (seqW rd page 3 root) Pa.start
/-- how a walk comes out that stops so, and the code -/
def stopOf (kind : Int) (user : Bool) (t : Nat) : Int × Int := if t = 0 then (3, 0) else if t = 1 then (1, codeN kind user false false) else if t = 2 then (1, codeN kind user true true) else (1, codeN kind user true false)
/-- the same, with what is asked for: 3: it is not permitted -/
def grantP (m : Nat) (kind : Int) (user : Bool) : Except Nat Pa → Except Nat Pa
  | .error t => .error t
  | .ok p => if mayB p.r kind user then (if p.g ≥ m then .error 0 else .ok p) else .error 3
def outP (kind : Int) (user : Bool) : Except Nat Pa → Pa × Int × Int
  | .error t => (Pa.zero, stopOf kind user t)
  | .ok p => (p, 0, 0)
def walkP (n : Nat) (W L : List Int) (root page kind : Int) (user : Bool) : Pa × Int × Int := outP kind user (grantP L.length kind user (pathP (rdG n W L) page root))

/-- are all of a path's words there, and used? -/
def allAts (n : Nat) (L : List Int) (ats : List (Int × Int)) : Bool := ats.all fun a => hasG n L a.1 a.2
def usedAts (n : Nat) (W L : List Int) (ats : List (Int × Int)) : Bool := ats.all fun a => hasG n L a.1 a.2 && (getE (getG n W L a.1 a.2).toNat).a
def usedN (v : Nat) (t : Bool) : Nat := (if t then v ||| 64 else v) ||| 32
/-- the first k of a path's words are marked -/
def markTo (n : Nat) (L : List Int) (ats : List (Int × Int)) (written : Bool) (W : List Int) : Nat → List Int
  | 0 => W
  | k + 1 => setG n (markTo n L ats written W k) L (ats.getD k (0, 0)).1 (ats.getD k (0, 0)).2
      (usedN (getG n (markTo n L ats written W k) L (ats.getD k (0, 0)).1 (ats.getD k (0, 0)).2).toNat (written && decide (k + 1 = ats.length)))
def markP (n : Nat) (L : List Int) (ats : List (Int × Int)) (written : Bool) (W : List Int) : List Int := if allAts n L ats then markTo n L ats written W ats.length else W

/-- words of 64 bits -/
def WdW (W : List Int) : Prop := ∀ x ∈ W, 0 ≤ x ∧ x < 18446744073709551616
theorem WdW.getD {W : List Int} (h : WdW W) (k : Nat) : 0 ≤ W.getD k 0 ∧ W.getD k 0 < 18446744073709551616 := by
  by_cases hk : k < W.length
  · have hm : W.getD k 0 ∈ W := by
      simp only [List.getD_eq_getElem?_getD, List.getElem?_eq_getElem hk, Option.getD_some]; exact List.getElem_mem hk
    exact h _ hm
  · simp [List.getD_eq_getElem?_getD, List.getElem?_eq_none (Nat.le_of_not_lt hk)]
theorem wdw_get {W : List Int} (h : WdW W) (n : Nat) (L : List Int) (g i : Int) : 0 ≤ getG n W L g i ∧ getG n W L g i < 18446744073709551616 := by
  unfold getG
  split
  · unfold getW; split
    · exact h.getD _
    · decide
  · decide
theorem WdW.getN {W : List Int} (h : WdW W) (n : Nat) (L : List Int) (g i : Int) : ((getG n W L g i).toNat : Int) = getG n W L g i ∧ (getG n W L g i).toNat < 18446744073709551616 := by
  have := wdw_get h n L g i
  omega
theorem WdW.set_ {W : List Int} (h : WdW W) (n : Nat) (L : List Int) (g i v : Int) (hv : 0 ≤ v ∧ v < 18446744073709551616) : WdW (setG n W L g i v) := by
  unfold setG
  split
  · unfold setW; split
    · intro x hx
      rcases List.mem_or_eq_of_mem_set hx with hx | rfl
      · exact h x hx
      · exact hv
    · exact h
  · exact h
theorem WdW.zeros_ (n : Nat) : WdW (zeros n) := by
  intro x hx
  rw [List.eq_of_mem_replicate hx]; decide
theorem usedN_lt {v : Nat} (t : Bool) (h : v < 18446744073709551616) : usedN v t < 18446744073709551616 := by
  unfold usedN
  cases t
  · exact Nat.or_lt_two_pow (n := 64) h (by decide)
  · exact Nat.or_lt_two_pow (n := 64) (Nat.or_lt_two_pow (n := 64) h (by decide)) (by decide)
theorem WdW.mark_to {W : List Int} (h : WdW W) (n : Nat) (L : List Int) (ats : List (Int × Int)) (t : Bool) : ∀ k, WdW (markTo n L ats t W k)
  | 0 => h
  | k + 1 => by
    have ih := h.mark_to n L ats t k
    refine ih.set_ _ _ _ _ _ ?_
    have := usedN_lt (t && decide (k + 1 = ats.length)) (ih.getN n L (ats.getD k (0, 0)).1 (ats.getD k (0, 0)).2).2
    exact ⟨by omega, by omega⟩
theorem WdW.mark_ {W : List Int} (h : WdW W) (n : Nat) (L : List Int) (ats : List (Int × Int)) (t : Bool) : WdW (markP n L ats t W) := by
  unfold markP; split
  · exact h.mark_to _ _ _ _ _
  · exact h
theorem idxI_range (p l : Int) : 0 ≤ idxI p l ∧ idxI p l < 8 := by
  unfold idxI; split
  · omega
  · split
    · omega
    · split <;> omega
theorem getE_f (v : Nat) : 0 ≤ (getE v).f ∧ (getE v).f < 1048576 := by
  simp only [getE]; omega

end Go.Proofs.YtdfmlodmaipnkaaGreatDoor
