/-
 WalkP, WalkQ, WalkL, WalkM, WalkA, WalkS, WalkB, WalkC, WalkD, WalkE in one text.
-/
import Derived.Test.YtmbgepafpcbakaaGreatDoorG7K
import Derived.Test.YtmbgepafpcbakaaGreatDoorG4K
import Derived.Test.YtmbgepafpcbakaaGreatDoorOfEK
import Derived.Test.YtmbgepafpcbakaaGreatDoorWdWK
import Derived.Test.YtmbgepafpcbakaaGreatDoorG0K
import Derived.Test.YtmbgepafpcbakaaGreatDoorProg
import Derived.Test.YtmbgepafpcbakaaGreatDoorPutsK
import Derived.StillTailTactics
namespace Go.Proofs.YtmbgepafpcbakaaGreatDoor
open Go.RowKit
def rdG (n : Nat) (W L : List Int) (g i : Int) : Option Nat := if hasG n L g i then some (getG n W L g i).toNat else none
def badE (e : Ent) (lv : Int) : Bool := e.bad || (e.s && (lv != 2 || e.f % 8 != 0))
structure Pa where
 ats : List (Int × Int)
 g : Int
 r : Rg
 large : Bool
 dirty : Bool
def Pa.zero : Pa := ⟨[], 0, ⟨false, false, false⟩, false, false⟩
def Pa.start : Pa := ⟨[], 0, Rg.all, false, false⟩
structure It where
 lv : Int
 g : Int
 i : Int
 e : Ent
 err : Option Nat
def Ent.zero : Ent := ⟨false, false, false, false, false, false, false, false, 0⟩
def It.bad (t : Nat) : It := ⟨0, 0, 0, Ent.zero, some t⟩
def It.last (x : It) : Bool := x.lv == 1 || x.e.s
def stepW (rd : Int → Int → Option Nat) (page g lv : Int) : It :=
 match rd g (idxI page lv) with
 | none => It.bad 0
 | some v => if (getE v).p then (if badE (getE v) lv then It.bad 2 else ⟨lv, g, idxI page lv, getE v, none⟩) else It.bad 1
def seqW (rd : Int → Int → Option Nat) (page : Int) : Nat → Int → List It
 | 0, _ => []
 | lv + 1, g => stepW rd page g (lv + 1 : Nat) :: if (stepW rd page g (lv + 1 : Nat)).err.isSome || (stepW rd page g (lv + 1 : Nat)).last then [] else seqW rd page lv (stepW rd page g (lv + 1 : Nat)).e.f
def accP (page : Int) (p : Pa) (x : It) : Pa :=
 ⟨p.ats ++ [(x.g, x.i)], if x.last then (if x.e.s then wrap64 (x.e.f + idxI page 1) else x.e.f) else p.g, p.r.and (ofE x.e), if x.last then x.e.s else p.large, if x.last then x.e.d else p.dirty⟩
def runW (page : Int) : List It → Pa → Except Nat Pa
 | [], p => .ok p
 | x :: l, p => match x.err with
  | some t => .error t
  | none => runW page l (accP page p x)
def pathP (rd : Int → Int → Option Nat) (page root : Int) : Except Nat Pa := runW page (seqW rd page 3 root) Pa.start
def stopOf (kind : Int) (user : Bool) (t : Nat) : Int × Int := if t = 0 then (3, 0) else if t = 1 then (1, codeN kind user false false) else if t = 2 then (1, codeN kind user true true) else (1, codeN kind user true false)
def grantP (m : Nat) (kind : Int) (user : Bool) : Except Nat Pa → Except Nat Pa
 | .error t => .error t
 | .ok p => if mayB p.r kind user then (if p.g ≥ m then .error 0 else .ok p) else .error 3
def outP (kind : Int) (user : Bool) : Except Nat Pa → Pa × Int × Int
 | .error t => (Pa.zero, stopOf kind user t)
 | .ok p => (p, 0, 0)
def walkP (n : Nat) (W L : List Int) (root page kind : Int) (user : Bool) : Pa × Int × Int := outP kind user (grantP L.length kind user (pathP (rdG n W L) page root))
theorem wdw_get {W : List Int} (h : WdW W) (n : Nat) (L : List Int) (g i : Int) : 0 ≤ getG n W L g i ∧ getG n W L g i < 18446744073709551616 := by
 unfold getG
 split
 ·unfold getW; split
  ·exact h.getD _
  decide
 decide
theorem WdW.getN {W : List Int} (h : WdW W) (n : Nat) (L : List Int) (g i : Int) : ((getG n W L g i).toNat : Int) = getG n W L g i ∧ (getG n W L g i).toNat < 18446744073709551616 := by
 have := wdw_get h n L g i
 omega
theorem idxI_range (p l : Int) : 0 ≤ idxI p l ∧ idxI p l < 8 := by
 unfold idxI; split
 ·omega
 split
 ·omega
 split <;> omega
theorem getE_f (v : Nat) : 0 ≤ (getE v).f ∧ (getE v).f < 1048576 := by
 simp only [getE]; omega
section
variable {rd : Int → Int → Option Nat} {page root : Int}
structure ChA (rd : Int → Int → Option Nat) (page root : Int) (v3 v2 : Nat) : Prop where
 r3 : rd root (idxI page 3) = some v3
 p3 : (getE v3).p = true
 b3 : (getE v3).bad = false
 s3 : (getE v3).s = false
 r2 : rd (getE v3).f (idxI page 2) = some v2
 p2 : (getE v2).p = true
 b2 : (getE v2).bad = false
 s2 : (getE v2).s = true
 f2 : (getE v2).f % 8 = 0
structure ChB (rd : Int → Int → Option Nat) (page root : Int) (v3 v2 v1 : Nat) : Prop where
 r3 : rd root (idxI page 3) = some v3
 p3 : (getE v3).p = true
 b3 : (getE v3).bad = false
 s3 : (getE v3).s = false
 r2 : rd (getE v3).f (idxI page 2) = some v2
 p2 : (getE v2).p = true
 b2 : (getE v2).bad = false
 s2 : (getE v2).s = false
 r1 : rd (getE v2).f (idxI page 1) = some v1
 p1 : (getE v1).p = true
 b1 : (getE v1).bad = false
 s1 : (getE v1).s = false
def atsA (page root : Int) (v3 : Nat) : List (Int × Int) := [(root, idxI page 3), ((getE v3).f, idxI page 2)]
def atsB (page root : Int) (v3 v2 : Nat) : List (Int × Int) := [(root, idxI page 3), ((getE v3).f, idxI page 2), ((getE v2).f, idxI page 1)]
def pathA (page root : Int) (v3 v2 : Nat) : Pa := ⟨atsA page root v3, (getE v2).f + idxI page 1, (Rg.all.and (ofE (getE v3))).and (ofE (getE v2)), true, (getE v2).d⟩
def pathB (page root : Int) (v3 v2 v1 : Nat) : Pa := ⟨atsB page root v3 v2, (getE v1).f, ((Rg.all.and (ofE (getE v3))).and (ofE (getE v2))).and (ofE (getE v1)), false, (getE v1).d⟩
theorem badE_hi {e : Ent} {lv : Int} (h : lv ≠ 2) : badE e lv = (e.bad || e.s) := by
 have h' : (lv != 2) = true := by simpa using h
 simp [badE, h']
theorem badE_2 {e : Ent} : badE e 2 = (e.bad || (e.s && e.f % 8 != 0)) := by simp [badE]
theorem path_A {v3 v2 : Nat} (h : ChA rd page root v3 v2) : pathP rd page root = .ok (pathA page root v3 v2) := by
 have e3 : stepW rd page root 3 = ⟨3, root, idxI page 3, getE v3, none⟩ := by simp [stepW, h.r3, h.p3, badE_hi, h.b3, h.s3]
 have e2 : stepW rd page (getE v3).f 2 = ⟨2, (getE v3).f, idxI page 2, getE v2, none⟩ := by simp [stepW, h.r2, h.p2, badE_2, h.b2, h.f2]
 have hw : wrap64 ((getE v2).f + idxI page 1) = (getE v2).f + idxI page 1 := by
  have := getE_f v2; have := idxI_range page 1
  unfold wrap64; omega
 simp [pathP, seqW, e3, e2, runW, accP, It.last, h.s3, h.s2, Pa.start, pathA, atsA, hw]
theorem path_B {v3 v2 v1 : Nat} (h : ChB rd page root v3 v2 v1) : pathP rd page root = .ok (pathB page root v3 v2 v1) := by
 have e3 : stepW rd page root 3 = ⟨3, root, idxI page 3, getE v3, none⟩ := by simp [stepW, h.r3, h.p3, badE_hi, h.b3, h.s3]
 have e2 : stepW rd page (getE v3).f 2 = ⟨2, (getE v3).f, idxI page 2, getE v2, none⟩ := by simp [stepW, h.r2, h.p2, badE_2, h.b2, h.s2]
 have e1 : stepW rd page (getE v2).f 1 = ⟨1, (getE v2).f, idxI page 1, getE v1, none⟩ := by simp [stepW, h.r1, h.p1, badE_hi, h.b1, h.s1]
 simp [pathP, seqW, e3, e2, e1, runW, accP, It.last, h.s3, h.s2, h.s1, Pa.start, pathB, atsB]
theorem step_cases (rd : Int → Int → Option Nat) (page g lv : Int) : (stepW rd page g lv = It.bad 0 ∧ rd g (idxI page lv) = none) ∨ (∃ v, rd g (idxI page lv) = some v ∧ (getE v).p = false ∧ stepW rd page g lv = It.bad 1)
  ∨ (∃ v, rd g (idxI page lv) = some v ∧ (getE v).p = true ∧ badE (getE v) lv = true ∧ stepW rd page g lv = It.bad 2)
  ∨ (∃ v, rd g (idxI page lv) = some v ∧ (getE v).p = true ∧ badE (getE v) lv = false ∧ stepW rd page g lv = ⟨lv, g, idxI page lv, getE v, none⟩) := by
 unfold stepW
 cases hr : rd g (idxI page lv) with
 | none => exact .inl ⟨rfl, rfl⟩
 | some v =>
  cases hp : (getE v).p
  ·exact .inr (.inl ⟨v, rfl, hp, by simp [hp]⟩)
  cases hb : badE (getE v) lv
  ·exact .inr (.inr (.inr ⟨v, rfl, hp, hb, by simp [hp, hb]⟩))
  exact .inr (.inr (.inl ⟨v, rfl, hp, hb, by simp [hp, hb]⟩))
theorem path_cases (rd : Int → Int → Option Nat) (page root : Int) : (∃ t, t < 3 ∧ pathP rd page root = .error t) ∨ (∃ v3 v2, ChA rd page root v3 v2) ∨ (∃ v3 v2 v1, ChB rd page root v3 v2 v1) := by
 rcases step_cases rd page root 3 with ⟨e3, _⟩ | ⟨v3, _, _, e3⟩ | ⟨v3, _, _, _, e3⟩ | ⟨v3, r3, p3, b3, e3⟩
 ·exact .inl ⟨0, by decide, by simp [pathP, seqW, e3, It.bad, runW]⟩
 ·exact .inl ⟨1, by decide, by simp [pathP, seqW, e3, It.bad, runW]⟩
 ·exact .inl ⟨2, by decide, by simp [pathP, seqW, e3, It.bad, runW]⟩
 rw [badE_hi (by decide), Bool.or_eq_false_iff] at b3
 rcases step_cases rd page (getE v3).f 2 with ⟨e2, _⟩ | ⟨v2, _, _, e2⟩ | ⟨v2, _, _, _, e2⟩ | ⟨v2, r2, p2, b2, e2⟩
 ·exact .inl ⟨0, by decide, by simp [pathP, seqW, e3, e2, It.bad, It.last, b3.2, runW]⟩
 ·exact .inl ⟨1, by decide, by simp [pathP, seqW, e3, e2, It.bad, It.last, b3.2, runW]⟩
 ·exact .inl ⟨2, by decide, by simp [pathP, seqW, e3, e2, It.bad, It.last, b3.2, runW]⟩
 rw [badE_2, Bool.or_eq_false_iff] at b2
 cases s2 : (getE v2).s with
 | true =>
  refine .inr (.inl ⟨v3, v2, r3, p3, b3.1, b3.2, r2, p2, b2.1, s2, ?_⟩)
  have := b2.2
  rw [s2] at this
  simpa using this
 | false =>
  rcases step_cases rd page (getE v2).f 1 with ⟨e1, _⟩ | ⟨v1, _, _, e1⟩ | ⟨v1, _, _, _, e1⟩ | ⟨v1, r1, p1, b1, e1⟩
  ·exact .inl ⟨0, by decide, by simp [pathP, seqW, e3, e2, e1, It.bad, It.last, b3.2, s2, runW]⟩
  ·exact .inl ⟨1, by decide, by simp [pathP, seqW, e3, e2, e1, It.bad, It.last, b3.2, s2, runW]⟩
  ·exact .inl ⟨2, by decide, by simp [pathP, seqW, e3, e2, e1, It.bad, It.last, b3.2, s2, runW]⟩
  rw [badE_hi (by decide), Bool.or_eq_false_iff] at b1
  exact .inr (.inr ⟨v3, v2, v1, r3, p3, b3.1, b3.2, r2, p2, b2.1, s2, r1, p1, b1.1, b1.2⟩)
end
section
variable {n : Nat} {W L : List Int}
theorem walk_cases (n : Nat) (W L : List Int) (root page kind : Int) (user : Bool) :
  (∃ t, t < 4 ∧ walkP n W L root page kind user = (Pa.zero, stopOf kind user t)) ∨
  (∃ p, walkP n W L root page kind user = (p, 0, 0) ∧ pathP (rdG n W L) page root = .ok p ∧ mayB p.r kind user = true ∧ p.g < L.length) := by
 unfold walkP
 cases hp : pathP (rdG n W L) page root with
 | error t =>
  refine .inl ⟨t, ?_, rfl⟩
  rcases path_cases (rdG n W L) page root with ⟨t', h, e⟩ | ⟨v3, v2, h⟩ | ⟨v3, v2, v1, h⟩
  ·rw [hp] at e; injection e with e; omega
  ·rw [path_A h] at hp; cases hp
  rw [path_B h] at hp; cases hp
 | ok p =>
  unfold grantP
  cases hm : mayB p.r kind user with
  | false => exact .inl ⟨3, by decide, by simp [outP, hm]⟩
  | true =>
   by_cases hg : p.g ≥ L.length
   ·exact .inl ⟨0, by decide, by simp [outP, hm, hg]⟩
   exact .inr ⟨p, by simp only [hm, if_true, if_neg hg, outP], rfl, hm, by omega⟩
theorem stop_ne (kind : Int) (user : Bool) (t : Nat) : (stopOf kind user t).1 = 1 ∨ (stopOf kind user t).1 = 3 := by
 unfold stopOf; split
 ·right; rfl
 split
 ·left; rfl
 split <;> (left; rfl)
theorem done_of {root page kind : Int} {user : Bool} {p : Pa} {c : Int} (h : walkP n W L root page kind user = (p, 0, c)) : c = 0 ∧ pathP (rdG n W L) page root = .ok p ∧ mayB p.r kind user = true ∧ p.g < L.length := by
 rcases walk_cases n W L root page kind user with ⟨t, _, e⟩ | ⟨q, e, h1, h2, h3⟩
 ·rw [e] at h
  have h1 : (stopOf kind user t).1 = 0 := by have := congrArg (fun x : Pa × Int × Int => x.2.1) h; simpa using this
  rcases stop_ne kind user t with h2 | h2 <;> omega
 rw [e] at h
 injection h with ha hb
 injection hb with _ hc
 subst ha; exact ⟨hc.symm, h1, h2, h3⟩
theorem rdG_some {g i : Int} {v : Nat} (h : rdG n W L g i = some v) : hasG n L g i = true ∧ (getG n W L g i).toNat = v := by
 unfold rdG at h
 split at h
 ·rename_i hh; injection h with h; exact ⟨hh, h⟩
 cases h
theorem rdG_of {g i : Int} (h : hasG n L g i = true) : rdG n W L g i = some (getG n W L g i).toNat := by unfold rdG; rw [if_pos h]
end
def isMk (x : Nat) : Prop := x = 0 ∨ x = 32 ∨ x = 64 ∨ x = 96
def Mk (v v' : Nat) : Prop := ∃ x, isMk x ∧ v' = v ||| x
theorem mk_a {v v' : Nat} (h : Mk v v') (ha : (getE v).a = true) : (getE v').a = true := by
 obtain ⟨x, hx, rfl⟩ := h
 have e : ∀ y m : Nat, (v ||| y) &&& m = (v &&& m) ||| (y &&& m) := fun y m => Nat.and_or_distrib_right ..
 simp only [getE, bne_iff_ne, ne_eq] at ha ⊢
 rw [e]
 intro h0
 exact ha (Nat.or_eq_zero_iff.1 h0).1
section
variable {n : Nat} {W L : List Int}
end
section
variable {n : Nat} {W L : List Int} {ats : List (Int × Int)}
end
section
variable {rd rd' : Int → Int → Option Nat} {page root : Int} {n : Nat} {W L : List Int}
theorem path_shape {p : Pa} (h : pathP rd page root = .ok p) : (∃ v3 v2, ChA rd page root v3 v2 ∧ p = pathA page root v3 v2) ∨ (∃ v3 v2 v1, ChB rd page root v3 v2 v1 ∧ p = pathB page root v3 v2 v1) := by
 rcases path_cases rd page root with ⟨t', _, e⟩ | ⟨v3, v2, c⟩ | ⟨v3, v2, v1, c⟩
 ·rw [e] at h; cases h
 ·rw [path_A c] at h; injection h with h; exact .inl ⟨v3, v2, c, h.symm⟩
 rw [path_B c] at h; injection h with h; exact .inr ⟨v3, v2, v1, c, h.symm⟩
end
def flatA (l : List (Int × Int)) : List Value := l.flatMap fun x => [.int .i64 x.1, .int .i64 x.2]
theorem flatA_cons (x : Int × Int) (l : List (Int × Int)) : flatA (x :: l) = .int .i64 x.1 :: .int .i64 x.2 :: flatA l := rfl
theorem flatA_get : ∀ (l : List (Int × Int)) (j : Nat) (x : Int × Int), l[j]? = some x → (flatA l)[j * 2]? = some (.int .i64 x.1) ∧ (flatA l)[j * 2 + 1]? = some (.int .i64 x.2)
 | [], j, x, h => by simp at h
 | y :: l, 0, x, h => by
  obtain rfl : y = x := by simpa using h
  exact ⟨rfl, rfl⟩
 | y :: l, j + 1, x, h => by
  have := flatA_get l j x (by simpa using h)
  rw [flatA_cons, show (j + 1) * 2 = j * 2 + 1 + 1 by omega, qS, qS, qS, qS]
  exact this
structure SlA (w : World) (A : Option Addr) (n : Nat) (l : List (Int × Int)) : Prop where
 len : l.length = n
 at_ : 0 < n → ∃ b off, A = some ⟨b, off, none⟩ ∧ b < w.heap.size ∧ ∀ j x, l[j]? = some x → w.cell? ⟨b, off + j * 2, none⟩ = some (.int .i64 x.1) ∧ w.cell? ⟨b, off + j * 2 + 1, none⟩ = some (.int .i64 x.2)
section
variable {w w' : World} {A : Option Addr} {n c : Nat} {l : List (Int × Int)} {t : TypeId} {v : Value}
theorem SlA.chg {S : List Nat} (h : SlA w A n l) (hc : Chg S w w') (hn : ∀ b off, A = some ⟨b, off, none⟩ → b ∉ S) : SlA w' A n l :=
 ⟨h.len, fun h0 => by
  obtain ⟨b, off, rfl, hb, hr⟩ := h.at_ h0
  refine ⟨b, off, rfl, Nat.lt_of_lt_of_le hb hc.size, fun j x hj => ?_⟩
  obtain ⟨h1, h2⟩ := hr j x hj
  exact ⟨(hc.cell (p := ⟨b, _, none⟩) hb (hn b off rfl)).trans h1, (hc.cell (p := ⟨b, _, none⟩) hb (hn b off rfl)).trans h2⟩⟩
theorem SlA.self (h : SlA w A n l) (hc : Chg [] w w') : SlA w' A n l := h.chg hc (by simp)
def OwnA (w : World) (t : TypeId) (v : Value) (l : List (Int × Int)) : Prop := w.ownsRow 0 t 2 v l.length (flatA l)
theorem OwnA.form (h : OwnA w t v l) : ∃ A c, v = .slice A l.length c ∧ (A = none → l.length = 0 ∧ c = 0) ∧ (∀ a, A = some a → ∃ g, a = ⟨g, 0, none⟩ ∧ g < w.heap.size) := by
 obtain ⟨A, c, h1, h2, h3⟩ := own_form h
 exact ⟨A, c, h1, h2, fun a ha => by obtain ⟨g, e, _, h⟩ := h3 a ha; exact ⟨g, e, h⟩⟩
theorem OwnA.sla (h : OwnA w t (.slice A n c) l) : SlA w A n l := by
 obtain ⟨A', c', e, _, _⟩ := h.form
 injection e with _ e _
 subst e
 refine ⟨rfl, fun h0 => ?_⟩
 obtain ⟨g, c', cur, hv, hg, hb, h1, h2, h3, h4⟩ := own_blk h h0
 injection hv with hA
 refine ⟨g, 0, hA, hb.lt, fun j x hj => ?_⟩
 have hjl : j < l.length := (List.getElem?_eq_some_iff.1 hj).1
 obtain ⟨e1, e2⟩ := flatA_get l j x hj
 rw [← h4, List.getElem?_take, if_pos (by omega), Array.getElem?_toList] at e1 e2
 rw [Nat.zero_add, hb.cell, hb.cell]
 exact ⟨e1, e2⟩
end
theorem blk12 {w : World} {g : Nat} {t : TypeId} {x0 x1 x2 x3 x4 x5 x6 x7 x8 x9 x10 x11 : Value} (h : Blk w g t #[x0, x1, x2, x3, x4, x5, x6, x7, x8, x9, x10, x11]) : w.cell? ⟨g, 0, none⟩ = some x0 ∧ w.cell? ⟨g, 1, none⟩ = some x1 ∧ w.cell? ⟨g, 2, none⟩ = some x2 ∧ w.cell? ⟨g, 3, none⟩ = some x3 ∧ w.cell? ⟨g, 4, none⟩ = some x4 ∧ w.cell? ⟨g, 5, none⟩ = some x5 ∧ w.cell? ⟨g, 6, none⟩ = some x6 ∧ w.cell? ⟨g, 7, none⟩ = some x7 ∧ w.cell? ⟨g, 8, none⟩ = some x8 ∧ w.cell? ⟨g, 9, none⟩ = some x9 ∧ w.cell? ⟨g, 10, none⟩ = some x10 ∧ w.cell? ⟨g, 11, none⟩ = some x11 ∧ w.frozen? ⟨g, 0, none⟩ = false ∧ w.frozen? ⟨g, 1, none⟩ = false ∧ w.frozen? ⟨g, 2, none⟩ = false ∧ w.frozen? ⟨g, 3, none⟩ = false ∧ w.frozen? ⟨g, 4, none⟩ = false ∧ w.frozen? ⟨g, 5, none⟩ = false ∧ w.frozen? ⟨g, 6, none⟩ = false ∧ w.frozen? ⟨g, 7, none⟩ = false ∧ w.frozen? ⟨g, 8, none⟩ = false ∧ w.frozen? ⟨g, 9, none⟩ = false ∧ w.frozen? ⟨g, 10, none⟩ = false ∧ w.frozen? ⟨g, 11, none⟩ = false :=
 ⟨h.cell 0, h.cell 1, h.cell 2, h.cell 3, h.cell 4, h.cell 5, h.cell 6, h.cell 7, h.cell 8, h.cell 9, h.cell 10, h.cell 11, h.frozen 0, h.frozen 1, h.frozen 2, h.frozen 3, h.frozen 4, h.frozen 5, h.frozen 6, h.frozen 7, h.frozen 8, h.frozen 9, h.frozen 10, h.frozen 11⟩
theorem set12 {w : World} {g : Nat} {t : TypeId} {x0 x1 x2 x3 x4 x5 x6 x7 x8 x9 x10 x11 y0 y1 y2 y3 y4 y5 y6 y7 y8 y9 y10 y11 : Value} (h : Blk w g t #[x0, x1, x2, x3, x4, x5, x6, x7, x8, x9, x10, x11]) : Blk ((((((((((((w.setCell ⟨g, 0, none⟩ y0).setCell ⟨g, 1, none⟩ y1).setCell ⟨g, 2, none⟩ y2).setCell ⟨g, 3, none⟩ y3).setCell ⟨g, 4, none⟩ y4).setCell ⟨g, 5, none⟩ y5).setCell ⟨g, 6, none⟩ y6).setCell ⟨g, 7, none⟩ y7).setCell ⟨g, 8, none⟩ y8).setCell ⟨g, 9, none⟩ y9).setCell ⟨g, 10, none⟩ y10).setCell ⟨g, 11, none⟩ y11) g t #[y0, y1, y2, y3, y4, y5, y6, y7, y8, y9, y10, y11] := by
 have := ((((((((((((h.set_ 0 y0).set_ 1 y1).set_ 2 y2).set_ 3 y3).set_ 4 y4).set_ 5 y5).set_ 6 y6).set_ 7 y7).set_ 8 y8).set_ 9 y9).set_ 10 y10).set_ 11 y11)
 simpa using this
theorem chg12 {S : List Nat} {a w : World} {g : Nat} {y0 y1 y2 y3 y4 y5 y6 y7 y8 y9 y10 y11 : Value} (h : Chg S a w) (hg : g < a.heap.size → g ∈ S) : Chg S a ((((((((((((w.setCell ⟨g, 0, none⟩ y0).setCell ⟨g, 1, none⟩ y1).setCell ⟨g, 2, none⟩ y2).setCell ⟨g, 3, none⟩ y3).setCell ⟨g, 4, none⟩ y4).setCell ⟨g, 5, none⟩ y5).setCell ⟨g, 6, none⟩ y6).setCell ⟨g, 7, none⟩ y7).setCell ⟨g, 8, none⟩ y8).setCell ⟨g, 9, none⟩ y9).setCell ⟨g, 10, none⟩ y10).setCell ⟨g, 11, none⟩ y11) := ((((((((((((h.setCell (p := ⟨g, 0, none⟩) hg y0).setCell (p := ⟨g, 1, none⟩) hg y1).setCell (p := ⟨g, 2, none⟩) hg y2).setCell (p := ⟨g, 3, none⟩) hg y3).setCell (p := ⟨g, 4, none⟩) hg y4).setCell (p := ⟨g, 5, none⟩) hg y5).setCell (p := ⟨g, 6, none⟩) hg y6).setCell (p := ⟨g, 7, none⟩) hg y7).setCell (p := ⟨g, 8, none⟩) hg y8).setCell (p := ⟨g, 9, none⟩) hg y9).setCell (p := ⟨g, 10, none⟩) hg y10).setCell (p := ⟨g, 11, none⟩) hg y11)
theorem far12 {w : World} {g g' : Nat} {t : TypeId} {cs : Array Value} {y0 y1 y2 y3 y4 y5 y6 y7 y8 y9 y10 y11 : Value} (h : Blk w g' t cs) (hn : g' ≠ g) : Blk ((((((((((((w.setCell ⟨g, 0, none⟩ y0).setCell ⟨g, 1, none⟩ y1).setCell ⟨g, 2, none⟩ y2).setCell ⟨g, 3, none⟩ y3).setCell ⟨g, 4, none⟩ y4).setCell ⟨g, 5, none⟩ y5).setCell ⟨g, 6, none⟩ y6).setCell ⟨g, 7, none⟩ y7).setCell ⟨g, 8, none⟩ y8).setCell ⟨g, 9, none⟩ y9).setCell ⟨g, 10, none⟩ y10).setCell ⟨g, 11, none⟩ y11) g' t cs := ((((((((((((h.far (p := ⟨g, 0, none⟩) hn y0).far (p := ⟨g, 1, none⟩) hn y1).far (p := ⟨g, 2, none⟩) hn y2).far (p := ⟨g, 3, none⟩) hn y3).far (p := ⟨g, 4, none⟩) hn y4).far (p := ⟨g, 5, none⟩) hn y5).far (p := ⟨g, 6, none⟩) hn y6).far (p := ⟨g, 7, none⟩) hn y7).far (p := ⟨g, 8, none⟩) hn y8).far (p := ⟨g, 9, none⟩) hn y9).far (p := ⟨g, 10, none⟩) hn y10).far (p := ⟨g, 11, none⟩) hn y11)
theorem blk7 {w : World} {g : Nat} {t : TypeId} {x0 x1 x2 x3 x4 x5 x6 : Value} (h : Blk w g t #[x0, x1, x2, x3, x4, x5, x6]) : w.cell? ⟨g, 0, none⟩ = some x0 ∧ w.cell? ⟨g, 1, none⟩ = some x1 ∧ w.cell? ⟨g, 2, none⟩ = some x2 ∧ w.cell? ⟨g, 3, none⟩ = some x3 ∧ w.cell? ⟨g, 4, none⟩ = some x4 ∧ w.cell? ⟨g, 5, none⟩ = some x5 ∧ w.cell? ⟨g, 6, none⟩ = some x6 ∧ w.frozen? ⟨g, 0, none⟩ = false ∧ w.frozen? ⟨g, 1, none⟩ = false ∧ w.frozen? ⟨g, 2, none⟩ = false ∧ w.frozen? ⟨g, 3, none⟩ = false ∧ w.frozen? ⟨g, 4, none⟩ = false ∧ w.frozen? ⟨g, 5, none⟩ = false ∧ w.frozen? ⟨g, 6, none⟩ = false :=
 ⟨h.cell 0, h.cell 1, h.cell 2, h.cell 3, h.cell 4, h.cell 5, h.cell 6, h.frozen 0, h.frozen 1, h.frozen 2, h.frozen 3, h.frozen 4, h.frozen 5, h.frozen 6⟩
theorem set7 {w : World} {g : Nat} {t : TypeId} {x0 x1 x2 x3 x4 x5 x6 y0 y1 y2 y3 y4 y5 y6 : Value} (h : Blk w g t #[x0, x1, x2, x3, x4, x5, x6]) : Blk (((((((w.setCell ⟨g, 0, none⟩ y0).setCell ⟨g, 1, none⟩ y1).setCell ⟨g, 2, none⟩ y2).setCell ⟨g, 3, none⟩ y3).setCell ⟨g, 4, none⟩ y4).setCell ⟨g, 5, none⟩ y5).setCell ⟨g, 6, none⟩ y6) g t #[y0, y1, y2, y3, y4, y5, y6] := by
 have := (((((((h.set_ 0 y0).set_ 1 y1).set_ 2 y2).set_ 3 y3).set_ 4 y4).set_ 5 y5).set_ 6 y6)
 simpa using this
theorem chg7 {S : List Nat} {a w : World} {g : Nat} {y0 y1 y2 y3 y4 y5 y6 : Value} (h : Chg S a w) (hg : g < a.heap.size → g ∈ S) : Chg S a (((((((w.setCell ⟨g, 0, none⟩ y0).setCell ⟨g, 1, none⟩ y1).setCell ⟨g, 2, none⟩ y2).setCell ⟨g, 3, none⟩ y3).setCell ⟨g, 4, none⟩ y4).setCell ⟨g, 5, none⟩ y5).setCell ⟨g, 6, none⟩ y6) := (((((((h.setCell (p := ⟨g, 0, none⟩) hg y0).setCell (p := ⟨g, 1, none⟩) hg y1).setCell (p := ⟨g, 2, none⟩) hg y2).setCell (p := ⟨g, 3, none⟩) hg y3).setCell (p := ⟨g, 4, none⟩) hg y4).setCell (p := ⟨g, 5, none⟩) hg y5).setCell (p := ⟨g, 6, none⟩) hg y6)
theorem far7 {w : World} {g g' : Nat} {t : TypeId} {cs : Array Value} {y0 y1 y2 y3 y4 y5 y6 : Value} (h : Blk w g' t cs) (hn : g' ≠ g) : Blk (((((((w.setCell ⟨g, 0, none⟩ y0).setCell ⟨g, 1, none⟩ y1).setCell ⟨g, 2, none⟩ y2).setCell ⟨g, 3, none⟩ y3).setCell ⟨g, 4, none⟩ y4).setCell ⟨g, 5, none⟩ y5).setCell ⟨g, 6, none⟩ y6) g' t cs := (((((((h.far (p := ⟨g, 0, none⟩) hn y0).far (p := ⟨g, 1, none⟩) hn y1).far (p := ⟨g, 2, none⟩) hn y2).far (p := ⟨g, 3, none⟩) hn y3).far (p := ⟨g, 4, none⟩) hn y4).far (p := ⟨g, 5, none⟩) hn y5).far (p := ⟨g, 6, none⟩) hn y6)
def pathV (A : Option Addr) (c : Nat) (p : Pa) : Array Value := #[.slice A p.ats.length c, .int .i64 p.g, .bool p.r.w, .bool p.r.u, .bool p.r.x, .bool p.large, .bool p.dirty]
end Go.Proofs.YtmbgepafpcbakaaGreatDoor
namespace Go.Proofs.YtmbgepafpcbakaaGreatDoor
open Go.RowKit Go.Maps
def It.cs (x : It) : Array Value := #[.int .i64 x.lv, .int .i64 x.g, .int .i64 x.i, .bool x.e.p, .bool x.e.w, .bool x.e.u, .bool x.e.a, .bool x.e.d, .bool x.e.s, .bool x.e.n, .bool x.e.bad, .int .i64 x.e.f]
def stopV (p : Int × Int) : Value := .iface 164 (.agg #[.int .i64 p.1, .int .i64 p.2])
def errO (kind : Int) (user : Bool) : Option Nat → Value
 | none => .nilIface
 | some t => stopV (stopOf kind user t)
def accV (q : Nat) (page kind : Int) (user : Bool) : Array Value := #[.pointer (some ⟨q, 0, none⟩), .int .i64 page, .int .i64 kind, .bool user]
theorem tmod8 (f : Int) : (Int.tmod f 8 != 0) = (f % 8 != 0) := by
 rw [Bool.eq_iff_iff]
 simp only [bne_iff_ne, ne_eq]
 have := Int.dvd_iff_tmod_eq_zero (a := 8) (b := f)
 have := Int.dvd_iff_emod_eq_zero (a := 8) (b := f)
 omega
set_option maxRecDepth 100000 in
set_option maxHeartbeats 2000000 in
theorem bad_any (x : It) (w : World) :
  Calls Tryz.prog 231 #[.agg x.cs] w fun e w' => e = .returned (.bool (badE x.e x.lv)) ∧ Chg [] w w' := by
 have ht := tmod8 x.e.f
 unfold badE It.cs
 obtain ⟨lv, g, i, ⟨ep, ew, eu, ea, ed, es, en, eb, ef⟩, err⟩ := x
 simp only at *
 generalize (ef % 8 != 0) = t8 at *
 generalize hl : (lv != 2) = l2 at *
 cases eb
 ·cases es
  ·go_enter Tryz.func231, Tryz.ntmps231
   go_wp2_with fail
   go_ret
   exact ⟨rfl, (Chg.refl [] w).alloc _⟩
  cases l2
  ·go_enter Tryz.func231, Tryz.ntmps231
   go_wp2_with fail
   go_ret
   exact ⟨ret_bool (by simp), (Chg.refl [] w).alloc _⟩
  go_enter Tryz.func231, Tryz.ntmps231
  go_wp2_with fail
  go_ret
  exact ⟨rfl, (Chg.refl [] w).alloc _⟩
 go_enter Tryz.func231, Tryz.ntmps231
 go_wp2_with fail
 go_ret
 exact ⟨rfl, (Chg.refl [] w).alloc _⟩
set_option maxRecDepth 100000 in
set_option maxHeartbeats 2000000 in
theorem last_any (x : It) (w : World) :
  Calls Tryz.prog 203 #[.agg x.cs] w fun e w' => e = .returned (.bool x.last) ∧ Chg [] w w' := by
 unfold It.last It.cs
 obtain ⟨lv, g, i, ⟨ep, ew, eu, ea, ed, es, en, eb, ef⟩, err⟩ := x
 simp only at *
 generalize hl : (lv == 1) = l1 at *
 cases l1
 all_goals
  go_enter Tryz.func203, Tryz.ntmps203
  go_wp2_with fail
  go_ret
  exact ⟨ret_bool (by simp), (Chg.refl [] w).alloc _⟩
set_option maxRecDepth 100000 in
set_option maxHeartbeats 2000000 in
theorem frame_any (x : It) (page : Int) (w : World) :
  Calls Tryz.prog 204 #[.agg x.cs, .int .i64 page] w fun e w' => e = .returned (.int .i64 (if x.e.s then wrap64 (x.e.f + idxI page 1) else x.e.f)) ∧ Chg [] w w' := by
 have C1 : ∀ w0 : World, Calls Tryz.prog 158 #[.int .i64 page, .int .i64 1] w0 fun e w' => e = .returned (.int .i64 (idxI page 1)) ∧ Chg [] w0 w' := fun w0 => (Idx_any page 1 w0 (by decide) (by decide)).mono fun e w' ⟨h1, h2⟩ => ⟨h1, h2.chg⟩
 unfold It.cs
 obtain ⟨lv, g, i, ⟨ep, ew, eu, ea, ed, es, en, eb, ef⟩, err⟩ := x
 simp only at *
 generalize idxI page 1 = i1 at *
 cases es
 ·go_enter Tryz.func204, Tryz.ntmps204
  go_wp2_with fail
  go_ret
  exact ⟨rfl, (Chg.refl [] w).alloc _⟩
 go_enter Tryz.func204, Tryz.ntmps204
 go_wp2_with fail
 have hB := Blk.new w 262 #[.int .i64 lv, .int .i64 g, .int .i64 i, .bool ep, .bool ew, .bool eu, .bool ea, .bool ed, .bool true, .bool en, .bool eb, .int .i64 ef]
 have hc := (Chg.refl [] w).alloc (.cells #[.int .i64 lv, .int .i64 g, .int .i64 i, .bool ep, .bool ew, .bool eu, .bool ea, .bool ed, .bool true, .bool en, .bool eb, .int .i64 ef] 262)
 generalize w.alloc (.cells #[.int .i64 lv, .int .i64 g, .int .i64 i, .bool ep, .bool ew, .bool eu, .bool ea, .bool ed, .bool true, .bool en, .bool eb, .int .i64 ef] 262) = w0 at *
 generalize w.heap.size = gb at *
 have k11 := fun nq : Cls w0 => nq.cell (hB.cell 11)
 simp at k11
 have D1 : ∀ nq : Cls w0, Calls Tryz.prog 158 #[.int .i64 page, .int .i64 1] nq.val fun e w' => e = .returned (.int .i64 i1) ∧ Chg [] nq.val w' := fun nq => C1 nq.val
 refine wp_region_cls (by kernel_rfl) (by kernel_rfl) ?_
 repeat (go_big_quiet_step (first | (go_at_call 158; with_reducible exact Calls.cls (D1 _))))
 refine wpQuiet_nil ?_
 rintro _ ⟨nq, rfl⟩
 go_wp2_with fail
 go_ret
 exact ⟨ret_int (by simp), hc.trans nq.ok (by simp)⟩
set_option maxHeartbeats 2000000 in
theorem fault_any (q : Nat) (page kind : Int) (user th bad : Bool) (t : Nat) (w : World) (ht : stopOf kind user t = (1, codeN kind user th bad)) :
  Calls Tryz.prog 147 #[.agg (accV q page kind user), .bool th, .bool bad] w fun e w' => e = .returned (errO kind user (some t)) ∧ Chg [] w w' := by
 have hr : errO kind user (some t) = stopV (1, codeN kind user th bad) := by simp only [errO, ht]
 rw [hr]
 unfold accV stopV
 have C1 := fun w => Code_any kind user th bad w
 generalize codeN kind user th bad = c at *
 go_enter Tryz.func147, Tryz.ntmps147
 go_wp2_with fail
 refine (C1 _).mono ?_; rintro e w1 ⟨rfl, rfl⟩
 go_wp2_with fail
 go_ret
 exact ⟨rfl, (Chg.refl [] w).alloc _⟩
theorem rd_word {n : Nat} {W L : List Int} (hW : WdW W) {g i : Int} (h : hasG n L g i = true) : rdG n W L g i = some (getG n W L g i).toNat ∧ getG n W L g i = ((getG n W L g i).toNat : Int) ∧ (getG n W L g i).toNat < 18446744073709551616 :=
 ⟨rdG_of h, (hW.getN n L g i).1.symm, (hW.getN n L g i).2⟩
theorem gu_get (q : Nat) (S : List Nat) (p : Nat) (L : List Int) (h b n : Nat) (W : List Int) (f i : Int) (x : Int) (t : Bool) (w : World) (g : GuIn w q S p L h b n W) (hx : getG n W L f i = x) (ht : hasG n L f i = t) :
  Calls Tryz.prog 153 #[.pointer (some ⟨q, 0, none⟩), .int .i64 f, .int .i64 i] w fun e w' => e = .returned (.tuple #[.int .u64 x, .bool t]) ∧ w = w' := hx ▸ ht ▸ GuGet_at q S p L h b n W f i w g
def zcs : Array Value := #[.int .i64 0, .int .i64 0, .int .i64 0, .bool false, .bool false, .bool false, .bool false, .bool false, .bool false, .bool false, .bool false, .int .i64 0]
set_option maxRecDepth 100000 in
set_option maxHeartbeats 20000000 in
theorem read_acc (q : Nat) (S : List Nat) (p : Nat) (L : List Int) (h b n : Nat) (W : List Int) (page kind : Int) (user : Bool) (g lv : Int) (w : World) (gu : GuIn w q S p L h b n W) (hW : WdW W) (hl : 1 ≤ lv ∧ lv ≤ 3) :
  Calls Tryz.prog 225 #[.agg (accV q page kind user), .int .i64 g, .int .i64 lv] w fun e w' => e = .returned (.tuple #[.agg (stepW (rdG n W L) page g lv).cs, errO kind user (stepW (rdG n W L) page g lv).err]) ∧ Chg [] w w' := by
 have hacc0 := Blk.new w 161 #[.pointer (some ⟨q, 0, none⟩), .int .i64 page, .int .i64 kind, .bool user]
 have hres := Blk.new (w.alloc (.cells #[.pointer (some ⟨q, 0, none⟩), .int .i64 page, .int .i64 kind, .bool user] 161)) 262 zcs
 have hc0 := ((Chg.refl [] w).alloc (.cells #[.pointer (some ⟨q, 0, none⟩), .int .i64 page, .int .i64 kind, .bool user] 161)).alloc (.cells zcs 262)
 have hacc := hacc0.alloc (.cells zcs 262)
 have C1 := fun w0 => (Idx_any page lv w0 (by omega) (by omega)).mono fun e w' (h : _ ∧ Dr w0 w') => (⟨h.1, h.2.chg⟩ : _ ∧ Chg [] w0 w')
 have hs : stepW (rdG n W L) page g lv = stepW (rdG n W L) page g lv := rfl
 clear hacc0
 conv at hs => rhs; unfold stepW
 generalize idxI page lv = ix at *
 unfold zcs at *
 unfold accV
 go_enter Tryz.func225, Tryz.ntmps225
 go_wp2_with fail
 rw [World.size_alloc] at hres
 generalize (w.alloc (.cells #[.pointer (some ⟨q, 0, none⟩), .int .i64 page, .int .i64 kind, .bool user] 161)).alloc (.cells #[.int .i64 0, .int .i64 0, .int .i64 0, .bool false, .bool false, .bool false, .bool false, .bool false, .bool false, .bool false, .bool false, .int .i64 0] 262) = w0 at *
 generalize hg1 : w.heap.size + 1 = g1 at *
 generalize hg0 : w.heap.size = g0 at *
 have hlt1 := hres.lt
 refine (C1 _).mono ?_; rintro e w1 ⟨rfl, hc1⟩
 have hA1 := hacc.chg_ hc1 (by simp)
 have hR1 := hres.chg_ hc1 (by simp)
 have hcA := hc0.trans hc1 (by simp)
 have hgu1 := gu.self hcA
 have hT1 := Blk.new w1 104 #[.int .i64 g, .int .i64 ix]
 have hA2 := hA1.alloc (.cells #[.int .i64 g, .int .i64 ix] 104)
 have hR2 := hR1.alloc (.cells #[.int .i64 g, .int .i64 ix] 104)
 have hgu2 := hgu1.self ((Chg.refl [] w1).alloc (.cells #[.int .i64 g, .int .i64 ix] 104))
 have hcB := hcA.alloc (.cells #[.int .i64 g, .int .i64 ix] 104)
 clear hc0 hc1 hacc hres hA1 hR1 hgu1 hcA C1
 have a0 := hA2.cell 0; have a1 := hA2.cell 1; have a2 := hA2.cell 2; have a3 := hA2.cell 3
 have t0 := hT1.cell 0; have t1 := hT1.cell 1
 simp only [qA, qZ, qS] at a0 a1 a2 a3 t0 t1
 have hlt2 := hA2.lt
 have hlt3 := hR2.lt
 generalize hgt : w1.heap.size = gt at *
 generalize hw2 : w1.alloc (.cells #[.int .i64 g, .int .i64 ix] 104) = w2 at *
 by_cases hh : hasG n L g ix = true
 ·obtain ⟨r1, r2, r3⟩ := rd_word hW hh
  rw [r1] at hs
  simp only at hs
  generalize hv : (getG n W L g ix).toNat = v at *
  have hget := gu_get q S p L h b n W g ix v true _ hgu2 r2 hh
  have HS := Lib.hid hs
  clear hs r1 r2 hh hv hgu2 gu hW
  go_wp2_with fail
  refine hget.mono ?_; rintro e w3 ⟨rfl, rfl⟩
  go_wp2_with fail
  have hsz2 := (Chg.refl [] w2).drew
  have hcs : (getE v).cs = #[.bool (getE v).p, .bool (getE v).w, .bool (getE v).u, .bool (getE v).a, .bool (getE v).d, .bool (getE v).s, .bool (getE v).n, .bool (getE v).bad, .int .i64 (getE v).f] := rfl
  have hBad : ∀ w0 : World, Calls Tryz.prog 231 #[.agg #[.int .i64 lv, .int .i64 g, .int .i64 ix, .bool (getE v).p, .bool (getE v).w, .bool (getE v).u, .bool (getE v).a, .bool (getE v).d, .bool (getE v).s, .bool (getE v).n, .bool (getE v).bad, .int .i64 (getE v).f]] w0 fun e w' => e = .returned (.bool (badE (getE v) lv)) ∧ Chg [] w0 w' := fun w0 => bad_any ⟨lv, g, ix, getE v, none⟩ w0
  have hF1 : ∀ w0 : World, Calls Tryz.prog 147 #[.agg #[.pointer (some ⟨q, 0, none⟩), .int .i64 page, .int .i64 kind, .bool user], .bool false, .bool false] w0 fun e w' => e = .returned (errO kind user (some 1)) ∧ Chg [] w0 w' := fun w0 => fault_any q page kind user false false 1 w0 rfl
  have hF2 : ∀ w0 : World, Calls Tryz.prog 147 #[.agg #[.pointer (some ⟨q, 0, none⟩), .int .i64 page, .int .i64 kind, .bool user], .bool true, .bool true] w0 fun e w' => e = .returned (errO kind user (some 2)) ∧ Chg [] w0 w' := fun w0 => fault_any q page kind user true true 2 w0 rfl
  have HR : Hid (((getE v).p = false → Value.tuple #[.agg (stepW (rdG n W L) page g lv).cs, errO kind user (stepW (rdG n W L) page g lv).err] = .tuple #[.agg zcs, errO kind user (some 1)]) ∧ ((getE v).p = true → badE (getE v) lv = true → Value.tuple #[.agg (stepW (rdG n W L) page g lv).cs, errO kind user (stepW (rdG n W L) page g lv).err] = .tuple #[.agg zcs, errO kind user (some 2)]) ∧
    ((getE v).p = true → badE (getE v) lv = false → Value.tuple #[.agg (stepW (rdG n W L) page g lv).cs, errO kind user (stepW (rdG n W L) page g lv).err] = .tuple #[.agg #[.int .i64 lv, .int .i64 g, .int .i64 ix, .bool (getE v).p, .bool (getE v).w, .bool (getE v).u, .bool (getE v).a, .bool (getE v).d, .bool (getE v).s, .bool (getE v).n, .bool (getE v).bad, .int .i64 (getE v).f], .nilIface])) := Lib.hid (by
   rw [HS.out]
   refine ⟨fun h => ?_, fun h k => ?_, fun h k => ?_⟩
   ·rw [h]; rfl
   ·rw [if_pos h, if_pos k]; rfl
   rw [if_pos h, k]; rfl)
  have hGet : ∀ w0 : World, Calls Tryz.prog 154 #[.int .u64 v] w0 fun e w' => e = .returned (.agg (getE v).cs) ∧ Chg [] w0 w' := fun w0 => Get_any v w0 r3
  rw [hcs] at hGet
  clear hcs HS
  generalize badE (getE v) lv = tb at *
  generalize (getE v).p = ep at *
  generalize (getE v).w = ew at *
  generalize (getE v).u = eu at *
  generalize (getE v).a = ea at *
  generalize (getE v).d = ed at *
  generalize (getE v).s = es at *
  generalize (getE v).n = en at *
  generalize (getE v).bad = eb at *
  generalize (getE v).f = ef at *
  generalize errO kind user (some 1) = f1 at *
  generalize errO kind user (some 2) = f2 at *
  -- by gen_walkread.py
  have hgtne : gt ≠ w2.heap.size := by have := hT1.lt; omega
  refine wp_region_noPanic ?_
  refine wp_region_held_drew (S := (fun w' => w'.cell? ⟨gt, 0, none⟩ = some (.int .i64 g) ∧ w'.cell? ⟨gt, 1, none⟩ = some (.int .i64 ix))) (by kernel_rfl) ?_ (fun hHeld => ?_)
  ·(first | exact ⟨t0, t1⟩ | exact ⟨d0, d1⟩ | go_keep)
  refine tq 0 33 _ ?_
  refine tq 1 34 _ ?_
  refine tq 2 35 _ ?_
  (try simp only [Act.put, qI, qO, qU])
  refine wpAnyH_ready (rs := [3, 5]) (by kernel_rfl) (by simp) ?_; refine AllReadyH.cons (o := _) rfl (fun K hK => ?_) (AllReadyH.cons (o := _) rfl (fun K hK => ?_) AllReadyH.nil)
  ·go_simp
   (go_at_call 154; refine (hGet _).mono ?_; rintro e w5 ⟨rfl, hc5⟩; have hc25 : Chg [] w2 w5 := Chg.trans hsz2 hc5 (by simp); have hTT := hT1.chg_ hc25 (by simp); have d0 := hTT.cell 0; have d1 := hTT.cell 1)
   refine hK.out _ _ (by (try dsimp only); (first | exact ⟨t0, t1⟩ | exact ⟨d0, d1⟩ | go_keep)) (fun hHeld => ?_)
   clear hK K
   (try simp only [Act.put, qI, qO, qU])
   refine tq 4 37 _ ?_
   (try simp only [Act.put, qI, qO, qU])
   refine rdy 5 fun K hK => ?_
   go_simp
   skip
   refine hK.out _ _ (by (try dsimp only); (first | exact ⟨t0, t1⟩ | exact ⟨d0, d1⟩ | go_keep)) (fun hHeld => ?_)
   clear hK K
   (try simp only [Act.put, qI, qO, qU])
   refine rdy 6 fun K hK => ?_
   go_simp
   skip
   refine hK.out _ _ (by (try dsimp only); (first | exact ⟨t0, t1⟩ | exact ⟨d0, d1⟩ | go_keep)) (fun hHeld => ?_)
   clear hK K
   (try simp only [Act.put, qI, qO, qU])
   refine wpAnyH_done (by kernel_rfl) ?_ _
   refine NoPanic.normal ?_
   have hEf := Blk.new w5 262 #[.int .i64 lv, .int .i64 g, .int .i64 ix, .bool ep, .bool ew, .bool eu, .bool ea, .bool ed, .bool es, .bool en, .bool eb, .int .i64 ef]
   have hcf := hc25.alloc (.cells #[.int .i64 lv, .int .i64 g, .int .i64 ix, .bool ep, .bool ew, .bool eu, .bool ea, .bool ed, .bool es, .bool en, .bool eb, .int .i64 ef] 262)
   have hge : w5.heap.size ≠ g1 := by have := hc25.size; omega
   have hge0 : w5.heap.size ≠ g0 := by have := hc25.size; omega
   generalize w5.alloc (.cells #[.int .i64 lv, .int .i64 g, .int .i64 ix, .bool ep, .bool ew, .bool eu, .bool ea, .bool ed, .bool es, .bool en, .bool eb, .int .i64 ef] 262) = wf at *
   clear hTT hc5 hc25 d0 d1
   generalize w5.heap.size = ge at *
   have hRf := hR2.chg_ hcf (by simp)
   have hAf := hA2.chg_ hcf (by simp)
   have hcw := hcB.trans hcf (by simp)
   clear hcf hR2 hA2 hcB hHeld
   have a0 := hAf.cell 0; have a1 := hAf.cell 1; have a2 := hAf.cell 2; have a3 := hAf.cell 3
   simp only [qA, qZ, qS] at a0 a1 a2 a3
   obtain ⟨er0, er1, er2, er3, er4, er5, er6, er7, er8, er9, er10, er11, eq0, eq1, eq2, eq3, eq4, eq5, eq6, eq7, eq8, eq9, eq10, eq11⟩ := blk12 hEf
   obtain ⟨r0, r1, r2, r3, r4, r5, r6, r7, r8, r9, r10, r11, q0, q1, q2, q3, q4, q5, q6, q7, q8, q9, q10, q11⟩ := blk12 hRf
   cases ep with
   | false =>
    go_wp2_with fail
    refine (hF1 _).mono ?_; rintro e w6 ⟨rfl, hc6⟩
    have hR6 := hRf.chg_ hc6 (by simp)
    obtain ⟨r0, r1, r2, r3, r4, r5, r6, r7, r8, r9, r10, r11, q0, q1, q2, q3, q4, q5, q6, q7, q8, q9, q10, q11⟩ := blk12 hR6
    go_wp2_with fail
    refine bodyPost_ret (cell_tmp_ret rfl (set12 hR6) rfl Tryz.underlying262 rfl (by kernel_rfl)) rfl ?_
    exact ⟨congrArg Ending.returned (HR.out.1 (by simp)).symm, chg12 (hcw.trans hc6 (by simp)) (by omega)⟩
   | true =>
    go_wp2_with fail
    refine (hBad _).mono ?_; rintro e w6 ⟨rfl, hc6⟩
    have hR6 := hRf.chg_ hc6 (by simp)
    have hE6 := hEf.chg_ hc6 (by simp)
    have hA6 := hAf.chg_ hc6 (by simp)
    have hcw6 := hcw.trans hc6 (by simp)
    clear r0 r1 r2 r3 r4 r5 r6 r7 r8 r9 r10 r11 q0 q1 q2 q3 q4 q5 q6 q7 q8 q9 q10 q11 er0 er1 er2 er3 er4 er5 er6 er7 er8 er9 er10 er11 eq0 eq1 eq2 eq3 eq4 eq5 eq6 eq7 eq8 eq9 eq10 eq11 a0 a1 a2 a3
    have a0 := hA6.cell 0; have a1 := hA6.cell 1; have a2 := hA6.cell 2; have a3 := hA6.cell 3
    simp only [qA, qZ, qS] at a0 a1 a2 a3
    cases tb with
    | true =>
     go_wp2_with fail
     refine (hF2 _).mono ?_; rintro e w7 ⟨rfl, hc7⟩
     have hR7 := hR6.chg_ hc7 (by simp)
     obtain ⟨r0, r1, r2, r3, r4, r5, r6, r7, r8, r9, r10, r11, q0, q1, q2, q3, q4, q5, q6, q7, q8, q9, q10, q11⟩ := blk12 hR7
     go_wp2_with fail
     refine bodyPost_ret (cell_tmp_ret rfl (set12 hR7) rfl Tryz.underlying262 rfl (by kernel_rfl)) rfl ?_
     exact ⟨congrArg Ending.returned (HR.out.2.1 (by simp) (by simp)).symm, chg12 (hcw6.trans hc7 (by simp)) (by omega)⟩
    | false =>
     obtain ⟨er0, er1, er2, er3, er4, er5, er6, er7, er8, er9, er10, er11, eq0, eq1, eq2, eq3, eq4, eq5, eq6, eq7, eq8, eq9, eq10, eq11⟩ := blk12 hE6
     obtain ⟨r0, r1, r2, r3, r4, r5, r6, r7, r8, r9, r10, r11, q0, q1, q2, q3, q4, q5, q6, q7, q8, q9, q10, q11⟩ := blk12 hR6
     go_wp2_with fail
     refine bodyPost_ret (cell_tmp_ret rfl (set12 hR6) rfl Tryz.underlying262 rfl (by kernel_rfl)) rfl ?_
     exact ⟨congrArg Ending.returned (HR.out.2.2 (by simp) (by simp)).symm, chg12 hcw6 (by omega)⟩
  have hszB : Chg [] w2 ((World.drew w2).alloc (.cells #[.int .i64 0, .int .i64 0, .int .i64 0, .bool false, .bool false, .bool false, .bool false, .bool false, .bool false, .bool false, .bool false, .int .i64 0] 262)) := Chg.alloc hsz2 _
  have hB1 : Blk ((World.drew w2).alloc (.cells #[.int .i64 0, .int .i64 0, .int .i64 0, .bool false, .bool false, .bool false, .bool false, .bool false, .bool false, .bool false, .bool false, .int .i64 0] 262)) w2.heap.size 262 #[.int .i64 0, .int .i64 0, .int .i64 0, .bool false, .bool false, .bool false, .bool false, .bool false, .bool false, .bool false, .bool false, .int .i64 0] := Blk.new (World.drew w2) _ _
  go_simp
  skip
  refine hK.out _ _ (by (try dsimp only); (first | exact ⟨t0, t1⟩ | exact ⟨d0, d1⟩ | go_keep)) (fun hHeld => ?_)
  clear hK K
  (try simp only [Act.put, qI, qO, qU])
  refine rdy 3 fun K hK => ?_
  go_simp
  (go_at_call 154; refine (hGet _).mono ?_; rintro e w5 ⟨rfl, hc5⟩; have hc25 : Chg [] w2 w5 := Chg.trans hszB hc5 (by simp); have hTT := hT1.chg_ hc25 (by simp); have d0 := hTT.cell 0; have d1 := hTT.cell 1; have hEE := Blk.chg_ hB1 hc5 (by simp); obtain ⟨er0, er1, er2, er3, er4, er5, er6, er7, er8, er9, er10, er11, eq0, eq1, eq2, eq3, eq4, eq5, eq6, eq7, eq8, eq9, eq10, eq11⟩ := blk12 hEE)
  refine hK.out _ _ (by (try dsimp only); (first | exact ⟨t0, t1⟩ | exact ⟨d0, d1⟩ | go_keep)) (fun hHeld => ?_)
  clear hK K
  (try simp only [Act.put, qI, qO, qU])
  refine tq 4 37 _ ?_
  (try simp only [Act.put, qI, qO, qU])
  refine rdy 6 fun K hK => ?_
  go_simp
  skip
  refine hK.out _ _ (by (try dsimp only); (have hTf := far12 (y0 := .int .i64 lv) (y1 := .int .i64 g) (y2 := .int .i64 ix) (y3 := .bool ep) (y4 := .bool ew) (y5 := .bool eu) (y6 := .bool ea) (y7 := .bool ed) (y8 := .bool es) (y9 := .bool en) (y10 := .bool eb) (y11 := .int .i64 ef) hTT hgtne; exact ⟨hTf.cell 0, hTf.cell 1⟩)) (fun hHeld => ?_)
  clear hK K
  (try simp only [Act.put, qI, qO, qU])
  refine wpAnyH_done (by kernel_rfl) ?_ _
  refine NoPanic.normal ?_
  have hEf := set12 (y0 := .int .i64 lv) (y1 := .int .i64 g) (y2 := .int .i64 ix) (y3 := .bool ep) (y4 := .bool ew) (y5 := .bool eu) (y6 := .bool ea) (y7 := .bool ed) (y8 := .bool es) (y9 := .bool en) (y10 := .bool eb) (y11 := .int .i64 ef) hEE
  have hcf := chg12 (y0 := .int .i64 lv) (y1 := .int .i64 g) (y2 := .int .i64 ix) (y3 := .bool ep) (y4 := .bool ew) (y5 := .bool eu) (y6 := .bool ea) (y7 := .bool ed) (y8 := .bool es) (y9 := .bool en) (y10 := .bool eb) (y11 := .int .i64 ef) hc25 (g := w2.heap.size) (by omega)
  have hge : w2.heap.size ≠ g1 := by omega
  have hge0 : w2.heap.size ≠ g0 := by omega
  clear er0 er1 er2 er3 er4 er5 er6 er7 er8 er9 er10 er11 eq0 eq1 eq2 eq3 eq4 eq5 eq6 eq7 eq8 eq9 eq10 eq11 hTT hEE hB1 hszB hc5 hc25 d0 d1
  generalize ((((((((((((w5.setCell ⟨w2.heap.size, 0, none⟩ (.int .i64 lv)).setCell ⟨w2.heap.size, 1, none⟩ (.int .i64 g)).setCell ⟨w2.heap.size, 2, none⟩ (.int .i64 ix)).setCell ⟨w2.heap.size, 3, none⟩ (.bool ep)).setCell ⟨w2.heap.size, 4, none⟩ (.bool ew)).setCell ⟨w2.heap.size, 5, none⟩ (.bool eu)).setCell ⟨w2.heap.size, 6, none⟩ (.bool ea)).setCell ⟨w2.heap.size, 7, none⟩ (.bool ed)).setCell ⟨w2.heap.size, 8, none⟩ (.bool es)).setCell ⟨w2.heap.size, 9, none⟩ (.bool en)).setCell ⟨w2.heap.size, 10, none⟩ (.bool eb)).setCell ⟨w2.heap.size, 11, none⟩ (.int .i64 ef)) = wf at *
  generalize w2.heap.size = ge at *
  have hRf := hR2.chg_ hcf (by simp)
  have hAf := hA2.chg_ hcf (by simp)
  have hcw := hcB.trans hcf (by simp)
  clear hcf hR2 hA2 hcB hHeld
  have a0 := hAf.cell 0; have a1 := hAf.cell 1; have a2 := hAf.cell 2; have a3 := hAf.cell 3
  simp only [qA, qZ, qS] at a0 a1 a2 a3
  obtain ⟨er0, er1, er2, er3, er4, er5, er6, er7, er8, er9, er10, er11, eq0, eq1, eq2, eq3, eq4, eq5, eq6, eq7, eq8, eq9, eq10, eq11⟩ := blk12 hEf
  obtain ⟨r0, r1, r2, r3, r4, r5, r6, r7, r8, r9, r10, r11, q0, q1, q2, q3, q4, q5, q6, q7, q8, q9, q10, q11⟩ := blk12 hRf
  cases ep with
  | false =>
   go_wp2_with fail
   refine (hF1 _).mono ?_; rintro e w6 ⟨rfl, hc6⟩
   have hR6 := hRf.chg_ hc6 (by simp)
   obtain ⟨r0, r1, r2, r3, r4, r5, r6, r7, r8, r9, r10, r11, q0, q1, q2, q3, q4, q5, q6, q7, q8, q9, q10, q11⟩ := blk12 hR6
   go_wp2_with fail
   refine bodyPost_ret (cell_tmp_ret rfl (set12 hR6) rfl Tryz.underlying262 rfl (by kernel_rfl)) rfl ?_
   exact ⟨congrArg Ending.returned (HR.out.1 (by simp)).symm, chg12 (hcw.trans hc6 (by simp)) (by omega)⟩
  | true =>
   go_wp2_with fail
   refine (hBad _).mono ?_; rintro e w6 ⟨rfl, hc6⟩
   have hR6 := hRf.chg_ hc6 (by simp)
   have hE6 := hEf.chg_ hc6 (by simp)
   have hA6 := hAf.chg_ hc6 (by simp)
   have hcw6 := hcw.trans hc6 (by simp)
   clear r0 r1 r2 r3 r4 r5 r6 r7 r8 r9 r10 r11 q0 q1 q2 q3 q4 q5 q6 q7 q8 q9 q10 q11 er0 er1 er2 er3 er4 er5 er6 er7 er8 er9 er10 er11 eq0 eq1 eq2 eq3 eq4 eq5 eq6 eq7 eq8 eq9 eq10 eq11 a0 a1 a2 a3
   have a0 := hA6.cell 0; have a1 := hA6.cell 1; have a2 := hA6.cell 2; have a3 := hA6.cell 3
   simp only [qA, qZ, qS] at a0 a1 a2 a3
   cases tb with
   | true =>
    go_wp2_with fail
    refine (hF2 _).mono ?_; rintro e w7 ⟨rfl, hc7⟩
    have hR7 := hR6.chg_ hc7 (by simp)
    obtain ⟨r0, r1, r2, r3, r4, r5, r6, r7, r8, r9, r10, r11, q0, q1, q2, q3, q4, q5, q6, q7, q8, q9, q10, q11⟩ := blk12 hR7
    go_wp2_with fail
    refine bodyPost_ret (cell_tmp_ret rfl (set12 hR7) rfl Tryz.underlying262 rfl (by kernel_rfl)) rfl ?_
    exact ⟨congrArg Ending.returned (HR.out.2.1 (by simp) (by simp)).symm, chg12 (hcw6.trans hc7 (by simp)) (by omega)⟩
   | false =>
    obtain ⟨er0, er1, er2, er3, er4, er5, er6, er7, er8, er9, er10, er11, eq0, eq1, eq2, eq3, eq4, eq5, eq6, eq7, eq8, eq9, eq10, eq11⟩ := blk12 hE6
    obtain ⟨r0, r1, r2, r3, r4, r5, r6, r7, r8, r9, r10, r11, q0, q1, q2, q3, q4, q5, q6, q7, q8, q9, q10, q11⟩ := blk12 hR6
    go_wp2_with fail
    refine bodyPost_ret (cell_tmp_ret rfl (set12 hR6) rfl Tryz.underlying262 rfl (by kernel_rfl)) rfl ?_
    exact ⟨congrArg Ending.returned (HR.out.2.2 (by simp) (by simp)).symm, chg12 hcw6 (by omega)⟩
 have hh' : hasG n L g ix = false := by simpa using hh
 have hx : rdG n W L g ix = none := by unfold rdG; rw [if_neg hh]
 rw [hx] at hs
 simp only at hs
 have HS := Lib.hid hs
 have h0 : getG n W L g ix = 0 := by
  unfold getG hasG at *
  split
  ·rename_i hb; rw [hb, Bool.true_and] at hh'; unfold getW; rw [hh']; rfl
  rfl
 have hget := gu_get q S p L h b n W g ix 0 false _ hgu2 h0 hh'
 clear hs hh' hx hh h0 hgu2 gu hW
 go_wp2_with fail
 obtain ⟨r0, r1, r2, r3, r4, r5, r6, r7, r8, r9, r10, r11, q0, q1, q2, q3, q4, q5, q6, q7, q8, q9, q10, q11⟩ := blk12 hR2
 refine hget.mono ?_; rintro e w3 ⟨rfl, rfl⟩
 go_wp2_with fail
 refine bodyPost_ret (cell_tmp_ret rfl (set12 hR2) rfl Tryz.underlying262 rfl (by kernel_rfl)) rfl ?_
 exact ⟨by rw [HS.out]; rfl, chg12 hcB (by omega)⟩
end Go.Proofs.YtmbgepafpcbakaaGreatDoor
namespace Go.Proofs.YtmbgepafpcbakaaGreatDoor
open Go.RowKit Go.Maps Go.Shelf
attribute [local go_sem] Oper.semAt_some
def KpE (m : Nat) (W W' : World) : Prop := Below m W W' ∧ ∀ (k : Nat) (cs : Array Value) (t : TypeId) (f : Nat × Nat), (t = 262 ∨ t = 161) → W.heap[k]? = some (Obj.cells cs t f) → W'.heap[k]? = some (Obj.cells cs t f)
theorem KpE.t {m : Nat} {A B C : World} (h : KpE m A B) (k : KpE m B C) : KpE m A C := ⟨h.1.trans k.1, fun i cs t f ht ho => k.2 i cs t f ht (h.2 i cs t f ht ho)⟩
theorem KpE.b {m : Nat} {w : World} (hn : m ≤ w.heap.size) (W : World) (l : Nat) (o o' : Obj) (hl : w.heap.size ≤ l) (h : W.heap[l]? = some o) (hc : o.isCells = false) (hw : o.isWalk = false) : KpE m W (W.putObj l o') :=
 ⟨belowK_b hn W l o o' hl h hc hw, fun i cs t f _ hi => by
  have hne : i ≠ l := fun e => by
   subst e
   rw [h] at hi; injection hi with hi; subst hi; cases hc
  exact ((grownBy_putObj' W l o').block i (Array.getElem?_eq_some_iff.1 hi).1 (fun e => hne (Option.some.inj e))).trans hi⟩
theorem KpE.blk {m : Nat} {W W' : World} (h : KpE m W W') {g : Nat} {t : TypeId} {cs : Array Value} (hb : Blk W g t cs) (ht : t = 262 ∨ t = 161) : Blk W' g t cs := h.2 g _ _ _ ht hb
theorem KpE.chg {m : Nat} {w W W' : World} (h : KpE m W W') (hc : Chg [] w W) (hm : m = w.heap.size) : Chg [] w W' := by
 subst hm; exact Chg.of_below (hc.below.trans h.1)
def Stp (m : Nat) (W W' : World) : Prop := KeepsOthers W W' ∧ KpE m W W'
theorem Stp.t {m : Nat} {A B C : World} (h : Stp m A B) (k : Stp m B C) : Stp m A C := ⟨h.1.trans k.1, h.2.t k.2⟩
theorem Stp.of_chg {m : Nat} {T : List Nat} {W W' : World} (h : Chg T W W') (hz : m ≤ W.heap.size) (hT : ∀ i ∈ T, m ≤ i ∧ ∃ cs t, Blk W i t cs ∧ (t == 262) = false ∧ (t == 161) = false) : Stp m W W' :=
  ⟨⟨h.size, fun k o hk ho => by
      refine (h.block k (Array.getElem?_eq_some_iff.1 hk).1 fun hi => ?_).trans hk
      obtain ⟨_, cs, t, hb, _⟩ := hT k hi
      rw [show W.heap[k]? = _ from hb] at hk
      injection hk with hk; subst hk; cases ho⟩,
   ⟨h.os, h.tape, h.output, h.size, fun k hk => h.block k (Nat.lt_of_lt_of_le hk hz) fun hi => by have := (hT k hi).1; omega⟩,
   fun k cs t f ht ho => by
      refine (h.block k (Array.getElem?_eq_some_iff.1 ho).1 fun hi => ?_).trans ho
      obtain ⟨_, cs', t', hb, h1, h2⟩ := hT k hi
      rw [show W.heap[k]? = _ from hb] at ho
      injection ho with ho; injection ho with _ ho _
      subst ho
      rcases ht with rfl | rfl
      · simp at h1
      · simp at h2⟩
theorem Stp.new {m : Nat} {W W' : World} (h : Chg [] W W') (hz : m ≤ W.heap.size) : Stp m W W' := Stp.of_chg h hz (by simp)
theorem Stp.chg {m : Nat} {w W W' : World} (h : Stp m W W') (hc : Chg [] w W) (hm : m = w.heap.size) : Chg [] w W' := h.2.chg hc hm
def encE (kind : Int) (user : Bool) (x : It) : Array Value := #[.agg x.cs, errO kind user x.err]
theorem seq_len (rd : Int → Int → Option Nat) (page : Int) : ∀ (lv : Nat) (g : Int), (seqW rd page lv g).length ≤ lv
 | 0, _ => by simp [seqW]
 | lv + 1, g => by
  rw [seqW, List.length_cons]
  split
  ·simp
  have := seq_len rd page lv (stepW rd page g (lv + 1 : Nat)).e.f
  omega
set_option maxRecDepth 100000 in
set_option maxHeartbeats 4000000 in
theorem entries1_in (m l rb ab q : Nat) (S : List Nat) (p : Nat) (L : List Int) (h b n : Nat) (W : List Int) (page kind root : Int) (user : Bool) (w0 : World) (gu : GuIn w0 q S p L h b n W) (hW : WdW W) (J Jx : List It → World → Prop) (W1 : World)
  (hJ : AbidesFrom W1.heap.size J)
  (hY : ∀ pre x W2, J pre W2 → pre.length < (seqW (rdG n W L) page 3 root).length → YieldAt Fence.wide (m - 1) Tryz.prog l (encE kind user x) W2 fun e W' =>
   (e = .returned (.bool true) ∧ J (pre ++ [x]) W' ∧ KpE w0.heap.size W2 W') ∨ (e = .returned (.bool false) ∧ Jx (pre ++ [x]) W'))
  (hb1 : Chg [] w0 W1) (hr : W1.cell? ⟨rb, 0, none⟩ = some (.int .i64 root)) (ha : Blk W1 ab 161 (accV q page kind user)) (h0 : J [] W1) :
  CallsIn Fence.wide m Tryz.prog 224 #[.func (.yield l) #[] #[], .pointer (some ⟨rb, 0, none⟩), .pointer (some ⟨ab, 0, none⟩)] W1 fun e W' => (∃ v, e = .returned v) ∧
   ((∃ ys, ys = seqW (rdG n W L) page 3 root ∧ J ys W') ∨ (∃ pre, pre <+: seqW (rdG n W L) page 3 root ∧ Jx pre W')) := by
 refine callsIn_of_wp Tryz.func224 rfl trivial ?_ rfl
 simp only [Tryz.ntmps224, List.size_toArray, List.length_cons, List.length_nil, Nat.reduceAdd, Nat.reduceSub, Array.replicate_succ, Array.replicate_zero, List.push_toArray, List.append_toArray, List.nil_append, List.cons_append]
 have hread := fun (g lv : Int) (wr : World) (hc : Chg [] w0 wr) (hl : 1 ≤ lv ∧ lv ≤ 3) => read_acc q S p L h b n W page kind user g lv wr (gu.self hc) hW hl
 have hseq := fun lv g => seqW.eq_2 (rdG n W L) page g lv
 have h00 := hseq
 clear h00
 obtain ⟨T, hT⟩ : ∃ T, T = seqW (rdG n W L) page 3 root := ⟨_, rfl⟩
 have hz := fun g => seqW.eq_1 (rdG n W L) page g
 rw [← hT] at hY ⊢
 unfold accV at ha hread
 gi_wp2
 gi_loopw [4, 5] (fun gs ls wr => ∃ (lv : Nat) (g : Int) (pre : List It), lv ≤ 3 ∧ gs = .int .i64 g ∧ ls = .int .i64 lv ∧ pre ++ seqW (rdG n W L) page lv g = T ∧ Chg [] w0 wr ∧ Blk wr ab 161 #[.pointer (some ⟨q, 0, none⟩), .int .i64 page, .int .i64 kind, .bool user] ∧ J pre wr ∧ W1.heap.size ≤ wr.heap.size) (fun _ ls _ => (intOf ls).toNat)
 case atStart => exact ⟨3, root, [], by omega, rfl, rfl, by rw [hT]; rfl, hb1, ha, h0, Nat.le_refl _⟩
 obtain ⟨lv, g, pre, hlv, rfl, rfl, hpre, hc, hak, hJs, hsz⟩ := hrel
 clear hb1 ha h0 hr
 cases lv with
 | zero =>
  rw [hz, List.append_nil] at hpre
  clear hread hseq hz
  gi_wp2
  go_end0
  exact ⟨⟨_, rfl⟩, .inl ⟨pre, hpre, hJs⟩⟩
 | succ lv =>
  rw [hseq] at hpre
  clear hseq hz
  have hr1 := hread g ((lv + 1 : Nat) : Int) wr hc (by omega)
  generalize stepW (rdG n W L) page g ((lv + 1 : Nat) : Int) = x at *
  have hkk : ((lv + 1 : Nat) : Int) = (lv : Int) + 1 := by omega
  generalize ((lv + 1 : Nat) : Int) = k at *
  have hk1 : 1 ≤ k := by omega
  have hk3 : k ≤ 3 := by omega
  have hkd : decide (1 ≤ k) = true := by simpa using hk1
  have hke : decide (k ≥ 1) = true := by simpa using hk1
  have HK := Lib.hid hkk
  clear hkk
  have a0 := hak.cell 0; have a1 := hak.cell 1; have a2 := hak.cell 2; have a3 := hak.cell 3
  simp only [qA, qZ, qS] at a0 a1 a2 a3
  have hlen : pre.length < T.length := by rw [← hpre]; simp
  have hLast := fun w0 => last_any x w0
  obtain ⟨xl, xg, xi, ⟨ep, ew, eu, ea, ed, es, en, eb, ef⟩, er⟩ := x
  have hYx := hY pre ⟨xl, xg, xi, ⟨ep, ew, eu, ea, ed, es, en, eb, ef⟩, er⟩
  simp only [It.cs, encE] at hr1 hLast hYx hpre
  generalize hlb : It.last ⟨xl, xg, xi, ⟨ep, ew, eu, ea, ed, es, en, eb, ef⟩, er⟩ = tl at *
  have HPRE := Lib.hid hpre
  clear hpre hY hread hlb hT
  gi_wp2
  (first | refine ⟨trivial, (fun hh => by cases hh), ?_⟩ | refine ⟨(fun hh => by cases hh), ?_⟩ | skip)
  refine (callsIn_wide.2 hr1).mono ?_; rintro e w3 ⟨rfl, hc3⟩
  clear a0 a1 a2 a3
  obtain ⟨fn, tmps, assign, body, hy, hR⟩ := hYx (w3.alloc (.cells #[.int .i64 xl, .int .i64 xg, .int .i64 xi, .bool ep, .bool ew, .bool eu, .bool ea, .bool ed, .bool es, .bool en, .bool eb, .int .i64 ef] 262)) (hJ _ _ _ none (hJ _ _ _ none hJs (Cells.grown hc3) (fun r e => by cases e)) (World.grownBy_alloc _ _ none) (fun r e => by cases e)) hlen
  gi_wp2
  (first | refine ⟨trivial, (fun hh => by cases hh), ?_⟩ | refine ⟨(fun hh => by cases hh), ?_⟩ | skip)
  refine hR.mono ?_
  have hE4 := Blk.new w3 262 #[.int .i64 xl, .int .i64 xg, .int .i64 xi, .bool ep, .bool ew, .bool eu, .bool ea, .bool ed, .bool es, .bool en, .bool eb, .int .i64 ef]
  have hA4 := (hak.chg_ hc3 (by simp)).alloc (.cells #[.int .i64 xl, .int .i64 xg, .int .i64 xi, .bool ep, .bool ew, .bool eu, .bool ea, .bool ed, .bool es, .bool en, .bool eb, .int .i64 ef] 262)
  have hc4 := (hc.trans hc3 (by simp)).alloc (.cells #[.int .i64 xl, .int .i64 xg, .int .i64 xi, .bool ep, .bool ew, .bool eu, .bool ea, .bool ed, .bool es, .bool en, .bool eb, .int .i64 ef] 262)
  have hsz4 : W1.heap.size ≤ (w3.alloc (.cells #[.int .i64 xl, .int .i64 xg, .int .i64 xi, .bool ep, .bool ew, .bool eu, .bool ea, .bool ed, .bool es, .bool en, .bool eb, .int .i64 ef] 262)).heap.size := by rw [World.size_alloc]; have := hc3.size; omega
  clear hc3 hR hy hYx hJs hak
  generalize w3.alloc (.cells #[.int .i64 xl, .int .i64 xg, .int .i64 xi, .bool ep, .bool ew, .bool eu, .bool ea, .bool ed, .bool es, .bool en, .bool eb, .int .i64 ef] 262) = w4 at *
  generalize w3.heap.size = ge at *
  rintro e W5 (⟨rfl, hJ5, hk5⟩ | ⟨rfl, hJx5⟩)
  ·have hE5 := hk5.blk hE4 (.inl rfl)
   have hA5 := hk5.blk hA4 (.inr rfl)
   have hc5 := hk5.chg hc4 rfl
   have hsz5 : W1.heap.size ≤ W5.heap.size := Nat.le_trans hsz4 hk5.1.size
   clear hE4 hA4 hc4 hk5 hsz4
   obtain ⟨er0, er1, er2, er3, er4, er5, er6, er7, er8, er9, er10, er11, eq0, eq1, eq2, eq3, eq4, eq5, eq6, eq7, eq8, eq9, eq10, eq11⟩ := blk12 hE5
   cases er with
   | some t =>
    simp only [errO, stopV]
    gi_wp2
    refine ⟨trivial, ?_⟩
    gi_wp2
    refine bodyPost_ret (results_none rfl _ _ _) rfl ?_
    exact ⟨⟨_, rfl⟩, .inl ⟨_, by have := HPRE.out; simpa using this, hJ5⟩⟩
   | none =>
    simp only [errO]
    cases tl with
    | true =>
     gi_wp2
     (first | refine ⟨trivial, (fun hh => by cases hh), ?_⟩ | refine ⟨(fun hh => by cases hh), ?_⟩ | skip)
     refine (callsIn_wide.2 (hLast _)).mono ?_; rintro e w6 ⟨rfl, hc6⟩
     gi_wp2
     refine bodyPost_ret (results_none rfl _ _ _) rfl ?_
     exact ⟨⟨_, rfl⟩, .inl ⟨_, by have := HPRE.out; simpa using this, hJ _ _ _ none hJ5 (Cells.grown hc6) (fun r e => by cases e)⟩⟩
    | false =>
     gi_wp2
     (first | refine ⟨trivial, (fun hh => by cases hh), ?_⟩ | refine ⟨(fun hh => by cases hh), ?_⟩ | skip)
     refine (callsIn_wide.2 (hLast _)).mono ?_; rintro e w6 ⟨rfl, hc6⟩
     have hE6 := hE5.chg_ hc6 (by simp)
     clear er0 er1 er2 er3 er4 er5 er6 er7 er8 er9 er10 er11 eq0 eq1 eq2 eq3 eq4 eq5 eq6 eq7 eq8 eq9 eq10 eq11
     obtain ⟨er0, er1, er2, er3, er4, er5, er6, er7, er8, er9, er10, er11, eq0, eq1, eq2, eq3, eq4, eq5, eq6, eq7, eq8, eq9, eq10, eq11⟩ := blk12 hE6
     gi_wp2
     go_roundw
     case rel => exact ⟨lv, ef, pre ++ [⟨xl, xg, xi, ⟨ep, ew, eu, ea, ed, es, en, eb, ef⟩, none⟩], by have := HK.out; omega, rfl, by have := HK.out; go_num, by have := HPRE.out; simpa using this, hc5.trans hc6 (by simp), hA5.chg_ hc6 (by simp), hJ _ _ _ none hJ5 (Cells.grown hc6) (fun r e => by cases e), by have := hc6.size; omega⟩
     case measure => have := HK.out; simp [intOf]; omega
  gi_wp2
  refine ⟨trivial, ?_⟩
  gi_wp2
  refine bodyPost_ret (results_none rfl _ _ _) rfl ?_
  exact ⟨⟨_, rfl⟩, .inr ⟨_, by rw [← HPRE.out]; exact ⟨_, by rw [List.append_assoc]; rfl⟩, hJx5⟩⟩
theorem entries_stops (m rb ab q : Nat) (S : List Nat) (p : Nat) (L : List Int) (h b n : Nat) (W : List Int) (page kind root : Int) (user : Bool) (w0 w : World) (gu : GuIn w0 q S p L h b n W) (hW : WdW W)
  (hb1 : Chg [] w0 w) (hrl : rb < w.heap.size) (hr : w.cell? ⟨rb, 0, none⟩ = some (.int .i64 root)) (ha : Blk w ab 161 (accV q page kind user)) :
  SeqStopsK Fence.wide m Tryz.prog 224 #[.pointer (some ⟨rb, 0, none⟩), .pointer (some ⟨ab, 0, none⟩)] (encE kind user) (KpE w0.heap.size) (fun ys => ys = seqW (rdG n W L) page 3 root) (fun pre => pre <+: seqW (rdG n W L) page 3 root) (seqW (rdG n W L) page 3 root).length w :=
 fun l J Jx W1 hW1 hJ _ hY h0 =>
  have hc := Chg.of_below hW1
  entries1_in m l rb ab q S p L h b n W page kind root user w0 gu hW J Jx W1 hJ hY (hb1.trans hc (by simp)) ((hc.cell (p := ⟨rb, 0, none⟩) hrl (by simp)).trans hr) (ha.chg_ hc (by simp)) h0
attribute [local go_sem] Oper.semAt_some
theorem run_ok {page : Int} : ∀ (l : List It) (p : Pa), (∀ x ∈ l, x.err = none) → runW page l p = .ok (l.foldl (accP page) p)
 | [], _, _ => rfl
 | x :: l, p, h => by
  rw [runW, h x (List.mem_cons_self ..)]
  exact run_ok l _ fun y hy => h y (List.mem_cons_of_mem _ hy)
theorem run_err {page : Int} {x : It} {t : Nat} (hx : x.err = some t) : ∀ (l r : List It) (p : Pa), (∀ x ∈ l, x.err = none) → runW page (l ++ x :: r) p = .error t
 | [], _, _, _ => by rw [List.nil_append, runW, hx]
 | y :: l, r, p, h => by
  rw [List.cons_append, runW, h y (List.mem_cons_self ..)]
  exact run_err hx l r _ fun z hz => h z (List.mem_cons_of_mem _ hz)
theorem fold_len (page : Int) : ∀ (l : List It) (p : Pa), (l.foldl (accP page) p).ats.length = p.ats.length + l.length
 | [], _ => rfl
 | x :: l, p => by rw [List.foldl_cons, fold_len page l, accP, List.length_append, List.length_cons, List.length_cons, List.length_nil]; omega
structure PathI (m m1 rb eb pb ab q : Nat) (page kind : Int) (user : Bool) (w : World) (pre : List It) (W : World) : Prop where
 ok : ∀ x ∈ pre, x.err = none
 row : ∃ v, Blk W pb 76 #[v, .int .i64 (pre.foldl (accP page) Pa.start).g, .bool (pre.foldl (accP page) Pa.start).r.w, .bool (pre.foldl (accP page) Pa.start).r.u, .bool (pre.foldl (accP page) Pa.start).r.x, .bool (pre.foldl (accP page) Pa.start).large, .bool (pre.foldl (accP page) Pa.start).dirty] ∧ W.ownsRow m 104 2 v pre.length (flatA (pre.foldl (accP page) Pa.start).ats)
 hr : Blk W rb 76 #[.slice none 0 0, .int .i64 0, .bool false, .bool false, .bool false, .bool false, .bool false]
 he : Blk W eb 158 #[.nilIface]
 ha : Blk W ab 161 #[.pointer (some ⟨q, 0, none⟩), .int .i64 page, .int .i64 kind, .bool user]
 ch : Chg [] w W
 lo : m1 ≤ W.heap.size
structure PathX (rb eb : Nat) (kind : Int) (user : Bool) (w : World) (pre : List It) (W : World) : Prop where
 why : ∃ l x t, pre = l ++ [x] ∧ (∀ y ∈ l, y.err = none) ∧ x.err = some t ∧ Blk W eb 158 #[errO kind user (some t)]
 hr : Blk W rb 76 #[.slice none 0 0, .int .i64 0, .bool false, .bool false, .bool false, .bool false, .bool false]
 ch : Chg [] w W
theorem PathI.own {m m1 rb eb pb ab q : Nat} {page kind : Int} {user : Bool} {w : World} {B : Nat} (hB : w.heap.size ≤ B) : OwnFrom B (PathI m m1 rb eb pb ab q page kind user w) := by
 intro pre W W' row h hg hr
 have hr' := fun r e => (hr r e).2
 obtain ⟨v, h1, h2⟩ := h.row
 exact ⟨h.ok, ⟨v, blk_kept h1 hg hr', own_kept h2 hg hr'⟩, blk_kept h.hr hg hr', blk_kept h.he hg hr', blk_kept h.ha hg hr', chg_kept h.ch hB hg hr, Nat.le_trans h.lo hg.size⟩
theorem PathX.own {rb eb : Nat} {kind : Int} {user : Bool} {w : World} {B : Nat} (c : Code) (hB : w.heap.size ≤ B) : OwnFrom B (fun pre W => c = .ret ∧ PathX rb eb kind user w pre W) := by
 rintro pre W W' row ⟨hc, h⟩ hg hr
 have hr' := fun r e => (hr r e).2
 obtain ⟨l, x, t, e1, e2, e3, e4⟩ := h.why
 exact ⟨hc, ⟨l, x, t, e1, e2, e3, blk_kept e4 hg hr'⟩, blk_kept h.hr hg hr', chg_kept h.ch hB hg hr⟩
theorem PathI.snoc {m m1 rb eb pb ab q : Nat} {page kind : Int} {user : Bool} {w W' : World} {pre : List It} {x : It} {P : Pa} {v : Value} (hP : pre.foldl (accP page) Pa.start = P) (hok : ∀ y ∈ pre, y.err = none) (hx : x.err = none)
  (h1 : Blk W' pb 76 #[v, .int .i64 (accP page P x).g, .bool (accP page P x).r.w, .bool (accP page P x).r.u, .bool (accP page P x).r.x, .bool (accP page P x).large, .bool (accP page P x).dirty]) (h2 : W'.ownsRow m 104 2 v (pre.length + 1) (flatA P.ats ++ [.int .i64 x.g, .int .i64 x.i]))
  (hR : Blk W' rb 76 #[.slice none 0 0, .int .i64 0, .bool false, .bool false, .bool false, .bool false, .bool false]) (hE : Blk W' eb 158 #[.nilIface]) (hA : Blk W' ab 161 #[.pointer (some ⟨q, 0, none⟩), .int .i64 page, .int .i64 kind, .bool user]) (hc : Chg [] w W') (hl : m1 ≤ W'.heap.size) : PathI m m1 rb eb pb ab q page kind user w (pre ++ [x]) W' := by
 have e : (pre ++ [x]).foldl (accP page) Pa.start = accP page P x := by rw [List.foldl_append, hP]; rfl
 refine ⟨fun y hy => ?_, ⟨v, by rw [e]; exact h1, ?_⟩, hR, hE, hA, hc, hl⟩
 ·rcases List.mem_append.1 hy with h | h
  ·exact hok y h
  rw [List.mem_singleton] at h; rw [h]; exact hx
 rw [e, List.length_append, List.length_cons, List.length_nil]
 have : flatA (accP page P x).ats = flatA P.ats ++ [.int .i64 x.g, .int .i64 x.i] := by simp [accP, flatA]
 rw [this]; exact h2
set_option maxHeartbeats 1000000 in
theorem entries_acc (q : Nat) (page kind root : Int) (user : Bool) (w : World) :
  Calls Tryz.prog 202 #[.agg #[.pointer (some ⟨q, 0, none⟩), .int .i64 page, .int .i64 kind, .bool user], .int .i64 root] w fun e w' => e = .returned (.func (.func 224) #[] #[.pointer (some ⟨w.heap.size + 1, 0, none⟩), .pointer (some ⟨w.heap.size, 0, none⟩)]) ∧ w' = (w.alloc (.cells #[.pointer (some ⟨q, 0, none⟩), .int .i64 page, .int .i64 kind, .bool user] 161)).alloc (.cells #[.int .i64 root] 3) := by
 have hmf : ∀ (fn : Fn) (first cap : Array Value) (w : World), (Instr.makeFunc fn first cap).run Tryz.prog w = .ok (.func fn first cap) w := fun _ _ _ _ => rfl
 go_enter Tryz.func202, Tryz.ntmps202
 go_wp2
 go_ret
 exact ⟨rfl, rfl⟩
theorem At.info : (Tryz.prog.info? 104).map (fun i => (i.zero, i.size, i.bytes)) = some (some (.agg #[.int .i64 0, .int .i64 0]), 2, 16) := by kernel_rfl
theorem cell2_ret {P : Program} {fn : Func} {p q : Tmp} {ty ty2 : TypeId} (h : fn.results = #[.cell p ty, .cell q ty2]) {tmps : Array Value} {w : World} {g g2 : Nat} {t t2 : TypeId} {cs : Array Value} {u : Value} {d d2 : TypeDesc} (hb : Blk w g t cs) (hb2 : Blk w g2 t2 #[u])
  (hp : tmps.getD p undef = .pointer (some ⟨g, 0, none⟩)) (hq : tmps.getD q undef = .pointer (some ⟨g2, 0, none⟩)) (hu : P.underlying ty = some d) (hd : (match d with | .struct _ | .array _ _ => true | _ => false) = true) (hi : (P.info? ty).map (·.size) = some cs.size)
  (hu2 : P.underlying ty2 = some d2) (hd2 : (match d2 with | .struct _ | .array _ _ => false | _ => true) = true) :
  (results fn tmps).run P w = .ok (.tuple #[.agg cs, u]) w := by
 have hp' : tmps[p]?.getD undef = .pointer (some ⟨g, 0, none⟩) := by simpa using hp
 have hq' : tmps[q]?.getD undef = .pointer (some ⟨g2, 0, none⟩) := by simpa using hq
 have hl2 : (loadVar ty2 ⟨g2, 0, none⟩).run P w = .ok u w := by
  have hc := hb2.cell 0
  simp only [qA, qZ] at hc
  cases d2 <;> simp_all [loadVar, isAgg, underlying, Result.andThen]
 simp [results, h, hp', hq', asAddr, run_loadVar_row w g t ty cs (0, 0) d hb hu hd hi, hl2, Result.andThen]
def PathR (m : Nat) (kind : Int) (user : Bool) (w : World) : Except Nat Pa → Ending → World → Prop
 | .ok P, e, w' => ∃ A c, e = .returned (.tuple #[.agg (pathV A c P), .nilIface]) ∧ w'.ownsRow m 104 2 (.slice A P.ats.length c) P.ats.length (flatA P.ats) ∧ Chg [] w w'
 | .error t, e, w' => e = .returned (.tuple #[.agg (pathV none 0 Pa.zero), errO kind user (some t)]) ∧ Chg [] w w'
set_option maxRecDepth 100000 in
set_option maxHeartbeats 20000000 in
theorem path_acc (q : Nat) (S : List Nat) (p : Nat) (L : List Int) (h b n : Nat) (W : List Int) (page kind root : Int) (user : Bool) (w : World) (gu : GuIn w q S p L h b n W) (hW : WdW W) :
  Calls Tryz.prog 145 #[.agg #[.pointer (some ⟨q, 0, none⟩), .int .i64 page, .int .i64 kind, .bool user], .int .i64 root] w (PathR w.heap.size kind user w (pathP (rdG n W L) page root)) := by
 have hro : Fence.wide.round = none := rfl
 refine (callsIn_wide (n := 3)).1 ?_
 obtain ⟨i0, hi, hz0, hz1, hz2⟩ := info_parts At.info
 refine callsIn_of_wp_marks Tryz.func145 rfl trivial ?_ hro
 simp only [Tryz.ntmps145, List.size_toArray, List.length_cons, List.length_nil, Nat.reduceAdd, Nat.reduceSub, Array.replicate_succ, Array.replicate_zero, List.push_toArray, List.append_toArray, List.nil_append, List.cons_append]
 have hA0 := ((Blk.new w 161 #[.pointer (some ⟨q, 0, none⟩), .int .i64 page, .int .i64 kind, .bool user]).alloc (.cells #[.slice none 0 0, .int .i64 0, .bool false, .bool false, .bool false, .bool false, .bool false] 76)).alloc (.cells #[.nilIface] 158)
 have hR0 := (Blk.new (w.alloc (.cells #[.pointer (some ⟨q, 0, none⟩), .int .i64 page, .int .i64 kind, .bool user] 161)) 76 #[.slice none 0 0, .int .i64 0, .bool false, .bool false, .bool false, .bool false, .bool false]).alloc (.cells #[.nilIface] 158)
 have hE0 := Blk.new ((w.alloc (.cells #[.pointer (some ⟨q, 0, none⟩), .int .i64 page, .int .i64 kind, .bool user] 161)).alloc (.cells #[.slice none 0 0, .int .i64 0, .bool false, .bool false, .bool false, .bool false, .bool false] 76)) 158 #[.nilIface]
 rw [World.size_alloc] at hR0
 rw [World.size_alloc, World.size_alloc] at hE0
 have hc0 := (((Chg.refl [] w).alloc (.cells #[.pointer (some ⟨q, 0, none⟩), .int .i64 page, .int .i64 kind, .bool user] 161)).alloc (.cells #[.slice none 0 0, .int .i64 0, .bool false, .bool false, .bool false, .bool false, .bool false] 76)).alloc (.cells #[.nilIface] 158)
 gi_wp2
 generalize ((w.alloc (.cells #[.pointer (some ⟨q, 0, none⟩), .int .i64 page, .int .i64 kind, .bool user] 161)).alloc (.cells #[.slice none 0 0, .int .i64 0, .bool false, .bool false, .bool false, .bool false, .bool false] 76)).alloc (.cells #[.nilIface] 158) = w1 at *
 (first | refine ⟨trivial, (fun hh => by cases hh), ?_⟩ | refine ⟨(fun hh => by cases hh), ?_⟩ | refine ⟨trivial, ?_⟩ | skip)
 refine (callsIn_wide.2 (All_any _)).mono ?_; rintro e w2 ⟨rfl, hc2⟩
 have hA2 := hA0.chg_ hc2 (by simp); have hR2 := hR0.chg_ hc2 (by simp); have hE2 := hE0.chg_ hc2 (by simp)
 have hP3 := Blk.new w2 76 #[.slice none 0 0, .int .i64 0, .bool true, .bool true, .bool true, .bool false, .bool false]
 have hc3 := (hc0.trans hc2 (by simp)).alloc (.cells #[.slice none 0 0, .int .i64 0, .bool true, .bool true, .bool true, .bool false, .bool false] 76)
 have hA3 := hA2.alloc (.cells #[.slice none 0 0, .int .i64 0, .bool true, .bool true, .bool true, .bool false, .bool false] 76)
 have hR3 := hR2.alloc (.cells #[.slice none 0 0, .int .i64 0, .bool true, .bool true, .bool true, .bool false, .bool false] 76)
 have hE3 := hE2.alloc (.cells #[.slice none 0 0, .int .i64 0, .bool true, .bool true, .bool true, .bool false, .bool false] 76)
 have hl1 := hA2.lt; have hl2 := hR2.lt; have hl3 := hE2.lt
 clear hA0 hR0 hE0 hc0 hc2 hA2 hR2 hE2
 have a0 := hA3.cell 0; have a1 := hA3.cell 1; have a2 := hA3.cell 2; have a3 := hA3.cell 3
 simp only [qA, qZ, qS] at a0 a1 a2 a3
 unfold Rg.all Rg.cs
 gi_wp2
 generalize hpb : w2.heap.size = pb at *
 generalize w2.alloc (.cells #[.slice none 0 0, .int .i64 0, .bool true, .bool true, .bool true, .bool false, .bool false] 76) = w3 at *
 (first | refine ⟨trivial, (fun hh => by cases hh), ?_⟩ | refine ⟨(fun hh => by cases hh), ?_⟩ | refine ⟨trivial, ?_⟩ | skip)
 refine (callsIn_wide.2 (entries_acc q page kind root user _)).mono ?_; rintro e w4 ⟨rfl, hw4⟩
 have hAc := (Blk.new w3 161 #[.pointer (some ⟨q, 0, none⟩), .int .i64 page, .int .i64 kind, .bool user]).alloc (.cells #[.int .i64 root] 3)
 have hRt := (Blk.new (w3.alloc (.cells #[.pointer (some ⟨q, 0, none⟩), .int .i64 page, .int .i64 kind, .bool user] 161)) 3 #[.int .i64 root]).cell 0
 rw [World.size_alloc] at hRt
 simp only [qA, qZ] at hRt
 have hsz4 : w4.heap.size = w3.heap.size + 1 + 1 := by rw [hw4, World.size_alloc, World.size_alloc]
 have hc34 : Chg [] w3 w4 := by rw [hw4]; exact ((Chg.refl [] w3).alloc _).alloc _
 rw [← hw4] at hAc hRt
 have hA4 := hA3.chg_ hc34 (by simp); have hR4 := hR3.chg_ hc34 (by simp); have hE4 := hE3.chg_ hc34 (by simp); have hP4 := hP3.chg_ hc34 (by simp)
 have hc4 := hc3.trans hc34 (by simp)
 have hpl := hP3.lt
 clear hA3 hR3 hE3 hP3 hc3 hc34 hw4 a0 a1 a2 a3
 generalize hrt : w3.heap.size + 1 = rt at *
 generalize hac : w3.heap.size = ac at *
 generalize hmm : w.heap.size = m at *
 have hI0 : PathI m w4.heap.size (m + 1) (m + 1 + 1) pb m q page kind user w [] w4 := ⟨by simp, ⟨.slice none 0 0, hP4, World.ownsRow_nil _ _ _ _⟩, hR4, hE4, hA4, hc4, Nat.le_refl _⟩
 have hmw : m ≤ w4.heap.size := by omega
 have hml : w.heap.size ≤ w4.heap.size := by omega
 clear hA4 hR4 hE4 hP4
 gi_wp2
 refine wpIn_rangeFunc_ownH (a := _) hro (by decide) (gf := 224) (lb := #[.pointer (some ⟨rt, 0, none⟩), .pointer (some ⟨ac, 0, none⟩)]) rfl trivial (enters_of Tryz.func224 (by kernel_rfl) rfl)
  (entries_stops (3 - 1) rt ac q S p L h b n W page kind root user w w4 gu hW hc4 (by omega) hRt hAc) KpE.t (KpE.b hml) (Below.refl _ _) (fun _ => rfl)
  (PathI m w4.heap.size (m + 1) (m + 1 + 1) pb m q page kind user w) (fun c pre W => c = .ret ∧ PathX (m + 1) (m + 1 + 1) kind user w pre W) (PathI.own hml) (fun c => PathX.own c hml) hI0
  (fun x a' W => ∃ Bx, w4.heap.size ≤ Bx ∧ Blk W Bx 262 x.cs ∧ a' = { tmps := #[.agg #[.pointer (some ⟨q, 0, none⟩), .int .i64 page, .int .i64 kind, .bool user], .int .i64 root, .pointer (some ⟨m, 0, none⟩), undef, .pointer (some ⟨m + 1, 0, none⟩), .pointer (some ⟨m + 1 + 1, 0, none⟩), .pointer (some ⟨pb, 0, none⟩), .pointer (some ⟨Bx, 0, none⟩), errO kind user x.err, .agg #[.bool true, .bool true, .bool true], .agg #[.slice none 0 0, .int .i64 0, .bool true, .bool true, .bool true, .bool false, .bool false], .agg #[.pointer (some ⟨q, 0, none⟩), .int .i64 page, .int .i64 kind, .bool user], .int .i64 root, .func (.func 224) #[] #[.pointer (some ⟨rt, 0, none⟩), .pointer (some ⟨ac, 0, none⟩)], .agg x.cs, errO kind user x.err, undef, undef, undef, undef, undef, undef, undef, undef, undef, undef, undef, undef, undef, undef, undef, undef, undef, undef, undef, undef, undef, undef, undef, undef, undef, undef, undef, undef, undef, undef, undef, undef, undef, undef, undef], defers := [] })
  (fun x a' s W W' row hs hg hr => by
   obtain ⟨Bx, h1, h2, h3⟩ := hs
   exact ⟨Bx, h1, blk_kept h2 hg (fun r e => (hr r e).2), h3⟩) ?assign ?body ?done ?stop
 case assign =>
  intro l pre x W2 K hi hK
  have hi' := PathI.own hml pre W2 (W2.alloc (.cells x.cs 262)) none hi (World.grownBy_alloc _ _ _) (fun r e => by cases e)
  have hst := Stp.new ((Chg.refl [] W2).alloc (.cells x.cs 262)) (show w.heap.size ≤ W2.heap.size from hi.ch.size)
  have hnew := Blk.new W2 262 x.cs
  obtain ⟨xl, xg, xi, ⟨ep, ew, eu, ea, ed, es, en, eb, ef⟩, er⟩ := x
  have hK' := hK _ _ (hst.1.from _) hst.2 hi' ⟨W2.heap.size, hi.lo, hnew, rfl⟩
  unfold encE
  simp only [It.cs] at hK' ⊢
  gi_wp2
  exact hK'
 case body =>
  rintro l pre x a' W2 hl ⟨r, hr⟩ hI2 ⟨Bx, hBx, hX, rfl⟩ hlt
  have hN := seq_len (rdG n W L) page 3 root
  have hlast := fun w0 => last_any x w0
  have hframe := fun w0 => frame_any x page w0
  obtain ⟨v, hP, hrow⟩ := hI2.row
  have hok := hI2.ok
  have hR := hI2.hr
  have hE := hI2.he
  have hA := hI2.ha
  have hc := hI2.ch
  have hlo := hI2.lo
  have hlen := fold_len page pre Pa.start
  simp only [Pa.start, List.length_nil, Nat.zero_add] at hlen
  clear hI2
  generalize hPd : pre.foldl (accP page) Pa.start = P at *
  have HPD := Lib.hid hPd
  have hlen' : P.ats.length = pre.length := by rw [← hPd]; simpa [Pa.start] using hlen
  clear hPd hlen
  obtain ⟨xl, xg, xi, ⟨ep, ew, eu, ea, ed, es, en, eb, ef⟩, er⟩ := x
  obtain ⟨pats, pg, ⟨prw, pru, prx⟩, plg, pdy⟩ := P
  simp only at hP hrow hlen'
  have hmW : m ≤ W2.heap.size := by omega
  have hne1 : Bx ≠ pb := by omega
  have hne2 : m ≠ pb := by omega
  cases er with
  | some t =>
   obtain ⟨z0_, z1_, z2_, z3_, z4_, z5_, z6_, y0_, y1_, y2_, y3_, y4_, y5_, y6_⟩ := blk7 hR
   have e0 := hE.cell 0
   have e1 := hE.frozen 0
   simp only [qA, qZ] at e0
   have hch := (chg7 (y0 := .slice none 0 0) (y1 := .int .i64 0) (y2 := .bool false) (y3 := .bool false) (y4 := .bool false) (y5 := .bool false) (y6 := .bool false) (Chg.refl [m + 1, m + 1 + 1] W2) (g := m + 1) (by simp)).setCell (p := ⟨m + 1 + 1, 0, none⟩) (by simp) (errO kind user (some t))
   have hst := Stp.of_chg hch hmW (by
    intro i hi
    simp at hi
    rcases hi with rfl | rfl
    ·exact ⟨by omega, _, _, hR, by decide, by decide⟩
    exact ⟨by omega, _, _, hE, by decide, by decide⟩)
   have hR7 := (set7 (y0 := .slice none 0 0) (y1 := .int .i64 0) (y2 := .bool false) (y3 := .bool false) (y4 := .bool false) (y5 := .bool false) (y6 := .bool false) hR).far (p := ⟨m + 1 + 1, 0, none⟩) (by simp) (errO kind user (some t))
   have hE7 := (far7 (g := m + 1) (y0 := .slice none 0 0) (y1 := .int .i64 0) (y2 := .bool false) (y3 := .bool false) (y4 := .bool false) (y5 := .bool false) (y6 := .bool false) hE (by omega)).set_ 0 (errO kind user (some t))
   have hc7 := hst.chg hc hmm.symm
   have HST := Lib.hid hst
   have HFIN : Hid (PathX (m + 1) (m + 1 + 1) kind user w (pre ++ [⟨xl, xg, xi, ⟨ep, ew, eu, ea, ed, es, en, eb, ef⟩, some t⟩]) _) := Lib.hid ⟨⟨pre, _, t, rfl, hok, rfl, hE7⟩, hR7, hc7⟩
   clear hch hst hR7 hE7 hc7
   simp only [errO, stopV] at HST HFIN ⊢
   gi_wp2
   exact ⟨HST.out.1.from _, rfl, HFIN.out⟩
  | none =>
   simp only [errO, It.cs] at hX hlast hframe ⊢
   obtain ⟨p0_, p1_, p2_, p3_, p4_, p5_, p6_, f0_, f1_, f2_, f3_, f4_, f5_, f6_⟩ := blk7 hP
   obtain ⟨er0, er1, er2, er3, er4, er5, er6, er7, er8, er9, er10, er11, eq0, eq1, eq2, eq3, eq4, eq5, eq6, eq7, eq8, eq9, eq10, eq11⟩ := blk12 hX
   have hlt3 : pre.length < 3 := by omega
   have hAt := Blk.new W2 104 #[.int .i64 xg, .int .i64 xi]
   gi_wp2_with (gi_at_builtin; refine wpListIn_append_own _ rfl _ _ 74 rfl m 104 i0 (.agg #[.int .i64 0, .int .i64 0]) 2 16 Tryz.underlying74 hi hz0 hz1 hz2 rfl (by decide) _ _ _ rfl (World.ownsRow.alloc hrow _) ⟨W2.heap.size, 0, none⟩ 1 1 [.int .i64 xg, .int .i64 xi] rfl rfl (fun j u hu => by rw [add_at, Nat.zero_add, hAt.cell]; simpa using hu) (by simp [Value.oneCell']) (by simp [maxLen]; omega) (by omega) (by simp; omega) ?_; intro v' w1 hown' hgrow _; obtain ⟨g', cap', rfl⟩ := ownsRow_succ hown'; have hcg := (((Chg.refl [] W2).alloc (.cells #[.int .i64 xg, .int .i64 xi] 104)).weak (T := v.ownBlock.toList) (by simp)).trans (Chg.of_grown hgrow) (fun i _ hi => hi); clear p0_ p1_ p2_ p3_ p4_ p5_ p6_ f0_ f1_ f2_ f3_ f4_ f5_ f6_; have hP1 := hP.chg_ hcg (fun hi => by (obtain ⟨cs, hb⟩ := own_cells hrow _ hi; exact Blk.type_ne hb hP (by decide) rfl)); obtain ⟨p0_, p1_, p2_, p3_, p4_, p5_, p6_, f0_, f1_, f2_, f3_, f4_, f5_, f6_⟩ := blk7 hP1)
   have hX1 := hX.chg_ hcg (fun hi => by (obtain ⟨cs, hb⟩ := own_cells hrow _ hi; exact Blk.type_ne hb hX (by decide) rfl))
   have hA1 := hA.chg_ hcg (fun hi => by (obtain ⟨cs, hb⟩ := own_cells hrow _ hi; exact Blk.type_ne hb hA (by decide) rfl))
   have hR1 := hR.chg_ hcg (fun hi => by (obtain ⟨cs, hb⟩ := own_cells hrow _ hi; exact Blk.type_ne hb hR (by decide) rfl))
   have hE1 := hE.chg_ hcg (fun hi => by (obtain ⟨cs, hb⟩ := own_cells hrow _ hi; exact Blk.type_ne hb hE (by decide) rfl))
   have hs1 := Stp.of_chg hcg hmW (fun i hi => by (obtain ⟨cs, hb⟩ := own_cells hrow _ hi; exact ⟨own_low hrow _ hi, cs, _, hb, by decide, by decide⟩))
   have hch3 := (Chg.refl [pb] w1).setCell (p := ⟨pb, 0, none⟩) (by simp) (.slice (some ⟨g', 0, none⟩) (pre.length + 1) cap')
   have hs3 := hs1.t (Stp.of_chg hch3 (by have := hcg.size; omega) (by intro i hi; simp at hi; subst hi; exact ⟨by omega, _, _, hP1, by decide, by decide⟩))
   have hP3 := hP1.set_ 0 (.slice (some ⟨g', 0, none⟩) (pre.length + 1) cap')
   have hX3 := hX1.chg_ hch3 (by simpa using hne1)
   have hA3 := hA1.chg_ hch3 (by simpa using hne2)
   have hR3 := hR1.chg_ hch3 (by simp; omega)
   have hE3 := hE1.chg_ hch3 (by simp; omega)
   have hrow3 := own_chg hown' hch3 (fun g hg hi => by (obtain ⟨cs, hb⟩ := own_cells hown' g (by simp [hg]); simp at hi; subst hi; exact Blk.type_ne hb hP1 (by decide) rfl))
   have hc3 := hs3.chg hc hmm.symm
   have hlo3 : w4.heap.size ≤ (w1.setCell ⟨pb, 0, none⟩ (.slice (some ⟨g', 0, none⟩) (pre.length + 1) cap')).heap.size := Nat.le_trans (Nat.le_trans hlo hcg.size) hch3.size
   simp only [qI, qO] at hP3
   clear hX1 hA1 hR1 hE1 hs1 hch3 hP1 hX hA hR hE hc hlo hP hrow hown' hgrow hcg hAt er0 er1 er2 er3 er4 er5 er6 er7 er8 er9 er10 er11 eq0 eq1 eq2 eq3 eq4 eq5 eq6 eq7 eq8 eq9 eq10 eq11 p0_ p1_ p2_ p3_ p4_ p5_ p6_ f0_ f1_ f2_ f3_ f4_ f5_ f6_
   generalize w1.setCell ⟨pb, 0, none⟩ (.slice (some ⟨g', 0, none⟩) (pre.length + 1) cap') = W3 at *
   have hmW3 : m ≤ W3.heap.size := by omega
   obtain ⟨p0_, p1_, p2_, p3_, p4_, p5_, p6_, f0_, f1_, f2_, f3_, f4_, f5_, f6_⟩ := blk7 hP3
   have hOf := fun w0 => Of_any ep ew eu ea ed es en eb ef w0
   have hM : ∀ (g : Nat) (w0 : World), Blk w0 g 54 #[.bool prw, .bool pru, .bool prx, .bool ew, .bool eu, .bool !en] → Calls Tryz.prog 93 #[.slice (some ⟨g, 0, none⟩) 2 2] w0 fun e w' => e = .returned (.agg #[.bool (prw && ew), .bool (pru && eu), .bool (prx && !en)]) ∧ Chg [] w0 w' := fun g w0 hb => by
    have := Meet_any (some ⟨g, 0, none⟩) 2 2 [⟨prw, pru, prx⟩, ⟨ew, eu, !en⟩] w0 (SlR.made2 _ _ hb) (by decide)
    rwa [meet2] at this
   generalize hlb : It.last ⟨xl, xg, xi, ⟨ep, ew, eu, ea, ed, es, en, eb, ef⟩, none⟩ = tl at *
   have HLB := Lib.hid hlb
   clear hlb
   generalize hfv : (if es = true then wrap64 (ef + idxI page 1) else ef) = fv at *
   have HFV := Lib.hid hfv
   clear hfv
   have c3 : Chg [] W3 W3.drew := (Chg.refl [] W3).drew
   refine wpIn_region_only (S := fun w' => Blk w' Bx 262 #[.int .i64 xl, .int .i64 xg, .int .i64 xi, .bool ep, .bool ew, .bool eu, .bool ea, .bool ed, .bool es, .bool en, .bool eb, .int .i64 ef]) (by kernel_rfl) (by kernel_rfl) ?_ (fun hHeld => ?_)
   ·exact hX3
   (refine tk 0 27 ?_ ?_ ?_; rotate_left; · (intro w hSw; skip; go_simp; (try with_reducible rfl)))
   (refine tk 2 29 ?_ ?_ ?_; rotate_left; · (intro w hSw; skip; go_simp; (try with_reducible rfl)))
   (try simp only [Act.put, qI, qO, qU])
   (refine tk 3 30 ?_ ?_ ?_; rotate_left; · (intro w hSw; obtain ⟨er0, er1, er2, er3, er4, er5, er6, er7, er8, er9, er10, er11, eq0, eq1, eq2, eq3, eq4, eq5, eq6, eq7, eq8, eq9, eq10, eq11⟩ := blk12 hSw; go_simp; (try with_reducible rfl)))
   (try simp only [Act.put, qI, qO, qU])
   refine wpAnyH_ready (rs := [1, 4]) (by kernel_rfl) (by simp) ?_; refine AllReadyH.cons (o := _) rfl (fun K hK => ?_) (AllReadyH.cons (o := _) rfl (fun K hK => ?_) AllReadyH.nil)
   ·go_simp
    skip
    refine hK.out _ _ (by (try dsimp only); exact hHeld) (fun hHeld => ?_)
    clear hK K
    (try simp only [Act.put, qI, qO, qU])
    refine rdy 4 fun K hK => ?_
    go_simp
    (go_at_call 94; refine (hOf _).mono ?_; rintro e w5 ⟨rfl, k5⟩; have c5 : Chg [] W3 w5 := Chg.trans c3 k5 (by simp); have hP5 := hP3.chg_ c5 (by simp); clear p0_ p1_ p2_ p3_ p4_ p5_ p6_ f0_ f1_ f2_ f3_ f4_ f5_ f6_; obtain ⟨p0_, p1_, p2_, p3_, p4_, p5_, p6_, f0_, f1_, f2_, f3_, f4_, f5_, f6_⟩ := blk7 hP5)
    refine hK.out _ _ (by (try dsimp only); exact hX3.chg_ c5 (by simp)) (fun hHeld => ?_)
    clear hK K
    (try simp only [Act.put, qI, qO, qU])
    refine rdy 5 fun K hK => ?_
    go_simp
    skip
    refine hK.out _ _ (by (try dsimp only); exact Blk.alloc hHeld _) (fun hHeld => ?_)
    clear hK K
    (try simp only [Act.put, qI, qO, qU])
    refine rdy 6 fun K hK => ?_
    go_simp
    (go_at_call 93; refine (hM _ _ (Blk.new w5 54 _)).mono ?_; rintro e w6 ⟨rfl, k6⟩; have c6 : Chg [] W3 w6 := Chg.trans (Chg.alloc c5 (.cells #[.bool prw, .bool pru, .bool prx, .bool ew, .bool eu, .bool !en] 54)) k6 (by simp); have hP6 := hP3.chg_ c6 (by simp); clear p0_ p1_ p2_ p3_ p4_ p5_ p6_ f0_ f1_ f2_ f3_ f4_ f5_ f6_; obtain ⟨p0_, p1_, p2_, p3_, p4_, p5_, p6_, f0_, f1_, f2_, f3_, f4_, f5_, f6_⟩ := blk7 hP6)
    refine hK.out _ _ (by (try dsimp only); exact hX3.chg_ c6 (by simp)) (fun hHeld => ?_)
    clear hK K
    (try simp only [Act.put, qI, qO, qU])
    refine rdy 7 fun K hK => ?_
    go_simp
    skip
    refine hK.out _ _ (by (try dsimp only); exact hHeld) (fun hHeld => ?_)
    clear hK K
    (try simp only [Act.put, qI, qO, qU])
    refine rdy 8 fun K hK => ?_
    go_simp
    skip
    refine hK.out _ _ (by (try dsimp only); exact ((hHeld.far hne1 _).far hne1 _).far hne1 _) (fun hHeld => ?_)
    clear hK K
    (try simp only [Act.put, qI, qO, qU])
    refine wpAnyH_done (by kernel_rfl) ?_ _
    refine Only.normal ?_
    have hch7 := (((Chg.refl [pb] w6).setCell (p := ⟨pb, 2, none⟩) (by simp) (.bool (prw && ew))).setCell (p := ⟨pb, 3, none⟩) (by simp) (.bool (pru && eu))).setCell (p := ⟨pb, 4, none⟩) (by simp) (.bool (prx && !en))
    have hs7 := (hs3.t (Stp.new c6 (by omega))).t (Stp.of_chg hch7 (by have := c6.size; omega) (by intro i hi; simp at hi; subst hi; exact ⟨by omega, _, _, hP6, by decide, by decide⟩))
    have hP7 := ((hP6.set_ 2 (.bool (prw && ew))).set_ 3 (.bool (pru && eu))).set_ 4 (.bool (prx && !en))
    simp only [qI, qO, qU] at hP7
    have hX7 := (hX3.chg_ c6 (by simp)).chg_ hch7 (by simpa using hne1)
    have hA7 := (hA3.chg_ c6 (by simp)).chg_ hch7 (by simpa using hne2)
    have hR7 := (hR3.chg_ c6 (by simp)).chg_ hch7 (by simp; omega)
    have hE7 := (hE3.chg_ c6 (by simp)).chg_ hch7 (by simp; omega)
    have hrow6 := own_chg hrow3 c6 (by simp)
    have hrow7 := own_chg hrow6 hch7 (fun g hg hi => by (obtain ⟨cs, hb⟩ := own_cells hrow6 g (by simp [hg]); simp at hi; subst hi; exact Blk.type_ne hb hP6 (by decide) rfl))
    have hc7 := (hc3.trans c6 (by simp)).trans hch7 (by intro i hi hm; simp at hm; omega)
    have hlo7 := Nat.le_trans (Nat.le_trans hlo3 c6.size) hch7.size
    clear hrow6 hch7 hP6 c6 k6 hP5 c5 k5 p0_ p1_ p2_ p3_ p4_ p5_ p6_ f0_ f1_ f2_ f3_ f4_ f5_ f6_ hHeld hrow3 hP3 hX3 hA3 hR3 hE3 hs3 hc3 hlo3 c3 hM hOf
    generalize ((w6.setCell ⟨pb, 2, none⟩ (.bool (prw && ew))).setCell ⟨pb, 3, none⟩ (.bool (pru && eu))).setCell ⟨pb, 4, none⟩ (.bool (prx && !en)) = W7 at *
    obtain ⟨er0, er1, er2, er3, er4, er5, er6, er7, er8, er9, er10, er11, eq0, eq1, eq2, eq3, eq4, eq5, eq6, eq7, eq8, eq9, eq10, eq11⟩ := blk12 hX7
    gi_wp2
    (first | refine ⟨trivial, (fun hh => by cases hh), ?_⟩ | refine ⟨(fun hh => by cases hh), ?_⟩ | refine ⟨trivial, ?_⟩ | skip)
    refine (CallsIn.inRound l (callsIn_wide.2 (hlast _))).mono ?_; rintro e w8 ⟨rfl, k8⟩
    have hP8 := hP7.chg_ k8 (by simp); have hX8 := hX7.chg_ k8 (by simp); have hA8 := hA7.chg_ k8 (by simp); have hR8 := hR7.chg_ k8 (by simp); have hE8 := hE7.chg_ k8 (by simp)
    have hrow8 := own_chg hrow7 k8 (by simp)
    have hs8 := hs7.t (Stp.new k8 (by omega))
    have hc8 := hc7.trans k8 (by simp)
    have hlo8 := Nat.le_trans hlo7 k8.size
    clear hP7 hX7 hA7 hR7 hE7 hrow7 hs7 hc7 hlo7 k8 er0 er1 er2 er3 er4 er5 er6 er7 er8 er9 er10 er11 eq0 eq1 eq2 eq3 eq4 eq5 eq6 eq7 eq8 eq9 eq10 eq11
    cases tl with
    | false =>
     gi_wp2
     exact ⟨hs8.1.from _, hmm ▸ hs8.2, PathI.snoc HPD.out hok rfl (by unfold accP; rw [HLB.out]; exact hP8) hrow8 hR8 hE8 hA8 hc8 hlo8⟩
    | true =>
     gi_wp2
     refine wpIn_region_only (S := fun w' => Blk w' Bx 262 #[.int .i64 xl, .int .i64 xg, .int .i64 xi, .bool ep, .bool ew, .bool eu, .bool ea, .bool ed, .bool es, .bool en, .bool eb, .int .i64 ef] ∧ Blk w' m 161 #[.pointer (some ⟨q, 0, none⟩), .int .i64 page, .int .i64 kind, .bool user]) (by kernel_rfl) (by kernel_rfl) ?_ (fun hHeld => ?_)
     ·exact ⟨hX8, hA8⟩
     (refine tk 0 37 ?_ ?_ ?_; rotate_left; · (intro w hSw; obtain ⟨er0, er1, er2, er3, er4, er5, er6, er7, er8, er9, er10, er11, eq0, eq1, eq2, eq3, eq4, eq5, eq6, eq7, eq8, eq9, eq10, eq11⟩ := blk12 hSw.1; go_simp; (try with_reducible rfl)))
     (refine tk 1 38 ?_ ?_ ?_; rotate_left; · (intro w hSw; skip; go_simp; (try with_reducible rfl)))
     (refine tk 2 39 ?_ ?_ ?_; rotate_left; · (intro w hSw; have ac1 := hSw.2.cell 1; simp only [qA, qZ, qS] at ac1; go_simp; (try with_reducible rfl)))
     (refine tk 4 41 ?_ ?_ ?_; rotate_left; · (intro w hSw; skip; go_simp; (try with_reducible rfl)))
     (try simp only [Act.put, qI, qO, qU])
     (refine tk 5 42 ?_ ?_ ?_; rotate_left; · (intro w hSw; skip; go_simp; (try with_reducible rfl)))
     (refine tk 6 43 ?_ ?_ ?_; rotate_left; · (intro w hSw; obtain ⟨er0, er1, er2, er3, er4, er5, er6, er7, er8, er9, er10, er11, eq0, eq1, eq2, eq3, eq4, eq5, eq6, eq7, eq8, eq9, eq10, eq11⟩ := blk12 hSw.1; go_simp; (try with_reducible rfl)))
     (refine tk 7 44 ?_ ?_ ?_; rotate_left; · (intro w hSw; skip; go_simp; (try with_reducible rfl)))
     (refine tk 8 45 ?_ ?_ ?_; rotate_left; · (intro w hSw; skip; go_simp; (try with_reducible rfl)))
     (try simp only [Act.put, qI, qO, qU])
     (refine tk 9 46 ?_ ?_ ?_; rotate_left; · (intro w hSw; obtain ⟨er0, er1, er2, er3, er4, er5, er6, er7, er8, er9, er10, er11, eq0, eq1, eq2, eq3, eq4, eq5, eq6, eq7, eq8, eq9, eq10, eq11⟩ := blk12 hSw.1; go_simp; (try with_reducible rfl)))
     (try simp only [Act.put, qI, qO, qU])
     refine rdy 3 fun K hK => ?_
     go_simp
     (go_at_call 204; refine (hframe _).mono ?_; rintro e w9 ⟨rfl, k9⟩; have c9 : Chg [] w8 w9 := Chg.trans (Chg.drew (Chg.refl [] w8)) k9 (by simp); have hP9 := hP8.chg_ c9 (by simp); obtain ⟨p0_, p1_, p2_, p3_, p4_, p5_, p6_, f0_, f1_, f2_, f3_, f4_, f5_, f6_⟩ := blk7 hP9)
     refine hK.out _ _ (by (try dsimp only); exact ⟨hX8.chg_ c9 (by simp), hA8.chg_ c9 (by simp)⟩) (fun hHeld => ?_)
     clear hK K
     (try simp only [Act.put, qI, qO, qU])
     refine rdy 10 fun K hK => ?_
     go_simp
     skip
     refine hK.out _ _ (by (try dsimp only); exact hHeld) (fun hHeld => ?_)
     clear hK K
     (try simp only [Act.put, qI, qO, qU])
     refine rdy 11 fun K hK => ?_
     go_simp
     skip
     refine hK.out _ _ (by (try dsimp only); exact ⟨hHeld.1.far hne1 _, hHeld.2.far hne2 _⟩) (fun hHeld => ?_)
     clear hK K
     (try simp only [Act.put, qI, qO, qU])
     refine rdy 12 fun K hK => ?_
     go_simp
     skip
     refine hK.out _ _ (by (try dsimp only); exact hHeld) (fun hHeld => ?_)
     clear hK K
     (try simp only [Act.put, qI, qO, qU])
     refine rdy 13 fun K hK => ?_
     go_simp
     skip
     refine hK.out _ _ (by (try dsimp only); exact ⟨hHeld.1.far hne1 _, hHeld.2.far hne2 _⟩) (fun hHeld => ?_)
     clear hK K
     (try simp only [Act.put, qI, qO, qU])
     refine rdy 14 fun K hK => ?_
     go_simp
     skip
     refine hK.out _ _ (by (try dsimp only); exact hHeld) (fun hHeld => ?_)
     clear hK K
     (try simp only [Act.put, qI, qO, qU])
     refine rdy 15 fun K hK => ?_
     go_simp
     skip
     refine hK.out _ _ (by (try dsimp only); exact ⟨hHeld.1.far hne1 _, hHeld.2.far hne2 _⟩) (fun hHeld => ?_)
     clear hK K
     (try simp only [Act.put, qI, qO, qU])
     refine wpAnyH_done (by kernel_rfl) ?_ _
     refine Only.normal ?_
     have hch := (((Chg.refl [pb] w9).setCell (p := ⟨pb, 1, none⟩) (by simp) (.int .i64 fv)).setCell (p := ⟨pb, 5, none⟩) (by simp) (.bool es)).setCell (p := ⟨pb, 6, none⟩) (by simp) (.bool ed)
     have hs := (hs8.t (Stp.new c9 (by omega))).t (Stp.of_chg hch (by have := c9.size; omega) (by intro i hi; simp at hi; subst hi; exact ⟨by omega, _, _, hP9, by decide, by decide⟩))
     have hPf := ((hP9.set_ 1 (.int .i64 fv)).set_ 5 (.bool es)).set_ 6 (.bool ed)
     simp only [qI, qO, qU] at hPf
     have hrow9 := own_chg hrow8 c9 (by simp)
     have hrowf := own_chg hrow9 hch (fun g hg hi => by (obtain ⟨cs, hb⟩ := own_cells hrow9 g (by simp [hg]); simp at hi; subst hi; exact Blk.type_ne hb hP9 (by decide) rfl))
     have hcf := (hc8.trans c9 (by simp)).trans hch (by intro i hi hm; simp at hm; omega)
     have hRf := (hR8.chg_ c9 (by simp)).chg_ hch (by simp; omega)
     have hEf := (hE8.chg_ c9 (by simp)).chg_ hch (by simp; omega)
     have hAf := (hA8.chg_ c9 (by simp)).chg_ hch (by simpa using hne2)
     have hlof := Nat.le_trans (Nat.le_trans hlo8 c9.size) hch.size
     gi_wp2
     exact ⟨hs.1.from _, hmm ▸ hs.2, PathI.snoc HPD.out hok rfl (by unfold accP; rw [HLB.out]; simp only [if_true, HFV.out]; exact hPf) hrowf hRf hEf hAf hcf hlof⟩
   go_simp
   (go_at_call 94; refine (hOf _).mono ?_; rintro e w5 ⟨rfl, k5⟩; have c5 : Chg [] W3 w5 := Chg.trans c3 k5 (by simp); have hP5 := hP3.chg_ c5 (by simp); clear p0_ p1_ p2_ p3_ p4_ p5_ p6_ f0_ f1_ f2_ f3_ f4_ f5_ f6_; obtain ⟨p0_, p1_, p2_, p3_, p4_, p5_, p6_, f0_, f1_, f2_, f3_, f4_, f5_, f6_⟩ := blk7 hP5)
   refine hK.out _ _ (by (try dsimp only); exact hX3.chg_ c5 (by simp)) (fun hHeld => ?_)
   clear hK K
   (try simp only [Act.put, qI, qO, qU])
   refine rdy 1 fun K hK => ?_
   go_simp
   skip
   refine hK.out _ _ (by (try dsimp only); exact hHeld) (fun hHeld => ?_)
   clear hK K
   (try simp only [Act.put, qI, qO, qU])
   refine rdy 5 fun K hK => ?_
   go_simp
   skip
   refine hK.out _ _ (by (try dsimp only); exact Blk.alloc hHeld _) (fun hHeld => ?_)
   clear hK K
   (try simp only [Act.put, qI, qO, qU])
   refine rdy 6 fun K hK => ?_
   go_simp
   (go_at_call 93; refine (hM _ _ (Blk.new w5 54 _)).mono ?_; rintro e w6 ⟨rfl, k6⟩; have c6 : Chg [] W3 w6 := Chg.trans (Chg.alloc c5 (.cells #[.bool prw, .bool pru, .bool prx, .bool ew, .bool eu, .bool !en] 54)) k6 (by simp); have hP6 := hP3.chg_ c6 (by simp); clear p0_ p1_ p2_ p3_ p4_ p5_ p6_ f0_ f1_ f2_ f3_ f4_ f5_ f6_; obtain ⟨p0_, p1_, p2_, p3_, p4_, p5_, p6_, f0_, f1_, f2_, f3_, f4_, f5_, f6_⟩ := blk7 hP6)
   refine hK.out _ _ (by (try dsimp only); exact hX3.chg_ c6 (by simp)) (fun hHeld => ?_)
   clear hK K
   (try simp only [Act.put, qI, qO, qU])
   refine rdy 7 fun K hK => ?_
   go_simp
   skip
   refine hK.out _ _ (by (try dsimp only); exact hHeld) (fun hHeld => ?_)
   clear hK K
   (try simp only [Act.put, qI, qO, qU])
   refine rdy 8 fun K hK => ?_
   go_simp
   skip
   refine hK.out _ _ (by (try dsimp only); exact ((hHeld.far hne1 _).far hne1 _).far hne1 _) (fun hHeld => ?_)
   clear hK K
   (try simp only [Act.put, qI, qO, qU])
   refine wpAnyH_done (by kernel_rfl) ?_ _
   refine Only.normal ?_
   have hch7 := (((Chg.refl [pb] w6).setCell (p := ⟨pb, 2, none⟩) (by simp) (.bool (prw && ew))).setCell (p := ⟨pb, 3, none⟩) (by simp) (.bool (pru && eu))).setCell (p := ⟨pb, 4, none⟩) (by simp) (.bool (prx && !en))
   have hs7 := (hs3.t (Stp.new c6 (by omega))).t (Stp.of_chg hch7 (by have := c6.size; omega) (by intro i hi; simp at hi; subst hi; exact ⟨by omega, _, _, hP6, by decide, by decide⟩))
   have hP7 := ((hP6.set_ 2 (.bool (prw && ew))).set_ 3 (.bool (pru && eu))).set_ 4 (.bool (prx && !en))
   simp only [qI, qO, qU] at hP7
   have hX7 := (hX3.chg_ c6 (by simp)).chg_ hch7 (by simpa using hne1)
   have hA7 := (hA3.chg_ c6 (by simp)).chg_ hch7 (by simpa using hne2)
   have hR7 := (hR3.chg_ c6 (by simp)).chg_ hch7 (by simp; omega)
   have hE7 := (hE3.chg_ c6 (by simp)).chg_ hch7 (by simp; omega)
   have hrow6 := own_chg hrow3 c6 (by simp)
   have hrow7 := own_chg hrow6 hch7 (fun g hg hi => by (obtain ⟨cs, hb⟩ := own_cells hrow6 g (by simp [hg]); simp at hi; subst hi; exact Blk.type_ne hb hP6 (by decide) rfl))
   have hc7 := (hc3.trans c6 (by simp)).trans hch7 (by intro i hi hm; simp at hm; omega)
   have hlo7 := Nat.le_trans (Nat.le_trans hlo3 c6.size) hch7.size
   clear hrow6 hch7 hP6 c6 k6 hP5 c5 k5 p0_ p1_ p2_ p3_ p4_ p5_ p6_ f0_ f1_ f2_ f3_ f4_ f5_ f6_ hHeld hrow3 hP3 hX3 hA3 hR3 hE3 hs3 hc3 hlo3 c3 hM hOf
   generalize ((w6.setCell ⟨pb, 2, none⟩ (.bool (prw && ew))).setCell ⟨pb, 3, none⟩ (.bool (pru && eu))).setCell ⟨pb, 4, none⟩ (.bool (prx && !en)) = W7 at *
   obtain ⟨er0, er1, er2, er3, er4, er5, er6, er7, er8, er9, er10, er11, eq0, eq1, eq2, eq3, eq4, eq5, eq6, eq7, eq8, eq9, eq10, eq11⟩ := blk12 hX7
   gi_wp2
   (first | refine ⟨trivial, (fun hh => by cases hh), ?_⟩ | refine ⟨(fun hh => by cases hh), ?_⟩ | refine ⟨trivial, ?_⟩ | skip)
   refine (CallsIn.inRound l (callsIn_wide.2 (hlast _))).mono ?_; rintro e w8 ⟨rfl, k8⟩
   have hP8 := hP7.chg_ k8 (by simp); have hX8 := hX7.chg_ k8 (by simp); have hA8 := hA7.chg_ k8 (by simp); have hR8 := hR7.chg_ k8 (by simp); have hE8 := hE7.chg_ k8 (by simp)
   have hrow8 := own_chg hrow7 k8 (by simp)
   have hs8 := hs7.t (Stp.new k8 (by omega))
   have hc8 := hc7.trans k8 (by simp)
   have hlo8 := Nat.le_trans hlo7 k8.size
   clear hP7 hX7 hA7 hR7 hE7 hrow7 hs7 hc7 hlo7 k8 er0 er1 er2 er3 er4 er5 er6 er7 er8 er9 er10 er11 eq0 eq1 eq2 eq3 eq4 eq5 eq6 eq7 eq8 eq9 eq10 eq11
   cases tl with
   | false =>
    gi_wp2
    exact ⟨hs8.1.from _, hmm ▸ hs8.2, PathI.snoc HPD.out hok rfl (by unfold accP; rw [HLB.out]; exact hP8) hrow8 hR8 hE8 hA8 hc8 hlo8⟩
   | true =>
    gi_wp2
    refine wpIn_region_only (S := fun w' => Blk w' Bx 262 #[.int .i64 xl, .int .i64 xg, .int .i64 xi, .bool ep, .bool ew, .bool eu, .bool ea, .bool ed, .bool es, .bool en, .bool eb, .int .i64 ef] ∧ Blk w' m 161 #[.pointer (some ⟨q, 0, none⟩), .int .i64 page, .int .i64 kind, .bool user]) (by kernel_rfl) (by kernel_rfl) ?_ (fun hHeld => ?_)
    ·exact ⟨hX8, hA8⟩
    (refine tk 0 37 ?_ ?_ ?_; rotate_left; · (intro w hSw; obtain ⟨er0, er1, er2, er3, er4, er5, er6, er7, er8, er9, er10, er11, eq0, eq1, eq2, eq3, eq4, eq5, eq6, eq7, eq8, eq9, eq10, eq11⟩ := blk12 hSw.1; go_simp; (try with_reducible rfl)))
    (refine tk 1 38 ?_ ?_ ?_; rotate_left; · (intro w hSw; skip; go_simp; (try with_reducible rfl)))
    (refine tk 2 39 ?_ ?_ ?_; rotate_left; · (intro w hSw; have ac1 := hSw.2.cell 1; simp only [qA, qZ, qS] at ac1; go_simp; (try with_reducible rfl)))
    (refine tk 4 41 ?_ ?_ ?_; rotate_left; · (intro w hSw; skip; go_simp; (try with_reducible rfl)))
    (try simp only [Act.put, qI, qO, qU])
    (refine tk 5 42 ?_ ?_ ?_; rotate_left; · (intro w hSw; skip; go_simp; (try with_reducible rfl)))
    (refine tk 6 43 ?_ ?_ ?_; rotate_left; · (intro w hSw; obtain ⟨er0, er1, er2, er3, er4, er5, er6, er7, er8, er9, er10, er11, eq0, eq1, eq2, eq3, eq4, eq5, eq6, eq7, eq8, eq9, eq10, eq11⟩ := blk12 hSw.1; go_simp; (try with_reducible rfl)))
    (refine tk 7 44 ?_ ?_ ?_; rotate_left; · (intro w hSw; skip; go_simp; (try with_reducible rfl)))
    (refine tk 8 45 ?_ ?_ ?_; rotate_left; · (intro w hSw; skip; go_simp; (try with_reducible rfl)))
    (try simp only [Act.put, qI, qO, qU])
    (refine tk 9 46 ?_ ?_ ?_; rotate_left; · (intro w hSw; obtain ⟨er0, er1, er2, er3, er4, er5, er6, er7, er8, er9, er10, er11, eq0, eq1, eq2, eq3, eq4, eq5, eq6, eq7, eq8, eq9, eq10, eq11⟩ := blk12 hSw.1; go_simp; (try with_reducible rfl)))
    (try simp only [Act.put, qI, qO, qU])
    refine rdy 3 fun K hK => ?_
    go_simp
    (go_at_call 204; refine (hframe _).mono ?_; rintro e w9 ⟨rfl, k9⟩; have c9 : Chg [] w8 w9 := Chg.trans (Chg.drew (Chg.refl [] w8)) k9 (by simp); have hP9 := hP8.chg_ c9 (by simp); obtain ⟨p0_, p1_, p2_, p3_, p4_, p5_, p6_, f0_, f1_, f2_, f3_, f4_, f5_, f6_⟩ := blk7 hP9)
    refine hK.out _ _ (by (try dsimp only); exact ⟨hX8.chg_ c9 (by simp), hA8.chg_ c9 (by simp)⟩) (fun hHeld => ?_)
    clear hK K
    (try simp only [Act.put, qI, qO, qU])
    refine rdy 10 fun K hK => ?_
    go_simp
    skip
    refine hK.out _ _ (by (try dsimp only); exact hHeld) (fun hHeld => ?_)
    clear hK K
    (try simp only [Act.put, qI, qO, qU])
    refine rdy 11 fun K hK => ?_
    go_simp
    skip
    refine hK.out _ _ (by (try dsimp only); exact ⟨hHeld.1.far hne1 _, hHeld.2.far hne2 _⟩) (fun hHeld => ?_)
    clear hK K
    (try simp only [Act.put, qI, qO, qU])
    refine rdy 12 fun K hK => ?_
    go_simp
    skip
    refine hK.out _ _ (by (try dsimp only); exact hHeld) (fun hHeld => ?_)
    clear hK K
    (try simp only [Act.put, qI, qO, qU])
    refine rdy 13 fun K hK => ?_
    go_simp
    skip
    refine hK.out _ _ (by (try dsimp only); exact ⟨hHeld.1.far hne1 _, hHeld.2.far hne2 _⟩) (fun hHeld => ?_)
    clear hK K
    (try simp only [Act.put, qI, qO, qU])
    refine rdy 14 fun K hK => ?_
    go_simp
    skip
    refine hK.out _ _ (by (try dsimp only); exact hHeld) (fun hHeld => ?_)
    clear hK K
    (try simp only [Act.put, qI, qO, qU])
    refine rdy 15 fun K hK => ?_
    go_simp
    skip
    refine hK.out _ _ (by (try dsimp only); exact ⟨hHeld.1.far hne1 _, hHeld.2.far hne2 _⟩) (fun hHeld => ?_)
    clear hK K
    (try simp only [Act.put, qI, qO, qU])
    refine wpAnyH_done (by kernel_rfl) ?_ _
    refine Only.normal ?_
    have hch := (((Chg.refl [pb] w9).setCell (p := ⟨pb, 1, none⟩) (by simp) (.int .i64 fv)).setCell (p := ⟨pb, 5, none⟩) (by simp) (.bool es)).setCell (p := ⟨pb, 6, none⟩) (by simp) (.bool ed)
    have hs := (hs8.t (Stp.new c9 (by omega))).t (Stp.of_chg hch (by have := c9.size; omega) (by intro i hi; simp at hi; subst hi; exact ⟨by omega, _, _, hP9, by decide, by decide⟩))
    have hPf := ((hP9.set_ 1 (.int .i64 fv)).set_ 5 (.bool es)).set_ 6 (.bool ed)
    simp only [qI, qO, qU] at hPf
    have hrow9 := own_chg hrow8 c9 (by simp)
    have hrowf := own_chg hrow9 hch (fun g hg hi => by (obtain ⟨cs, hb⟩ := own_cells hrow9 g (by simp [hg]); simp at hi; subst hi; exact Blk.type_ne hb hP9 (by decide) rfl))
    have hcf := (hc8.trans c9 (by simp)).trans hch (by intro i hi hm; simp at hm; omega)
    have hRf := (hR8.chg_ c9 (by simp)).chg_ hch (by simp; omega)
    have hEf := (hE8.chg_ c9 (by simp)).chg_ hch (by simp; omega)
    have hAf := (hA8.chg_ c9 (by simp)).chg_ hch (by simpa using hne2)
    have hlof := Nat.le_trans (Nat.le_trans hlo8 c9.size) hch.size
    gi_wp2
    exact ⟨hs.1.from _, hmm ▸ hs.2, PathI.snoc HPD.out hok rfl (by unfold accP; rw [HLB.out]; simp only [if_true, HFV.out]; exact hPf) hrowf hRf hEf hAf hcf hlof⟩
 case done =>
  rintro D xs W2 hD rfl hI2 hK
  obtain ⟨v, hPr, hrow⟩ := hI2.row
  have hres := run_ok (page := page) _ Pa.start hI2.ok
  have hlen := fold_len page (seqW (rdG n W L) page 3 root) Pa.start
  have HRES : Hid (pathP (rdG n W L) page root = .ok _) := Lib.hid hres
  have hR := hI2.hr
  have hE := hI2.he
  have hc := hI2.ch
  generalize (seqW (rdG n W L) page 3 root).foldl (accP page) Pa.start = P at *
  simp only [Pa.start, List.length_nil, Nat.zero_add] at hlen
  rw [← hlen] at hrow
  obtain ⟨A, c, rfl, _, _⟩ := own_form hrow
  clear hI2 hres hlen
  obtain ⟨p0_, p1_, p2_, p3_, p4_, p5_, p6_, f0_, f1_, f2_, f3_, f4_, f5_, f6_⟩ := blk7 hPr
  obtain ⟨z0_, z1_, z2_, z3_, z4_, z5_, z6_, y0_, y1_, y2_, y3_, y4_, y5_, y6_⟩ := blk7 hR
  have e0 := hE.cell 0
  have e1 := hE.frozen 0
  simp only [qA, qZ] at e0
  have hlt1 := hR.lt; have hlt2 := hE.lt; have hlt3 := hPr.lt
  gi_wp2
  have hch : Chg [m + 1, m + 1 + 1] W2 W2 := Chg.refl _ _
  have hch7 := (chg7 (y0 := .slice A P.ats.length c) (y1 := .int .i64 P.g) (y2 := .bool P.r.w) (y3 := .bool P.r.u) (y4 := .bool P.r.x) (y5 := .bool P.large) (y6 := .bool P.dirty) hch (g := m + 1) (by simp)).setCell (p := ⟨m + 1 + 1, 0, none⟩) (by simp) .nilIface
  have hR7 := (set7 (y0 := .slice A P.ats.length c) (y1 := .int .i64 P.g) (y2 := .bool P.r.w) (y3 := .bool P.r.u) (y4 := .bool P.r.x) (y5 := .bool P.large) (y6 := .bool P.dirty) hR).far (p := ⟨m + 1 + 1, 0, none⟩) (by simp) .nilIface
  have hE7 := (far7 (g := m + 1) (y0 := .slice A P.ats.length c) (y1 := .int .i64 P.g) (y2 := .bool P.r.w) (y3 := .bool P.r.u) (y4 := .bool P.r.x) (y5 := .bool P.large) (y6 := .bool P.dirty) hE (by omega)).set_ 0 .nilIface
  have hK7 := (hch7.block D (Array.getElem?_eq_some_iff.1 hK).1 (by simp; omega)).trans hK
  have hc7 := hc.trans hch7 (by intro i hi hm; simp at hm; omega)
  have hrow7 := own_chg hrow hch7 (by
   intro g hg hm
   obtain ⟨cs, hb⟩ := own_cells hrow g (by simp [hg])
   simp at hm
   rcases hm with rfl | rfl
   ·exact Blk.type_ne hb hR (by decide) rfl
   exact Blk.type_ne hb hE (by decide) rfl)
  clear hch hch7 hrow hR hE hc hK p0_ p1_ p2_ p3_ p4_ p5_ p6_ f0_ f1_ f2_ f3_ f4_ f5_ f6_ z0_ z1_ z2_ z3_ z4_ z5_ z6_ y0_ y1_ y2_ y3_ y4_ y5_ y6_ e0 e1
  generalize ((((((((W2.setCell ⟨m + 1, 0, none⟩ (.slice A P.ats.length c)).setCell ⟨m + 1, 1, none⟩ (.int .i64 P.g)).setCell ⟨m + 1, 2, none⟩ (.bool P.r.w)).setCell ⟨m + 1, 3, none⟩ (.bool P.r.u)).setCell ⟨m + 1, 4, none⟩ (.bool P.r.x)).setCell ⟨m + 1, 5, none⟩ (.bool P.large)).setCell ⟨m + 1, 6, none⟩ (.bool P.dirty)).setCell ⟨m + 1 + 1, 0, none⟩ .nilIface) = W7 at *
  refine ⟨by simp, .inl ⟨_, _, rfl, run_takeDeferred hK7, ?_⟩⟩
  have hgr := grownBy_putObj' W7 D (.deferred none)
  have hrr : ∀ r, some D = some r → ∃ o : Obj, W7.heap[r]? = some o ∧ o.isCells = false := fun r e => by cases e; exact ⟨_, hK7, rfl⟩
  refine ⟨_, cell2_ret rfl (blk_kept hR7 hgr hrr) (blk_kept hE7 hgr hrr) rfl rfl Tryz.underlying76 rfl (by kernel_rfl) Tryz.underlying158 rfl, ?_⟩
  rw [HRES.out]
  exact ⟨A, c, rfl, own_kept hrow7 hgr hrr, chg_kept hc7 hml hgr (fun r e => by cases e; exact ⟨hD, _, hK7, rfl⟩)⟩
 rintro D c pre W2 hD hpre ⟨rfl, hx⟩ hK
 obtain ⟨l, x, t, rfl, hok, herr, hE⟩ := hx.why
 obtain ⟨rest, hrest⟩ := hpre
 have hres : pathP (rdG n W L) page root = .error t := by
  unfold pathP; rw [← hrest, List.append_assoc]; exact run_err herr l rest _ hok
 have HRES := Lib.hid hres
 have hR := hx.hr
 have hc := hx.ch
 clear hx hrest hres
 gi_wp2
 refine ⟨by simp, .inl ⟨_, _, rfl, run_takeDeferred hK, ?_⟩⟩
 have hgr := grownBy_putObj' W2 D (.deferred none)
 have hrr : ∀ r, some D = some r → ∃ o : Obj, W2.heap[r]? = some o ∧ o.isCells = false := fun r e => by cases e; exact ⟨_, hK, rfl⟩
 refine ⟨_, cell2_ret rfl (blk_kept hR hgr hrr) (blk_kept hE hgr hrr) rfl rfl Tryz.underlying76 rfl (by kernel_rfl) Tryz.underlying158 rfl, ?_⟩
 rw [HRES.out]
 exact ⟨rfl, chg_kept hc hml hgr (fun r e => by cases e; exact ⟨hD, _, hK, rfl⟩)⟩
end Go.Proofs.YtmbgepafpcbakaaGreatDoor
