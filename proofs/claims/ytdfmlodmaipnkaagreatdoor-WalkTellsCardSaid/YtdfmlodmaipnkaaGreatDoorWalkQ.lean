/-
  Plain facts on walks: what is found goes by two entries, or by three.
-/
import Derived.Test.YtdfmlodmaipnkaaGreatDoorWalkP
namespace Go.Proofs.YtdfmlodmaipnkaaGreatDoor
open Go.RowKit

section
variable {rd : Int → Int → Option Nat} {page root : Int}
/-- a way that ends in a large page's entry -/
structure ChA (rd : Int → Int → Option Nat) (page root : Int) (v3 v2 : Nat) : Prop where
  r3 : rd root (idxI page 3) = some v3
  p3 : (getE v3).p = true
  b3 : (getE v3).bad = false
  s3 : (getE v3).s = false
  r2 : rd (getE v3).f (idxI page 2) = some v2
  p2 : (getE v2).p = true
  b2 : (getE v2).bad = false
  s2 : (getE v2).s = true
  f2 : (getE v2).f % 8 = 0
/-- a way of three entries -/
structure ChB (rd : Int → Int → Option Nat) (page root : Int) (v3 v2 v1 : Nat) : Prop where
  r3 : rd root (idxI page 3) = some v3
  p3 : (getE v3).p = true
  b3 : (getE v3).bad = false
  s3 : (getE v3).s = false
  r2 : rd (getE v3).f (idxI page 2) = some v2
  p2 : (getE v2).p = true
  b2 : (getE v2).bad = false
  s2 : (getE v2).s = false
  r1 : rd (getE v2).f (idxI page 1) = some v1
  p1 : (getE v1).p = true
  b1 : (getE v1).bad = false
  s1 : (getE v1).s = false
def atsA (page root : Int) (v3 : Nat) : List (Int × Int) := [(root, idxI page 3), ((getE v3).f, idxI page 2)]
def atsB (page root : Int) (v3 v2 : Nat) : List (Int × Int) := [(root, idxI page 3), ((getE v3).f, idxI page 2), ((getE v2).f, idxI page 1)]
def pathA (page root : Int) (v3 v2 : Nat) : Pa := ⟨atsA page root v3, (getE v2).f + idxI page 1, (Rg.all.and (ofE (getE v3))).and (ofE (getE v2)), true, (getE v2).d⟩
def pathB (page root : Int) (v3 v2 v1 : Nat) : Pa := ⟨atsB page root v3 v2, (getE v1).f, ((Rg.all.and (ofE (getE v3))).and (ofE (getE v2))).and (ofE (getE v1)), false, (getE v1).d⟩

theorem badE_hi {e : Ent} {lv : Int} (h : lv ≠ 2) : badE e lv = (e.bad || e.s) := by
  have h' : (lv != 2) = true := by simpa using h
  simp [badE, h']
theorem badE_2 {e : Ent} : badE e 2 = (e.bad || (e.s && e.f % 8 != 0)) := by simp [badE]

theorem path_A {v3 v2 : Nat} (h : ChA rd page root v3 v2) : pathP rd page root = .ok (pathA page root v3 v2) := by
  have e3 : stepW rd page root 3 = ⟨3, root, idxI page 3, getE v3, none⟩ := by simp [stepW, h.r3, h.p3, badE_hi, h.b3, h.s3]
  have e2 : stepW rd page (getE v3).f 2 = ⟨2, (getE v3).f, idxI page 2, getE v2, none⟩ := by simp [stepW, h.r2, h.p2, badE_2, h.b2, h.f2]
  have hw : wrap64 ((getE v2).f + idxI page 1) = (getE v2).f + idxI page 1 := by
    have := getE_f v2; have := idxI_range page 1
    unfold wrap64; omega
  simp [pathP, seqW, e3, e2, runW, accP, It.last, h.s3, h.s2, Pa.start, pathA, atsA, hw]
theorem path_B {v3 v2 v1 : Nat} (h : ChB rd page root v3 v2 v1) : pathP rd page root = .ok (pathB page root v3 v2 v1) := by
  have e3 : stepW rd page root 3 = ⟨3, root, idxI page 3, getE v3, none⟩ := by simp [stepW, h.r3, h.p3, badE_hi, h.b3, h.s3]
  have e2 : stepW rd page (getE v3).f 2 = ⟨2, (getE v3).f, idxI page 2, getE v2, none⟩ := by simp [stepW, h.r2, h.p2, badE_2, h.b2, h.s2]
  have e1 : stepW rd page (getE v2).f 1 = ⟨1, (getE v2).f, idxI page 1, getE v1, none⟩ := by simp [stepW, h.r1, h.p1, badE_hi, h.b1, h.s1]
  simp [pathP, seqW, e3, e2, e1, runW, accP, It.last, h.s3, h.s2, h.s1, Pa.start, pathB, atsB]

theorem step_cases (rd : Int → Int → Option Nat) (page g lv : Int) : (stepW rd page g lv = It.bad 0 ∧ rd g (idxI page lv) = none) ∨ (∃ v, rd g (idxI page lv) = some v ∧ (getE v).p = false ∧ stepW rd page g lv = It.bad 1)
    ∨ (∃ v, rd g (idxI page lv) = some v ∧ (getE v).p = true ∧ badE (getE v) lv = true ∧ stepW rd page g lv = It.bad 2)
    ∨ (∃ v, rd g (idxI page lv) = some v ∧ (getE v).p = true ∧ badE (getE v) lv = false ∧ stepW rd page g lv = ⟨lv, g, idxI page lv, getE v, none⟩) := by
  unfold stepW
  cases hr : rd g (idxI page lv) with
  | none => exact .inl ⟨rfl, rfl⟩
  | some v =>
    cases hp : (getE v).p
    · exact .inr (.inl ⟨v, rfl, hp, by simp [hp]⟩)
    · cases hb : badE (getE v) lv
      · exact .inr (.inr (.inr ⟨v, rfl, hp, hb, by simp [hp, hb]⟩))
      · exact .inr (.inr (.inl ⟨v, rfl, hp, hb, by simp [hp, hb]⟩))

theorem path_cases (rd : Int → Int → Option Nat) (page root : Int) : (∃ t, t < 3 ∧ pathP rd page root = .error t) ∨ (∃ v3 v2, ChA rd page root v3 v2) ∨ (∃ v3 v2 v1, ChB rd page root v3 v2 v1) := by
  rcases step_cases rd page root 3 with ⟨e3, _⟩ | ⟨v3, _, _, e3⟩ | ⟨v3, _, _, _, e3⟩ | ⟨v3, r3, p3, b3, e3⟩
  · exact .inl ⟨0, by decide, by simp [pathP, seqW, e3, It.bad, runW]⟩
  · exact .inl ⟨1, by decide, by simp [pathP, seqW, e3, It.bad, runW]⟩
  · exact .inl ⟨2, by decide, by simp [pathP, seqW, e3, It.bad, runW]⟩
  rw [badE_hi (by decide), Bool.or_eq_false_iff] at b3
  rcases step_cases rd page (getE v3).f 2 with ⟨e2, _⟩ | ⟨v2, _, _, e2⟩ | ⟨v2, _, _, _, e2⟩ | ⟨v2, r2, p2, b2, e2⟩
  · exact .inl ⟨0, by decide, by simp [pathP, seqW, e3, e2, It.bad, It.last, b3.2, runW]⟩
  · exact .inl ⟨1, by decide, by simp [pathP, seqW, e3, e2, It.bad, It.last, b3.2, runW]⟩
  · exact .inl ⟨2, by decide, by simp [pathP, seqW, e3, e2, It.bad, It.last, b3.2, runW]⟩
  rw [badE_2, Bool.or_eq_false_iff] at b2
  cases s2 : (getE v2).s with
  | true =>
    refine .inr (.inl ⟨v3, v2, r3, p3, b3.1, b3.2, r2, p2, b2.1, s2, ?_⟩)
    have := b2.2
    rw [s2] at this
    simpa using this
  | false =>
    rcases step_cases rd page (getE v2).f 1 with ⟨e1, _⟩ | ⟨v1, _, _, e1⟩ | ⟨v1, _, _, _, e1⟩ | ⟨v1, r1, p1, b1, e1⟩
    · exact .inl ⟨0, by decide, by simp [pathP, seqW, e3, e2, e1, It.bad, It.last, b3.2, s2, runW]⟩
    · exact .inl ⟨1, by decide, by simp [pathP, seqW, e3, e2, e1, It.bad, It.last, b3.2, s2, runW]⟩
    · exact .inl ⟨2, by decide, by simp [pathP, seqW, e3, e2, e1, It.bad, It.last, b3.2, s2, runW]⟩
    rw [badE_hi (by decide), Bool.or_eq_false_iff] at b1
    exact .inr (.inr ⟨v3, v2, v1, r3, p3, b3.1, b3.2, r2, p2, b2.1, s2, r1, p1, b1.1, b1.2⟩)
end

section
variable {n : Nat} {W L : List Int}
/-- how a walk comes out -/
theorem walk_cases (n : Nat) (W L : List Int) (root page kind : Int) (user : Bool) :
    (∃ t, t < 4 ∧ walkP n W L root page kind user = (Pa.zero, stopOf kind user t)) ∨
    (∃ p, walkP n W L root page kind user = (p, 0, 0) ∧ pathP (rdG n W L) page root = .ok p ∧ mayB p.r kind user = true ∧ p.g < L.length) := by
  unfold walkP
  cases hp : pathP (rdG n W L) page root with
  | error t =>
    refine .inl ⟨t, ?_, rfl⟩
    rcases path_cases (rdG n W L) page root with ⟨t', h, e⟩ | ⟨v3, v2, h⟩ | ⟨v3, v2, v1, h⟩
    · rw [hp] at e; injection e with e; omega
    · rw [path_A h] at hp; cases hp
    · rw [path_B h] at hp; cases hp
  | ok p =>
    unfold grantP
    cases hm : mayB p.r kind user with
    | false => exact .inl ⟨3, by decide, by simp [outP, hm]⟩
    | true =>
      by_cases hg : p.g ≥ L.length
      · exact .inl ⟨0, by decide, by simp [outP, hm, hg]⟩
      · exact .inr ⟨p, by simp only [hm, if_true, if_neg hg, outP], rfl, hm, by omega⟩
theorem walk_of {root page kind : Int} {user : Bool} {p : Pa} (h : pathP (rdG n W L) page root = .ok p) (hm : mayB p.r kind user = true) (hg : p.g < L.length) : walkP n W L root page kind user = (p, 0, 0) := by
  have hg' : ¬ p.g ≥ L.length := by omega
  simp only [walkP, h, grantP, hm, if_true, if_neg hg', outP]
theorem stop_ne (kind : Int) (user : Bool) (t : Nat) : (stopOf kind user t).1 = 1 ∨ (stopOf kind user t).1 = 3 := by
  unfold stopOf; split
  · right; rfl
  · split
    · left; rfl
    · split <;> (left; rfl)
theorem done_of {root page kind : Int} {user : Bool} {p : Pa} {c : Int} (h : walkP n W L root page kind user = (p, 0, c)) : c = 0 ∧ pathP (rdG n W L) page root = .ok p ∧ mayB p.r kind user = true ∧ p.g < L.length := by
  rcases walk_cases n W L root page kind user with ⟨t, _, e⟩ | ⟨q, e, h1, h2, h3⟩
  · rw [e] at h
    have h1 : (stopOf kind user t).1 = 0 := by have := congrArg (fun x : Pa × Int × Int => x.2.1) h; simpa using this
    rcases stop_ne kind user t with h2 | h2 <;> omega
  · rw [e] at h
    injection h with ha hb
    injection hb with _ hc
    subst ha; exact ⟨hc.symm, h1, h2, h3⟩
theorem rdG_some {g i : Int} {v : Nat} (h : rdG n W L g i = some v) : hasG n L g i = true ∧ (getG n W L g i).toNat = v := by
  unfold rdG at h
  split at h
  · rename_i hh; injection h with h; exact ⟨hh, h⟩
  · cases h
theorem rdG_of {g i : Int} (h : hasG n L g i = true) : rdG n W L g i = some (getG n W L g i).toNat := by unfold rdG; rw [if_pos h]
end

end Go.Proofs.YtdfmlodmaipnkaaGreatDoor
