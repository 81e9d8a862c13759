/-
  Plain facts on walks, for the laws: what a path tells entry by entry; words turned where a walk does not read.
-/
import Derived.Test.YtdfmlodmaipnkaaDoorWalkM
import Derived.Test.YtdfmlodmaipnkaaDoorWalkS
namespace Go.Proofs.YtdfmlodmaipnkaaDoor
open Go.RowKit

theorem under_1 (a b : Rg) : under (a.and b) b = true := by
  obtain ⟨a1, a2, a3⟩ := a; obtain ⟨b1, b2, b3⟩ := b
  revert a1 a2 a3 b1 b2 b3; decide
theorem under_2 (a b c : Rg) : under ((a.and b).and c) b = true := by
  obtain ⟨a1, a2, a3⟩ := a; obtain ⟨b1, b2, b3⟩ := b; obtain ⟨c1, c2, c3⟩ := c
  revert a1 a2 a3 b1 b2 b3 c1 c2 c3; decide
theorem under_3 (a b c d : Rg) : under (((a.and b).and c).and d) b = true := by
  obtain ⟨a1, a2, a3⟩ := a; obtain ⟨b1, b2, b3⟩ := b; obtain ⟨c1, c2, c3⟩ := c; obtain ⟨d1, d2, d3⟩ := d
  simp only [under, Rg.and, Rg.eqb]
  cases a1 <;> cases a2 <;> cases a3 <;> cases b1 <;> cases b2 <;> cases b3 <;> simp <;> cases c1 <;> cases c2 <;> cases c3 <;> simp
/-- a path's entries: their frames, the rights up to them, their words -/
structure Wi (rd : Int → Int → Option Nat) (page : Int) (r : Rg) (F : Nat → Int) (R : Nat → Rg) (V : Nat → Nat) (ats : List (Int × Int)) (i : Nat) : Prop where
  at_ : ats.getD i (0, 0) = (F i, idxI page (3 - (i : Int)))
  rd_ : rd (F i) (idxI page (3 - (i : Int))) = some (V i)
  p : (getE (V i)).p = true
  bad : (getE (V i)).bad = false
  un : under r (ofE (getE (V i))) = true
  next : F (i + 1) = (getE (V i)).f
  meet : R (i + 1) = (R i).and (ofE (getE (V i)))
theorem path_within {rd : Int → Int → Option Nat} {page root : Int} {p : Pa} (h : pathP rd page root = .ok p) :
    ∃ (F : Nat → Int) (R : Nat → Rg) (V : Nat → Nat), F 0 = root ∧ R 0 = Rg.all ∧ R p.ats.length = p.r ∧ p.g = (if p.large then F p.ats.length + idxI page 1 else F p.ats.length) ∧ ∀ i, i < p.ats.length → Wi rd page p.r F R V p.ats i := by
  rcases path_shape h with ⟨v3, v2, c, rfl⟩ | ⟨v3, v2, v1, c, rfl⟩
  · refine ⟨fun i => match i with | 0 => root | 1 => (getE v3).f | _ => (getE v2).f, fun i => match i with | 0 => Rg.all | 1 => Rg.all.and (ofE (getE v3)) | _ => (Rg.all.and (ofE (getE v3))).and (ofE (getE v2)), fun i => match i with | 0 => v3 | _ => v2, rfl, rfl, rfl, rfl, fun i hi => ?_⟩
    have hi : i < 2 := hi
    obtain rfl | rfl : i = 0 ∨ i = 1 := by omega
    · exact ⟨rfl, c.r3, c.p3, c.b3, under_2 _ _ _, rfl, rfl⟩
    · exact ⟨rfl, c.r2, c.p2, c.b2, under_1 _ _, rfl, rfl⟩
  · refine ⟨fun i => match i with | 0 => root | 1 => (getE v3).f | 2 => (getE v2).f | _ => (getE v1).f, fun i => match i with | 0 => Rg.all | 1 => Rg.all.and (ofE (getE v3)) | 2 => (Rg.all.and (ofE (getE v3))).and (ofE (getE v2)) | _ => ((Rg.all.and (ofE (getE v3))).and (ofE (getE v2))).and (ofE (getE v1)), fun i => match i with | 0 => v3 | 1 => v2 | _ => v1, rfl, rfl, rfl, rfl, fun i hi => ?_⟩
    have hi : i < 3 := hi
    obtain rfl | rfl | rfl : i = 0 ∨ i = 1 ∨ i = 2 := by omega
    · exact ⟨rfl, c.r3, c.p3, c.b3, under_3 _ _ _ _, rfl, rfl⟩
    · exact ⟨rfl, c.r2, c.p2, c.b2, under_2 _ _ _, rfl, rfl⟩
    · exact ⟨rfl, c.r1, c.p1, c.b1, under_1 _ _, rfl, rfl⟩
theorem meet_two (a b : Rg) : meetL [a, b] = a.and b := by simp [meetL, Rg.and]

/-- words that are as they were, where these are -/
structure Kept (l : List (Int × Int)) (W W' : List Int) : Prop where
  wd : WdW W'
  len : W'.length = 8 * 16
  same : ∀ a ∈ l, rdG 16 W' L16 a.1 a.2 = rdG 16 W L16 a.1 a.2
theorem Kept.refl {l : List (Int × Int)} {W : List Int} (h : WdW W) (hl : W.length = 8 * 16) : Kept l W W := ⟨h, hl, fun _ _ => rfl⟩
theorem Kept.set_ {l : List (Int × Int)} {W W' : List Int} (h : Kept l W W') {f i v : Int} (hf : 0 ≤ f ∧ f < 16) (hi : 0 ≤ i ∧ i < 8) (hv : 0 ≤ v ∧ v < 18446744073709551616) (hn : l.any (fun x => decide (x = (f, i))) = false) : Kept l W (setG 16 W' L16 f i v) := by
  refine ⟨h.wd.set_ _ _ _ _ _ hv, by rw [setG_len]; exact h.len, fun a ha => ?_⟩
  rw [rd_set L16_ok.inh (by decide) h.len (by rw [hasG_16]; simp; omega), if_neg, h.same a ha]
  rintro ⟨rfl, rfl⟩
  have := List.any_eq_false.1 hn a ha
  simp at this
theorem Kept.walk {W W' : List Int} {root page kind : Int} {user : Bool} (h : Kept (readsP (rdG 16 W L16) page 3 root) W W') : walkP 16 W' L16 root page kind user = walkP 16 W L16 root page kind user := by
  unfold walkP
  rw [path_reads (rd := rdG 16 W L16) (rd' := rdG 16 W' L16) (fun g i hh => rd_none hh W') h.same]

end Go.Proofs.YtdfmlodmaipnkaaDoor
