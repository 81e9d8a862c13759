/-
  Plain facts on walks, for the laws: what marks do, and what another frame in the last entry does.
-/
import Derived.Test.YtdfmlodmaipnkaaGreatDoorWalkL
namespace Go.Proofs.YtdfmlodmaipnkaaGreatDoor
open Go.RowKit

section
variable {n : Nat} {W L : List Int} {ats : List (Int × Int)}
theorem allAts_get (h : allAts n L ats = true) {k : Nat} (hk : k < ats.length) : hasG n L (ats.getD k (0, 0)).1 (ats.getD k (0, 0)).2 = true := by
  have hm : ats.getD k (0, 0) ∈ ats := by
    simp only [List.getD_eq_getElem?_getD, List.getElem?_eq_getElem hk, Option.getD_some]; exact List.getElem_mem hk
  exact List.all_eq_true.1 h _ hm
theorem markTo_at (h : InH n L) (hd : L.Nodup) (hW : W.length = 8 * n) (hall : allAts n L ats = true) (t : Bool) : ∀ k, k ≤ ats.length → ∀ g i, hasG n L g i = true →
    Mk (getG n W L g i).toNat (getG n (markTo n L ats t W k) L g i).toNat ∧ ((∀ j, j < k → ats.getD j (0, 0) ≠ (g, i)) → getG n (markTo n L ats t W k) L g i = getG n W L g i) ∧
    ∀ j, j < k → ats.getD j (0, 0) = (g, i) → (getE (getG n (markTo n L ats t W k) L g i).toNat).a = true
  | 0, _, g, i, _ => ⟨Mk.refl _, fun _ => rfl, fun j hj => by omega⟩
  | k + 1, hk, g, i, hg => by
    obtain ⟨i1, i2, i3⟩ := markTo_at h hd hW hall t k (by omega) g i hg
    have hat := allAts_get hall (show k < ats.length by omega)
    have hlen : (markTo n L ats t W k).length = 8 * n := (markTo_len n L ats t W k).trans hW
    rw [markTo, get_set h hd hlen hat hg]
    by_cases e : (ats.getD k (0, 0)).1 = g ∧ (ats.getD k (0, 0)).2 = i
    · have ep : ats.getD k (0, 0) = (g, i) := by rw [← e.1, ← e.2]
      rw [if_pos e, ep]
      refine ⟨?_, fun hne => absurd ep (hne k (by omega)), fun j _ _ => ?_⟩
      · rw [Int.toNat_natCast]; exact i1.trans (Mk.used _ _)
      · rw [Int.toNat_natCast]; exact used_a _ _
    · rw [if_neg e]
      refine ⟨i1, fun hne => i2 fun j hj => hne j (by omega), fun j hj ej => ?_⟩
      refine i3 j ?_ ej
      rcases Nat.lt_or_ge j k with h' | h'
      · exact h'
      · obtain rfl : j = k := by omega
        rw [ej] at e; exact absurd ⟨rfl, rfl⟩ e
theorem markTo_last (h : InH n L) (hd : L.Nodup) (hW : W.length = 8 * n) (hall : allAts n L ats = true) (t : Bool) {k : Nat} (hk : k + 1 = ats.length) (hne : ∀ j, j < k → ats.getD j (0, 0) ≠ ats.getD k (0, 0)) :
    getG n (markTo n L ats t W ats.length) L (ats.getD k (0, 0)).1 (ats.getD k (0, 0)).2 = usedN (getG n W L (ats.getD k (0, 0)).1 (ats.getD k (0, 0)).2).toNat t := by
  have hat := allAts_get hall (show k < ats.length by omega)
  have hlen : (markTo n L ats t W k).length = 8 * n := (markTo_len n L ats t W k).trans hW
  obtain ⟨_, i2, _⟩ := markTo_at h hd hW hall t k (by omega) _ _ hat
  rw [← hk, markTo, get_set h hd hlen hat hat, if_pos ⟨rfl, rfl⟩, i2 hne]
  simp [hk]
theorem used_all (h : InH n L) (hd : L.Nodup) (hW : W.length = 8 * n) (hall : allAts n L ats = true) (t : Bool) : usedAts n (markTo n L ats t W ats.length) L ats = true := by
  unfold usedAts
  rw [List.all_eq_true]
  intro a ha
  obtain ⟨j, hj, rfl⟩ := List.getElem_of_mem ha
  have hat := List.all_eq_true.1 hall _ ha
  obtain ⟨_, _, i3⟩ := markTo_at h hd hW hall t ats.length (Nat.le_refl _) _ _ hat
  rw [hat, i3 j hj (by simp [List.getD_eq_getElem?_getD, List.getElem?_eq_getElem hj])]
  rfl
end

section
variable {rd rd' : Int → Int → Option Nat} {page root : Int} {n : Nat} {W L : List Int}
def lastP (p : Pa) : Int × Int := p.ats.getD (p.ats.length - 1) (0, 0)
/-- a path's shape -/
theorem path_shape {p : Pa} (h : pathP rd page root = .ok p) : (∃ v3 v2, ChA rd page root v3 v2 ∧ p = pathA page root v3 v2) ∨ (∃ v3 v2 v1, ChB rd page root v3 v2 v1 ∧ p = pathB page root v3 v2 v1) := by
  rcases path_cases rd page root with ⟨t', _, e⟩ | ⟨v3, v2, c⟩ | ⟨v3, v2, v1, c⟩
  · rw [e] at h; cases h
  · rw [path_A c] at h; injection h with h; exact .inl ⟨v3, v2, c, h.symm⟩
  · rw [path_B c] at h; injection h with h; exact .inr ⟨v3, v2, v1, c, h.symm⟩
theorem path_len {p : Pa} (h : pathP rd page root = .ok p) : (p.large = true ∧ p.ats.length = 2) ∨ (p.large = false ∧ p.ats.length = 3) := by
  rcases path_shape h with ⟨v3, v2, c, rfl⟩ | ⟨v3, v2, v1, c, rfl⟩
  · exact .inl ⟨rfl, rfl⟩
  · exact .inr ⟨rfl, rfl⟩
theorem path_has {p : Pa} (h : pathP (rdG n W L) page root = .ok p) : allAts n L p.ats = true := by
  rcases path_shape h with ⟨v3, v2, c, rfl⟩ | ⟨v3, v2, v1, c, rfl⟩
  · simp [pathA, atsA, allAts, (rdG_some c.r3).1, (rdG_some c.r2).1]
  · simp [pathB, atsB, allAts, (rdG_some c.r3).1, (rdG_some c.r2).1, (rdG_some c.r1).1]
theorem path_g0 {p : Pa} (h : pathP rd page root = .ok p) : 0 ≤ p.g := by
  rcases path_shape h with ⟨v3, v2, c, rfl⟩ | ⟨v3, v2, v1, c, rfl⟩
  · have h1 := getE_f v2
    have h2 := idxI_range page 1
    simp only [pathA]; omega
  · exact (getE_f v1).1
/-- with marked words it is the same path, but that it may be told to be written to -/
theorem path_mk {p : Pa} (h : pathP rd page root = .ok p) (hm : ∀ g i v, rd g i = some v → ∃ v', rd' g i = some v' ∧ Mk v v') :
    ∃ v v', rd (lastP p).1 (lastP p).2 = some v ∧ rd' (lastP p).1 (lastP p).2 = some v' ∧ p.dirty = (getE v).d ∧ pathP rd' page root = .ok { p with dirty := (getE v').d } := by
  rcases path_shape h with ⟨v3, v2, c, rfl⟩ | ⟨v3, v2, v1, c, rfl⟩
  · obtain ⟨v3', r3, m3⟩ := hm _ _ _ c.r3
    obtain ⟨v2', r2, m2⟩ := hm _ _ _ c.r2
    obtain ⟨a1, a2, a3, a4, a5, a6, a7⟩ := m3.e
    obtain ⟨b1, b2, b3, b4, b5, b6, b7⟩ := m2.e
    have c' : ChA rd' page root v3' v2' := ⟨r3, a1.trans c.p3, a6.trans c.b3, a4.trans c.s3, by rw [a7]; exact r2, b1.trans c.p2, b6.trans c.b2, b4.trans c.s2, by rw [b7]; exact c.f2⟩
    refine ⟨v2, v2', c.r2, r2, rfl, ?_⟩
    rw [path_A c']
    simp [pathA, atsA, m3.of_, m2.of_, a7, b7]
  · obtain ⟨v3', r3, m3⟩ := hm _ _ _ c.r3
    obtain ⟨v2', r2, m2⟩ := hm _ _ _ c.r2
    obtain ⟨v1', r1, m1⟩ := hm _ _ _ c.r1
    obtain ⟨a1, a2, a3, a4, a5, a6, a7⟩ := m3.e
    obtain ⟨b1, b2, b3, b4, b5, b6, b7⟩ := m2.e
    obtain ⟨d1, d2, d3, d4, d5, d6, d7⟩ := m1.e
    have c' : ChB rd' page root v3' v2' v1' := ⟨r3, a1.trans c.p3, a6.trans c.b3, a4.trans c.s3, by rw [a7]; exact r2, b1.trans c.p2, b6.trans c.b2, b4.trans c.s2, by rw [b7]; exact r1, d1.trans c.p1, d6.trans c.b1, d4.trans c.s1⟩
    refine ⟨v1, v1', c.r1, r1, rfl, ?_⟩
    rw [path_B c']
    simp [pathB, atsB, m3.of_, m2.of_, m1.of_, a7, b7, d7]
/-- with another frame in the last entry, that stands in no other place of it -/
theorem path_move {p : Pa} (h : pathP rd page root = .ok p) (htw : ∀ j, j + 1 < p.ats.length → p.ats.getD j (0, 0) ≠ lastP p) (hrd : ∀ g i, (g, i) ≠ lastP p → rd' g i = rd g i) {v f : Nat} (hv : rd (lastP p).1 (lastP p).2 = some v)
    (hv' : rd' (lastP p).1 (lastP p).2 = some (moveN v f)) (hf : f < 16) (h8 : p.large = true → f % 8 = 0) :
    pathP rd' page root = .ok { p with g := if p.large then f + idxI page 1 else f } := by
  have em := getE_move (v := v) hf
  rcases path_shape h with ⟨v3, v2, c, rfl⟩ | ⟨v3, v2, v1, c, rfl⟩
  · have n0 := htw 0 (by simp [pathA, atsA, pathB, atsB])
    obtain rfl : v2 = v := by have := c.r2.symm.trans hv; injection this
    have r3 : rd' root (idxI page 3) = some v3 := (hrd _ _ n0).trans c.r3
    have hf8 : ((f : Int)) % 8 = 0 := by have := h8 rfl; omega
    have c' : ChA rd' page root v3 (moveN v2 f) := ⟨r3, c.p3, c.b3, c.s3, hv', by rw [em]; exact c.p2, by rw [em]; exact c.b2, by rw [em]; exact c.s2, by rw [em]; exact hf8⟩
    rw [path_A c']
    simp [pathA, atsA, em, ofE]
  · have n0 := htw 0 (by simp [pathA, atsA, pathB, atsB])
    have n1 := htw 1 (by simp [pathB, atsB])
    obtain rfl : v1 = v := by have := c.r1.symm.trans hv; injection this
    have r3 : rd' root (idxI page 3) = some v3 := (hrd _ _ n0).trans c.r3
    have r2 : rd' (getE v3).f (idxI page 2) = some v2 := (hrd _ _ n1).trans c.r2
    have c' : ChB rd' page root v3 v2 (moveN v1 f) := ⟨r3, c.p3, c.b3, c.s3, r2, c.p2, c.b2, c.s2, hv', by rw [em]; exact c.p1, by rw [em]; exact c.b1, by rw [em]; exact c.s1⟩
    rw [path_B c']
    simp [pathB, atsB, em, ofE]
/-- another page of a large page -/
theorem path_large {p : Pa} (h : pathP rd page root = .ok p) (hl : p.large = true) {page' : Int} (h3 : idxI page' 3 = idxI page 3) (h2 : idxI page' 2 = idxI page 2) :
    pathP rd page' root = .ok { p with g := p.g - idxI page 1 + idxI page' 1 } ∧ (p.g - idxI page 1) % 8 = 0 := by
  rcases path_shape h with ⟨v3, v2, c, rfl⟩ | ⟨v3, v2, v1, c, rfl⟩
  · have c' : ChA rd page' root v3 v2 := ⟨by rw [h3]; exact c.r3, c.p3, c.b3, c.s3, by rw [h2]; exact c.r2, c.p2, c.b2, c.s2, c.f2⟩
    have hf := c.f2
    rw [path_A c']
    refine ⟨?_, by simp only [pathA]; omega⟩
    simp only [pathA, atsA, h3, h2]
    rw [show (getE v2).f + idxI page 1 - idxI page 1 + idxI page' 1 = (getE v2).f + idxI page' 1 by omega]
  · cases hl
end

end Go.Proofs.YtdfmlodmaipnkaaGreatDoor
