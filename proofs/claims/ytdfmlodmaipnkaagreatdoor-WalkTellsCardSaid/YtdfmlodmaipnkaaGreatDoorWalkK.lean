/-
  Plain facts on walks, for the laws: how they come out.
-/
import Derived.Test.YtdfmlodmaipnkaaGreatDoorWalkM
import Derived.Test.YtdfmlodmaipnkaaGreatDoorWalkS
namespace Go.Proofs.YtdfmlodmaipnkaaGreatDoor
open Go.RowKit

theorem code_range (k : Int) (t th bad : Bool) : 0 ≤ codeN k t th bad ∧ codeN k t th bad < 32 := by
  unfold codeN
  have h1 := pN_le th (c := 1) (by decide)
  have h2 := pN_le (k == 1) (c := 2) (by decide)
  have h3 := pN_le t (c := 4) (by decide)
  have h4 := pN_le (th && bad) (c := 8) (by decide)
  have h5 := pN_le (k == 2) (c := 16) (by decide)
  omega
theorem code_par (k : Int) (t th bad : Bool) : codeN k t th bad % 2 = if th then 1 else 0 := by
  unfold codeN pN
  cases th <;> cases t <;> cases bad <;> cases (k == 1) <;> cases (k == 2) <;> decide
theorem and1 {c : Int} (h0 : 0 ≤ c) (h1 : c < 32) : bits .and .i64 c 1 = c % 2 := by
  obtain ⟨n, rfl⟩ := Int.eq_ofNat_of_zero_le h0
  have h : ∀ n : Fin 32, bits .and .i64 ((n.val : Nat) : Int) 1 = ((n.val : Nat) : Int) % 2 := by decide
  exact h ⟨n, by omega⟩
theorem may_user {r : Rg} {k : Int} (h : mayB r k true = true) : mayB r k false = true := by
  rw [may_of] at h ⊢
  simp only [Bool.and_eq_true] at h
  simpa using h.2
theorem may_load (r : Rg) : mayB r 0 false = true := by rw [may_of]; simp

section
variable {n : Nat} {W L : List Int} {root page : Int}
theorem walk_len {kind : Int} {user : Bool} {P : Pa} {h c : Int} (hr : walkP n W L root page kind user = (P, h, c)) : P.ats.length ≤ 3 := by
  rcases walk_cases n W L root page kind user with ⟨t, _, e⟩ | ⟨q, e, h1, _, _⟩
  · rw [hr] at e; injection e with e _; rw [e]; simp [Pa.zero]
  · rw [hr] at e; injection e with e _; rw [e]
    rcases path_len h1 with h | h <;> omega
theorem walk_zero {kind : Int} {user : Bool} {P : Pa} {h c : Int} (hr : walkP n W L root page kind user = (P, h, c)) (hh : h ≠ 0) : P = Pa.zero ∧ (h = 3 ∧ c = 0 ∨ h = 1 ∧ 0 ≤ c ∧ c < 32) := by
  rcases walk_cases n W L root page kind user with ⟨t, _, e⟩ | ⟨q, e, h1, _, _⟩
  · rw [hr] at e; injection e with e1 e2
    refine ⟨e1, ?_⟩
    unfold stopOf at e2
    split at e2
    · injection e2 with a b; exact .inl ⟨a, b⟩
    · right
      split at e2
      · injection e2 with a b; exact ⟨a, b ▸ (code_range _ _ _ _).1, b ▸ (code_range _ _ _ _).2⟩
      · split at e2
        · injection e2 with a b; exact ⟨a, b ▸ (code_range _ _ _ _).1, b ▸ (code_range _ _ _ _).2⟩
        · injection e2 with a b; exact ⟨a, b ▸ (code_range _ _ _ _).1, b ▸ (code_range _ _ _ _).2⟩
  · rw [hr] at e; injection e with _ e; injection e with e _; exact absurd e hh
theorem walk_out (W : List Int) (page kind : Int) (user : Bool) {root : Int} (h : ¬ (0 ≤ root ∧ root < 16)) : walkP 16 W L16 root page kind user = (Pa.zero, 3, 0) := by
  have hh : hasG 16 L16 root (idxI page 3) = false := by rw [hasG_16]; simp; omega
  have e : stepW (rdG 16 W L16) page root 3 = It.bad 0 := by unfold stepW rdG; rw [hh]; rfl
  have hp : pathP (rdG 16 W L16) page root = .error 0 := by simp [pathP, seqW, e, It.bad, runW]
  unfold walkP; rw [hp]; rfl

theorem stop_ne0 (k : Int) (u : Bool) (t : Nat) : (stopOf k u t).1 ≠ 0 := by
  intro h0
  rcases stop_ne k u t with h | h <;> (rw [h0] at h; cases h)
/-- the three walks of a page, by a user, by the system, for a load -/
theorem kinds (n : Nat) (W L : List Int) (root page k : Int) :
    (∃ P, walkP n W L root page k true = (P, 0, 0) ∧ walkP n W L root page k false = (P, 0, 0) ∧ walkP n W L root page 0 false = (P, 0, 0) ∧ P.ats.length ≤ 3) ∨
    (∃ P h c, walkP n W L root page k true = (Pa.zero, h, c) ∧ h ≠ 0 ∧ walkP n W L root page k false = (P, 0, 0) ∧ walkP n W L root page 0 false = (P, 0, 0) ∧ P.ats.length ≤ 3) ∨
    (∃ P h c h' c', walkP n W L root page k true = (Pa.zero, h, c) ∧ h ≠ 0 ∧ walkP n W L root page k false = (Pa.zero, h', c') ∧ h' ≠ 0 ∧ walkP n W L root page 0 false = (P, 0, 0)) ∨
    (∃ h c h' c' d, walkP n W L root page k true = (Pa.zero, h, c) ∧ h ≠ 0 ∧ walkP n W L root page k false = (Pa.zero, h', c') ∧ h' ≠ 0 ∧ (walkP n W L root page 0 false = (Pa.zero, 3, 0) ∨ walkP n W L root page 0 false = (Pa.zero, 1, d) ∧ bits .and .i64 d 1 = 1)) ∨
    (∃ c c' d, walkP n W L root page k true = (Pa.zero, 1, c) ∧ walkP n W L root page k false = (Pa.zero, 1, c') ∧ walkP n W L root page 0 false = (Pa.zero, 1, d) ∧ bits .and .i64 c 1 = 0 ∧ bits .and .i64 c' 1 = 0 ∧ bits .and .i64 d 1 = 0) := by
  cases hp : pathP (rdG n W L) page root with
  | error t =>
    have hw : ∀ k u, walkP n W L root page k u = (Pa.zero, stopOf k u t) := fun k u => by unfold walkP; rw [hp]; rfl
    have hne : ∀ k u, (stopOf k u t).1 ≠ 0 := fun k u => stop_ne0 k u t
    have ht : t < 3 := by
      rcases path_cases (rdG n W L) page root with ⟨t', h, e⟩ | ⟨v3, v2, h⟩ | ⟨v3, v2, v1, h⟩
      · rw [hp] at e; injection e with e; omega
      · rw [path_A h] at hp; cases hp
      · rw [path_B h] at hp; cases hp
    have par : ∀ k u th b, bits .and .i64 (codeN k u th b) 1 = if th then 1 else 0 := fun k u th b => by rw [and1 (code_range _ _ _ _).1 (code_range _ _ _ _).2, code_par]
    obtain rfl | rfl | rfl : t = 0 ∨ t = 1 ∨ t = 2 := by omega
    · exact .inr (.inr (.inr (.inl ⟨_, _, _, _, 0, hw k true, hne k true, hw k false, hne k false, .inl (hw 0 false)⟩)))
    · exact .inr (.inr (.inr (.inr ⟨_, _, _, hw k true, hw k false, hw 0 false, par _ _ _ _, par _ _ _ _, par _ _ _ _⟩)))
    · exact .inr (.inr (.inr (.inl ⟨_, _, _, _, _, hw k true, hne k true, hw k false, hne k false, .inr ⟨hw 0 false, par _ _ _ _⟩⟩)))
  | ok P =>
    have hlen : P.ats.length ≤ 3 := by rcases path_len hp with h | h <;> omega
    have hstop : ∀ k u, walkP n W L root page k u = (P, 0, 0) ∨ ∃ h c, walkP n W L root page k u = (Pa.zero, h, c) ∧ h ≠ 0 := fun k u => by
      rcases walk_cases n W L root page k u with ⟨t, _, e⟩ | ⟨q, e, h1, _, _⟩
      · exact .inr ⟨(stopOf k u t).1, (stopOf k u t).2, e, stop_ne0 k u t⟩
      · rw [hp] at h1; injection h1 with h1; subst h1; exact .inl e
    by_cases hg : P.g < L.length
    · have h0 := walk_of (kind := 0) (user := false) hp (may_load P.r) hg
      rcases hstop k true with ht | ⟨h, c, ht, hh⟩
      · have := (done_of ht).2.2.1
        exact .inl ⟨P, ht, walk_of hp (may_user this) hg, h0, hlen⟩
      · rcases hstop k false with hf | ⟨h', c', hf, hh'⟩
        · exact .inr (.inl ⟨P, h, c, ht, hh, hf, h0, hlen⟩)
        · exact .inr (.inr (.inl ⟨P, h, c, h', c', ht, hh, hf, hh', h0⟩))
    · have h0 : walkP n W L root page 0 false = (Pa.zero, 3, 0) := by
        have hg' : P.g ≥ L.length := by omega
        unfold walkP; rw [hp]; simp only [grantP, may_load, if_true, if_pos hg', outP]; rfl
      have hz : ∀ k u, ∃ h c, walkP n W L root page k u = (Pa.zero, h, c) ∧ h ≠ 0 := fun k u => by
        rcases hstop k u with h | h
        · exact absurd (done_of h).2.2.2 hg
        · exact h
      obtain ⟨h, c, ht, hh⟩ := hz k true
      obtain ⟨h', c', hf, hh'⟩ := hz k false
      exact .inr (.inr (.inr (.inl ⟨h, c, h', c', 0, ht, hh, hf, hh', .inl h0⟩)))
end

end Go.Proofs.YtdfmlodmaipnkaaGreatDoor
