/-
  Plain facts on choices: no program is walked here.
-/
import Derived.Test.YtgebfagiomcmbaaGreatDoorG10bK
import Derived.Test.YtgebfagiomcmbaaGreatDoorG9bK
namespace Go.Proofs.YtgebfagiomcmbaaGreatDoor
open Go.RowKit

/-- a choice -/
structure Ch where
  fill : Bool
  page : Int
def Ch.cl (c : Ch) : List Value := [.bool c.fill, .int .i64 c.page]
def Ch.v (c : Ch) : Value := .agg #[.bool c.fill, .int .i64 c.page]
instance : Inhabited Ch := ⟨⟨false, 0⟩⟩
def Ch.ok (c : Ch) : Bool := decide (0 ≤ c.page ∧ c.page < 512)
section
variable (n : Nat) (L : List Int)
def stepC (s : Ms) (c : Ch) : Ms := if c.ok then (if c.fill then findM n L s c.page else forgetM s c.page) else s
def didC (s : Ms) (c : Ch) : Bool := c.ok && (if c.fill then findB n L s c.page else hasT s.T 0 c.page)
def appM (s : Ms) (l : List Ch) : Ms := l.foldl (stepC n L) s
def appN : Ms → List Ch → Nat
  | _, [] => 0
  | s, c :: l => (if didC n L s c then 1 else 0) + appN (stepC n L s c) l
end
/-- its bytes -/
def Ch.hi (c : Ch) : Int := c.page / 256 + if c.fill then 128 else 0
def Ch.lo (c : Ch) : Int := c.page % 256
def bytC (l : List Ch) : List Int := l.flatMap fun c => [c.hi, c.lo]
def putC (l : List Ch) : List Int := if l.all Ch.ok then bytC l else []
def unC (a b : Int) : Ch := ⟨decide (128 ≤ a), 256 * (a % 128) + b⟩
def getC : List Int → Option (List Ch)
  | [] => some []
  | [_] => none
  | a :: b :: l => if (unC a b).ok then (getC l).map (unC a b :: ·) else none

section
variable {n : Nat} {L : List Int} {s : Ms}
theorem appM_app (s : Ms) (a b : List Ch) : appM n L s (a ++ b) = appM n L (appM n L s a) b := List.foldl_append
theorem appN_app : ∀ (a : List Ch) (s : Ms) (b : List Ch), appN n L s (a ++ b) = appN n L s a + appN n L (appM n L s a) b
  | [], s, b => by simp [appN, appM]
  | c :: a, s, b => by
    have := appN_app a (stepC n L s c) b
    simp only [List.cons_append, appN, this, appM, List.foldl_cons]
    omega
theorem appM_succ {l : List Ch} {k : Nat} {c : Ch} (hc : l[k]? = some c) : appM n L s (l.take (k + 1)) = stepC n L (appM n L s (l.take k)) c := by
  have hk := (List.getElem?_eq_some_iff.1 hc).1
  have he := (List.getElem?_eq_some_iff.1 hc).2
  rw [List.take_succ_eq_append_getElem hk, he, appM_app]; rfl
theorem appN_succ {l : List Ch} {k : Nat} {c : Ch} (hc : l[k]? = some c) : appN n L s (l.take (k + 1)) = appN n L s (l.take k) + if didC n L (appM n L s (l.take k)) c then 1 else 0 := by
  have hk := (List.getElem?_eq_some_iff.1 hc).1
  have he := (List.getElem?_eq_some_iff.1 hc).2
  rw [List.take_succ_eq_append_getElem hk, he, appN_app]
  simp [appN]
theorem appN_le : ∀ (l : List Ch) (s : Ms), appN n L s l ≤ l.length
  | [], _ => Nat.le_refl _
  | c :: l, s => by
    have := appN_le l (stepC n L s c)
    simp only [appN, List.length_cons]
    split <;> omega
theorem OkM.step (h : OkM n L s) (c : Ch) : OkM n L (stepC n L s c) := by
  unfold stepC
  split
  · split
    · exact h.find _
    · exact h.drop _ _
  · exact h
theorem OkM.app (h : OkM n L s) (l : List Ch) : OkM n L (appM n L s l) := by
  unfold appM
  induction l generalizing s with
  | nil => exact h
  | cons c l ih => exact ih (h.step c)
theorem findM_W (s : Ms) (p : Int) : (findM n L s p).W = s.W ∧ (findM n L s p).r = s.r := by unfold findM; split <;> exact ⟨rfl, rfl⟩
theorem stepC_W (s : Ms) (c : Ch) : (stepC n L s c).W = s.W ∧ (stepC n L s c).r = s.r := by
  unfold stepC; split
  · split
    · exact findM_W _ _
    · exact ⟨rfl, rfl⟩
  · exact ⟨rfl, rfl⟩
/-- what is known: of pages, each once -/
structure Pgs (T : List Ht) : Prop where
  nd : KeyN T
  pg : ∀ x ∈ T, x.a = 0 ∧ 0 ≤ x.p ∧ x.p < 512
theorem Pgs.nil : Pgs [] := ⟨List.Pairwise.nil, by simp⟩
theorem Pgs.drop {T : List Ht} (h : Pgs T) (p : Int) : Pgs (dropT T 0 p) := ⟨h.nd.dropT _ _, fun x hx => h.pg x (by unfold dropT at hx; exact (List.mem_filter.1 hx).1)⟩
theorem Pgs.put {T : List Ht} (h : Pgs T) {x : Ht} (ha : x.a = 0) (h0 : 0 ≤ x.p) (h1 : x.p < 512) : Pgs (putT 512 T x) := ⟨h.nd.putT _, fun y hy => by
  rcases putT_mem hy with hy | rfl
  · exact h.pg y hy
  · exact ⟨ha, h0, h1⟩⟩
theorem drop_count {T : List Ht} (h : KeyN T) (a p : Int) : (dropT T a p).length + (if hasT T a p then 1 else 0) = T.length := by
  induction T with
  | nil => rfl
  | cons x T ih =>
    have hT : KeyN T := (List.pairwise_cons.1 h).2
    have ih := ih hT
    unfold dropT hasT at ih ⊢
    rw [List.filter_cons, List.any_cons]
    cases hx : x.isK a p with
    | true =>
      have e : T.filter (fun h => !h.isK a p) = T := by
        rw [List.filter_eq_self]
        intro y hy
        have := (List.pairwise_cons.1 h).1 y hy
        rw [isK_iff] at hx
        rw [hx.1, hx.2] at this
        rw [this]; rfl
      simp [e]
    | false => simp at ih ⊢; omega
/-- the pages that are known from k on -/
def fromT (T : List Ht) (k : Nat) : List Ht := T.filter fun x => decide ((k : Int) ≤ x.p)
theorem fromT_zero {T : List Ht} (h : Pgs T) : fromT T 0 = T := by
  unfold fromT; rw [List.filter_eq_self]
  intro x hx; have := (h.pg x hx).2.1; simpa using this
theorem fromT_end {T : List Ht} (h : Pgs T) : fromT T 512 = [] := by
  unfold fromT; rw [List.filter_eq_nil_iff]
  intro x hx; have := (h.pg x hx).2.2; simp; omega
theorem Pgs.from_ {T : List Ht} (h : Pgs T) (k : Nat) : Pgs (fromT T k) := ⟨h.nd.sub List.filter_sublist, fun x hx => h.pg x (by unfold fromT at hx; exact (List.mem_filter.1 hx).1)⟩
theorem fromT_drop {T : List Ht} (h : Pgs T) (k : Nat) : dropT (fromT T k) 0 k = fromT T (k + 1) := by
  unfold dropT fromT
  rw [List.filter_filter]
  apply List.filter_congr
  intro x hx
  have ha := (h.pg x hx).1
  by_cases e1 : x.p = k
  · simp [Ht.isK, ha, e1]; omega
  · have e2 : (x.p == (k : Int)) = false := by simpa using e1
    have e3 : decide ((k : Int) ≤ x.p) = decide (((k + 1 : Nat) : Int) ≤ x.p) := by
      apply decide_eq_decide.2; omega
    simp only [Ht.isK, ha, e2, Bool.and_false, Bool.not_false, Bool.true_and]; exact e3
/-- no more than there are pages -/
theorem from_len {T : List Ht} (h : Pgs T) : ∀ k, k ≤ 512 → (fromT T (512 - k)).length ≤ k
  | 0, _ => by rw [fromT_end h]; simp
  | k + 1, hk => by
    have ih := from_len h k (by omega)
    have e := drop_count (h.from_ (512 - (k + 1))).nd 0 ((512 - (k + 1) : Nat) : Int)
    rw [fromT_drop h, show 512 - (k + 1) + 1 = 512 - k by omega] at e
    split at e <;> omega
theorem Pgs.len {T : List Ht} (h : Pgs T) : T.length ≤ 512 := by
  have := from_len h 512 (Nat.le_refl _)
  rw [show 512 - 512 = 0 by rfl, fromT_zero h] at this; exact this
/-- where one is not known there is room -/
theorem Pgs.room {T : List Ht} (h : Pgs T) {p : Int} (h0 : 0 ≤ p) (h1 : p < 512) (hn : hasT T 0 p = false) : T.length < 512 := by
  have hx : hasT T (Ht.mk 0 p 0 false false false false).a (Ht.mk 0 p 0 false false false false).p = false := hn
  have hd : KeyN (T ++ [Ht.mk 0 p 0 false false false false]) := by
    unfold KeyN
    rw [List.pairwise_append]
    refine ⟨h.nd, by simp, fun y hy z hz => ?_⟩
    simp at hz; subst hz
    unfold hasT at hn; rw [List.any_eq_false] at hn
    have := hn y hy
    rw [isK_iff] at this
    rw [Bool.eq_false_iff, Ne, isK_iff]
    exact fun e => this ⟨(h.pg y hy).1, e.2.symm⟩
  have h2 : Pgs (T ++ [Ht.mk 0 p 0 false false false false]) := ⟨hd, fun x hx => by
    rw [List.mem_append] at hx
    rcases hx with hx | hx
    · exact h.pg x hx
    · simp at hx; subst hx; exact ⟨rfl, h0, h1⟩⟩
  have := h2.len
  simp at this; omega
theorem Pgs.findM (h : Pgs s.T) {p : Int} (h0 : 0 ≤ p) (h1 : p < 512) : Pgs (findM n L s p).T := by
  unfold Go.Proofs.YtgebfagiomcmbaaGreatDoor.findM
  split
  · exact h.put rfl h0 h1
  · exact h
theorem Pgs.step (h : Pgs s.T) (c : Ch) : Pgs (stepC n L s c).T := by
  unfold stepC
  split
  · rename_i hk
    unfold Ch.ok at hk
    rw [decide_eq_true_eq] at hk
    split
    · exact h.findM hk.1 hk.2
    · exact h.drop _
  · exact h
theorem Pgs.app (l : List Ch) {s : Ms} (h : Pgs s.T) : Pgs (appM n L s l).T := by
  unfold appM
  induction l generalizing s with
  | nil => exact h
  | cons c l ih => exact ih (h.step c)
theorem Pgs.take (h : Pgs s.T) {pg : Int} (h0 : 0 ≤ pg) (h1 : pg < 512) (k : Int) (u : Bool) : Pgs (takeM n L s pg k u).1.T := by
  unfold takeM freshM
  split
  · exact h
  · split
    · exact (h.drop pg).put rfl h0 h1
    · exact h.drop pg
/-- only accesses: as the laws do them -/
def accsM (n : Nat) (L : List Int) (s : Ms) (l : List OpM) : Ms := l.foldl (fun s o => (accM n L s o.kind o.user o.a o.v).1) s
/-- the states of two models of which the same is known of a page -/
structure SameK (p : Int) (s s' : Ms) : Prop where
  W : s'.W = s.W
  r : s'.r = s.r
  k : Kn p s.T s'.T
theorem SameK.refl (p : Int) (s : Ms) : SameK p s s := ⟨rfl, rfl, Kn.refl _ _⟩
theorem SameK.other {p : Int} {s s' : Ms} (h : SameK p s s') (hp : Pgs s.T) {c : Ch} (hc : c.page ≠ p) : SameK p (stepC n L s c) s' := by
  have hW := stepC_W (n := n) (L := L) s c
  refine ⟨h.W.trans hW.1.symm, h.r.trans hW.2.symm, ?_⟩
  have : Kn p (stepC n L s c).T s.T := by
    have hk : Kn p s.T (stepC n L s c).T := by
      unfold stepC
      split
      · rename_i hok
        unfold Ch.ok at hok; rw [decide_eq_true_eq] at hok
        split
        · unfold findM
          split
          · rename_i hb
            unfold findB at hb
            simp only [Bool.and_eq_true, Bool.not_eq_true'] at hb
            exact kn_put _ _ (hp.room hok.1 hok.2 hb.1.1) hc
          · exact Kn.refl _ _
        · exact kn_drop _ hc
      · exact Kn.refl _ _
    exact ⟨hk.has.symm, hk.get.symm⟩
  exact this.trans h.k
theorem find_eq {s s' : Ms} {p : Int} (h : SameK p s s') : findB n L s' p = findB n L s p := by
  unfold findB
  rw [h.W, h.r, h.k.has]
theorem SameK.same {s s' : Ms} {c : Ch} (h : SameK c.page s s') : SameK c.page (stepC n L s c) (stepC n L s' c) := by
  have hW := stepC_W (n := n) (L := L) s c
  have hW' := stepC_W (n := n) (L := L) s' c
  refine ⟨hW'.1.trans (h.W.trans hW.1.symm), hW'.2.trans (h.r.trans hW.2.symm), ?_⟩
  unfold stepC
  split
  · split
    · unfold findM
      rw [find_eq h, h.W, h.r]
      split
      · have h1 := put_got 512 s.T (hitP c.page (walkP n s.W L s.r c.page 0 false).1 false)
        have h2 := put_got 512 s'.T (hitP c.page (walkP n s.W L s.r c.page 0 false).1 false)
        exact ⟨h2.1.trans h1.1.symm, h2.2.trans h1.2.symm⟩
      · exact h.k
    · simp only [forgetM]
      have h1 := hasT_drop s.T c.page
      have h2 := hasT_drop s'.T c.page
      exact ⟨h2.trans h1.symm, (getT_none h2).trans (getT_none h1).symm⟩
  · exact h.k
end

theorem bytC_len (l : List Ch) : (bytC l).length = 2 * l.length := by
  unfold bytC
  induction l with
  | nil => rfl
  | cons c l ih => simp only [List.flatMap_cons, List.length_append, List.length_cons, List.length_nil] at ih ⊢; omega

end Go.Proofs.YtgebfagiomcmbaaGreatDoor
