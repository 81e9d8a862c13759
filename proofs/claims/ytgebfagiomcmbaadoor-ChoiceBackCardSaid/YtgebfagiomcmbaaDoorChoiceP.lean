/-
  Plain facts on choices: no program is walked here.
-/
import Derived.Test.YtgebfagiomcmbaaDoorG10b
import Derived.Test.YtgebfagiomcmbaaDoorG9b
namespace Go.Proofs.YtgebfagiomcmbaaDoor
open Go.RowKit

/-- a choice -/
structure Ch where
  fill : Bool
  page : Int
def Ch.cl (c : Ch) : List Value := [.bool c.fill, .int .i64 c.page]
def Ch.v (c : Ch) : Value := .agg #[.bool c.fill, .int .i64 c.page]
instance : Inhabited Ch := ⟨⟨false, 0⟩⟩
def Ch.ok (c : Ch) : Bool := decide (0 ≤ c.page ∧ c.page < 512)
section
variable (n : Nat) (L : List Int)
def stepC (s : Ms) (c : Ch) : Ms := if c.ok then (if c.fill then findM n L s c.page else forgetM s c.page) else s
def didC (s : Ms) (c : Ch) : Bool := c.ok && (if c.fill then findB n L s c.page else hasT s.T 0 c.page)
def appM (s : Ms) (l : List Ch) : Ms := l.foldl (stepC n L) s
def appN : Ms → List Ch → Nat
  | _, [] => 0
  | s, c :: l => (if didC n L s c then 1 else 0) + appN (stepC n L s c) l
end
/-- its bytes -/
def Ch.hi (c : Ch) : Int := c.page / 256 + if c.fill then 128 else 0
def Ch.lo (c : Ch) : Int := c.page % 256
def bytC (l : List Ch) : List Int := l.flatMap fun c => [c.hi, c.lo]
def putC (l : List Ch) : List Int := if l.all Ch.ok then bytC l else []
def unC (a b : Int) : Ch := ⟨decide (128 ≤ a), 256 * (a % 128) + b⟩
def getC : List Int → Option (List Ch)
  | [] => some []
  | [_] => none
  | a :: b :: l => if (unC a b).ok then (getC l).map (unC a b :: ·) else none

section
variable {n : Nat} {L : List Int} {s : Ms}
theorem appM_app (s : Ms) (a b : List Ch) : appM n L s (a ++ b) = appM n L (appM n L s a) b := List.foldl_append
theorem appN_app : ∀ (a : List Ch) (s : Ms) (b : List Ch), appN n L s (a ++ b) = appN n L s a + appN n L (appM n L s a) b
  | [], s, b => by simp [appN, appM]
  | c :: a, s, b => by
    have := appN_app a (stepC n L s c) b
    simp only [List.cons_append, appN, this, appM, List.foldl_cons]
    omega
theorem appM_succ {l : List Ch} {k : Nat} {c : Ch} (hc : l[k]? = some c) : appM n L s (l.take (k + 1)) = stepC n L (appM n L s (l.take k)) c := by
  have hk := (List.getElem?_eq_some_iff.1 hc).1
  have he := (List.getElem?_eq_some_iff.1 hc).2
  rw [List.take_succ_eq_append_getElem hk, he, appM_app]; rfl
theorem appN_succ {l : List Ch} {k : Nat} {c : Ch} (hc : l[k]? = some c) : appN n L s (l.take (k + 1)) = appN n L s (l.take k) + if didC n L (appM n L s (l.take k)) c then 1 else 0 := by
  have hk := (List.getElem?_eq_some_iff.1 hc).1
  have he := (List.getElem?_eq_some_iff.1 hc).2
  rw [List.take_succ_eq_append_getElem hk, he, appN_app]
  simp [appN]
theorem appN_le : ∀ (l : List Ch) (s : Ms), appN n L s l ≤ l.length
  | [], _ => Nat.le_refl _
  | c :: l, s => by
    have := appN_le l (stepC n L s c)
    simp only [appN, List.length_cons]
    split <;> omega
theorem OkM.step (h : OkM n L s) (c : Ch) : OkM n L (stepC n L s c) := by
  unfold stepC
  split
  · split
    · exact h.find _
    · exact h.drop _ _
  · exact h
theorem OkM.app (h : OkM n L s) (l : List Ch) : OkM n L (appM n L s l) := by
  unfold appM
  induction l generalizing s with
  | nil => exact h
  | cons c l ih => exact ih (h.step c)
theorem findM_W (s : Ms) (p : Int) : (findM n L s p).W = s.W ∧ (findM n L s p).r = s.r := by unfold findM; split <;> exact ⟨rfl, rfl⟩
theorem stepC_W (s : Ms) (c : Ch) : (stepC n L s c).W = s.W ∧ (stepC n L s c).r = s.r := by
  unfold stepC; split
  · split
    · exact findM_W _ _
    · exact ⟨rfl, rfl⟩
  · exact ⟨rfl, rfl⟩
theorem appM_W (l : List Ch) (s : Ms) : (appM n L s l).W = s.W ∧ (appM n L s l).r = s.r := by
  unfold appM
  induction l generalizing s with
  | nil => exact ⟨rfl, rfl⟩
  | cons c l ih =>
    have h1 := ih (stepC n L s c)
    have h2 := stepC_W (n := n) (L := L) s c
    exact ⟨h1.1.trans h2.1, h1.2.trans h2.2⟩
/-- no more is known than there were Fills besides -/
def fillsC (l : List Ch) : Nat := (l.filter Ch.fill).length
theorem stepC_len (s : Ms) (c : Ch) : (stepC n L s c).T.length ≤ s.T.length + if c.fill then 1 else 0 := by
  unfold stepC
  split
  · split
    · unfold findM; split
      · exact putT_len1 _ _
      · simp
    · have := dropT_len s.T 0 c.page; simp only [forgetM]; omega
  · omega
theorem appM_len (l : List Ch) (s : Ms) : (appM n L s l).T.length ≤ s.T.length + fillsC l := by
  unfold appM fillsC
  induction l generalizing s with
  | nil => simp
  | cons c l ih =>
    have h1 := ih (stepC n L s c)
    have h2 := stepC_len (n := n) (L := L) s c
    rw [List.filter_cons]
    simp only [List.foldl_cons]
    cases hf : c.fill <;> simp [hf] at h2 ⊢ <;> omega
theorem fills_take {l : List Ch} {k : Nat} {c : Ch} (hc : l[k]? = some c) : fillsC (l.take (k + 1)) = fillsC (l.take k) + if c.fill then 1 else 0 := by
  have hk := (List.getElem?_eq_some_iff.1 hc).1
  have he := (List.getElem?_eq_some_iff.1 hc).2
  unfold fillsC
  rw [List.take_succ_eq_append_getElem hk, he, List.filter_append, List.length_append]
  cases hf : c.fill <;> simp [hf]
theorem fills_le (l : List Ch) : fillsC l ≤ l.length := List.length_filter_le _ _

/-- the same twice in a row: the second one does nothing -/
theorem stepC_twice (s : Ms) (c : Ch) : didC n L (stepC n L s c) c = false ∧ stepC n L (stepC n L s c) c = stepC n L s c := by
  unfold didC
  by_cases h : c.ok = true
  · rw [h, Bool.true_and]
    by_cases hf : c.fill = true
    · rw [if_pos hf]
      have e : stepC n L s c = findM n L s c.page := by unfold stepC; rw [if_pos h, if_pos hf]
      have hb : findB n L (findM n L s c.page) c.page = false := by
        cases hb : findB n L s c.page with
        | true =>
          have em : findM n L s c.page = ⟨s.W, s.r, putT 512 s.T (hitP c.page (walkP n s.W L s.r c.page 0 false).1 false)⟩ := by unfold findM; rw [if_pos hb]
          rw [em]; unfold findB
          have := (put_got 512 s.T (hitP c.page (walkP n s.W L s.r c.page 0 false).1 false)).1
          simp only [hitP] at this ⊢
          rw [this]; rfl
        | false =>
          have em : findM n L s c.page = s := by unfold findM; rw [if_neg (by rw [hb]; decide)]
          rw [em]; exact hb
      refine ⟨by rw [e]; exact hb, ?_⟩
      have e2 : ∀ x, stepC n L x c = findM n L x c.page := fun x => by unfold stepC; rw [if_pos h, if_pos hf]
      rw [e2, e]
      generalize findM n L s c.page = x at *
      unfold findM
      rw [if_neg (by rw [hb]; decide)]
    · rw [if_neg hf]
      have e2 : ∀ x, stepC n L x c = forgetM x c.page := fun x => by unfold stepC; rw [if_pos h, if_neg hf]
      rw [e2, e2]
      refine ⟨hasT_drop _ _, ?_⟩
      simp only [forgetM, drop_twice]
  · have e2 : ∀ x, stepC n L x c = x := fun x => by unfold stepC; rw [if_neg h]
    rw [e2, e2]
    simp [h]
theorem app_last (l : List Ch) (c : Ch) (s : Ms) : appN n L (appM n L s (l ++ [c])) [c] = 0 ∧ appM n L (appM n L s (l ++ [c])) [c] = appM n L s (l ++ [c]) := by
  rw [appM_app]
  have h := stepC_twice (n := n) (L := L) (appM n L s l) c
  have e : appM n L (appM n L s l) [c] = stepC n L (appM n L s l) c := rfl
  rw [e]
  exact ⟨by simp only [appN, h.1]; rfl, h.2⟩

/-- what is known: of pages, each once -/
structure Pgs (T : List Ht) : Prop where
  nd : KeyN T
  pg : ∀ x ∈ T, x.a = 0 ∧ 0 ≤ x.p ∧ x.p < 512
theorem Pgs.nil : Pgs [] := ⟨List.Pairwise.nil, by simp⟩
theorem Pgs.drop {T : List Ht} (h : Pgs T) (p : Int) : Pgs (dropT T 0 p) := ⟨h.nd.dropT _ _, fun x hx => h.pg x (by unfold dropT at hx; exact (List.mem_filter.1 hx).1)⟩
theorem Pgs.put {T : List Ht} (h : Pgs T) {x : Ht} (ha : x.a = 0) (h0 : 0 ≤ x.p) (h1 : x.p < 512) : Pgs (putT 512 T x) := ⟨h.nd.putT _, fun y hy => by
  rcases putT_mem hy with hy | rfl
  · exact h.pg y hy
  · exact ⟨ha, h0, h1⟩⟩
theorem drop_count {T : List Ht} (h : KeyN T) (a p : Int) : (dropT T a p).length + (if hasT T a p then 1 else 0) = T.length := by
  induction T with
  | nil => rfl
  | cons x T ih =>
    have hT : KeyN T := (List.pairwise_cons.1 h).2
    have ih := ih hT
    unfold dropT hasT at ih ⊢
    rw [List.filter_cons, List.any_cons]
    cases hx : x.isK a p with
    | true =>
      have e : T.filter (fun h => !h.isK a p) = T := by
        rw [List.filter_eq_self]
        intro y hy
        have := (List.pairwise_cons.1 h).1 y hy
        rw [isK_iff] at hx
        rw [hx.1, hx.2] at this
        rw [this]; rfl
      simp [e]
    | false => simp at ih ⊢; omega
/-- the pages that are known from k on -/
def fromT (T : List Ht) (k : Nat) : List Ht := T.filter fun x => decide ((k : Int) ≤ x.p)
theorem fromT_zero {T : List Ht} (h : Pgs T) : fromT T 0 = T := by
  unfold fromT; rw [List.filter_eq_self]
  intro x hx; have := (h.pg x hx).2.1; simpa using this
theorem fromT_end {T : List Ht} (h : Pgs T) : fromT T 512 = [] := by
  unfold fromT; rw [List.filter_eq_nil_iff]
  intro x hx; have := (h.pg x hx).2.2; simp; omega
theorem Pgs.from_ {T : List Ht} (h : Pgs T) (k : Nat) : Pgs (fromT T k) := ⟨h.nd.sub List.filter_sublist, fun x hx => h.pg x (by unfold fromT at hx; exact (List.mem_filter.1 hx).1)⟩
theorem fromT_drop {T : List Ht} (h : Pgs T) (k : Nat) : dropT (fromT T k) 0 k = fromT T (k + 1) := by
  unfold dropT fromT
  rw [List.filter_filter]
  apply List.filter_congr
  intro x hx
  have ha := (h.pg x hx).1
  by_cases e1 : x.p = k
  · simp [Ht.isK, ha, e1]; omega
  · have e2 : (x.p == (k : Int)) = false := by simpa using e1
    have e3 : decide ((k : Int) ≤ x.p) = decide (((k + 1 : Nat) : Int) ≤ x.p) := by
      apply decide_eq_decide.2; omega
    simp only [Ht.isK, ha, e2, Bool.and_false, Bool.not_false, Bool.true_and]; exact e3
/-- no more than there are pages -/
theorem from_len {T : List Ht} (h : Pgs T) : ∀ k, k ≤ 512 → (fromT T (512 - k)).length ≤ k
  | 0, _ => by rw [fromT_end h]; simp
  | k + 1, hk => by
    have ih := from_len h k (by omega)
    have e := drop_count (h.from_ (512 - (k + 1))).nd 0 ((512 - (k + 1) : Nat) : Int)
    rw [fromT_drop h, show 512 - (k + 1) + 1 = 512 - k by omega] at e
    split at e <;> omega
theorem Pgs.len {T : List Ht} (h : Pgs T) : T.length ≤ 512 := by
  have := from_len h 512 (Nat.le_refl _)
  rw [show 512 - 512 = 0 by rfl, fromT_zero h] at this; exact this
/-- where one is not known there is room -/
theorem Pgs.room {T : List Ht} (h : Pgs T) {p : Int} (h0 : 0 ≤ p) (h1 : p < 512) (hn : hasT T 0 p = false) : T.length < 512 := by
  have hx : hasT T (Ht.mk 0 p 0 false false false false).a (Ht.mk 0 p 0 false false false false).p = false := hn
  have hd : KeyN (T ++ [Ht.mk 0 p 0 false false false false]) := by
    unfold KeyN
    rw [List.pairwise_append]
    refine ⟨h.nd, by simp, fun y hy z hz => ?_⟩
    simp at hz; subst hz
    unfold hasT at hn; rw [List.any_eq_false] at hn
    have := hn y hy
    rw [isK_iff] at this
    rw [Bool.eq_false_iff, Ne, isK_iff]
    exact fun e => this ⟨(h.pg y hy).1, e.2.symm⟩
  have h2 : Pgs (T ++ [Ht.mk 0 p 0 false false false false]) := ⟨hd, fun x hx => by
    rw [List.mem_append] at hx
    rcases hx with hx | hx
    · exact h.pg x hx
    · simp at hx; subst hx; exact ⟨rfl, h0, h1⟩⟩
  have := h2.len
  simp at this; omega
theorem Pgs.findM (h : Pgs s.T) {p : Int} (h0 : 0 ≤ p) (h1 : p < 512) : Pgs (findM n L s p).T := by
  unfold Go.Proofs.YtgebfagiomcmbaaDoor.findM
  split
  · exact h.put rfl h0 h1
  · exact h
theorem Pgs.step (h : Pgs s.T) (c : Ch) : Pgs (stepC n L s c).T := by
  unfold stepC
  split
  · rename_i hk
    unfold Ch.ok at hk
    rw [decide_eq_true_eq] at hk
    split
    · exact h.findM hk.1 hk.2
    · exact h.drop _
  · exact h
theorem Pgs.app (l : List Ch) {s : Ms} (h : Pgs s.T) : Pgs (appM n L s l).T := by
  unfold appM
  induction l generalizing s with
  | nil => exact h
  | cons c l ih => exact ih (h.step c)
theorem Pgs.take (h : Pgs s.T) {pg : Int} (h0 : 0 ≤ pg) (h1 : pg < 512) (k : Int) (u : Bool) : Pgs (takeM n L s pg k u).1.T := by
  unfold takeM freshM
  split
  · exact h
  · split
    · exact (h.drop pg).put rfl h0 h1
    · exact h.drop pg
theorem Pgs.acc (h : Pgs s.T) (k : Int) (u : Bool) (a : Nat) (v : Int) : Pgs (accM n L s k u a v).1.T := by
  unfold accM
  split
  · split
    · rw [goOn_T]; exact h.take (by omega) (by unfold pageN; omega) _ _
    · exact h
  · exact h

/-- only accesses: as the laws do them -/
def accsM (n : Nat) (L : List Int) (s : Ms) (l : List OpM) : Ms := l.foldl (fun s o => (accM n L s o.kind o.user o.a o.v).1) s
theorem accsM_succ {l : List OpM} {k : Nat} {o : OpM} (ho : l[k]? = some o) : accsM n L s (l.take (k + 1)) = (accM n L (accsM n L s (l.take k)) o.kind o.user o.a o.v).1 := by
  have hk := (List.getElem?_eq_some_iff.1 ho).1
  have he := (List.getElem?_eq_some_iff.1 ho).2
  rw [List.take_succ_eq_append_getElem hk, he]
  simp [accsM, List.foldl_append]
theorem Pgs.accs (l : List OpM) {s : Ms} (h : Pgs s.T) : Pgs (accsM n L s l).T := by
  unfold accsM
  induction l generalizing s with
  | nil => exact h
  | cons o l ih => exact ih (h.acc _ _ _ _)
theorem accsM_r (l : List OpM) (s : Ms) : (accsM n L s l).r = s.r := by
  unfold accsM
  induction l generalizing s with
  | nil => rfl
  | cons o l ih => exact (ih _).trans (acc_r _ _ _ _ _)

/-- the states of two models of which the same is known of a page -/
structure SameK (p : Int) (s s' : Ms) : Prop where
  W : s'.W = s.W
  r : s'.r = s.r
  k : Kn p s.T s'.T
theorem SameK.refl (p : Int) (s : Ms) : SameK p s s := ⟨rfl, rfl, Kn.refl _ _⟩
theorem SameK.other {p : Int} {s s' : Ms} (h : SameK p s s') (hp : Pgs s.T) {c : Ch} (hc : c.page ≠ p) : SameK p (stepC n L s c) s' := by
  have hW := stepC_W (n := n) (L := L) s c
  refine ⟨h.W.trans hW.1.symm, h.r.trans hW.2.symm, ?_⟩
  have : Kn p (stepC n L s c).T s.T := by
    have hk : Kn p s.T (stepC n L s c).T := by
      unfold stepC
      split
      · rename_i hok
        unfold Ch.ok at hok; rw [decide_eq_true_eq] at hok
        split
        · unfold findM
          split
          · rename_i hb
            unfold findB at hb
            simp only [Bool.and_eq_true, Bool.not_eq_true'] at hb
            exact kn_put _ _ (hp.room hok.1 hok.2 hb.1.1) hc
          · exact Kn.refl _ _
        · exact kn_drop _ hc
      · exact Kn.refl _ _
    exact ⟨hk.has.symm, hk.get.symm⟩
  exact this.trans h.k
theorem find_eq {s s' : Ms} {p : Int} (h : SameK p s s') : findB n L s' p = findB n L s p := by
  unfold findB
  rw [h.W, h.r, h.k.has]
theorem SameK.same {s s' : Ms} {c : Ch} (h : SameK c.page s s') : SameK c.page (stepC n L s c) (stepC n L s' c) := by
  have hW := stepC_W (n := n) (L := L) s c
  have hW' := stepC_W (n := n) (L := L) s' c
  refine ⟨hW'.1.trans (h.W.trans hW.1.symm), hW'.2.trans (h.r.trans hW.2.symm), ?_⟩
  unfold stepC
  split
  · split
    · unfold findM
      rw [find_eq h, h.W, h.r]
      split
      · have h1 := put_got 512 s.T (hitP c.page (walkP n s.W L s.r c.page 0 false).1 false)
        have h2 := put_got 512 s'.T (hitP c.page (walkP n s.W L s.r c.page 0 false).1 false)
        exact ⟨h2.1.trans h1.1.symm, h2.2.trans h1.2.symm⟩
      · exact h.k
    · simp only [forgetM]
      have h1 := hasT_drop s.T c.page
      have h2 := hasT_drop s'.T c.page
      exact ⟨h2.trans h1.symm, (getT_none h2).trans (getT_none h1).symm⟩
  · exact h.k
/-- those of one page -/
def ownC (p : Int) (l : List Ch) : List Ch := l.filter fun c => c.page == p
theorem own_same {p : Int} : ∀ (l : List Ch) {s s' : Ms}, SameK p s s' → Pgs s.T → SameK p (appM n L s l) (appM n L s' (ownC p l))
  | [], _, _, h, _ => h
  | c :: l, s, s', h, hp => by
    unfold ownC
    rw [List.filter_cons]
    by_cases hc : c.page = p
    · subst hc
      simp only [beq_self_eq_true, if_true]
      exact own_same l (h.same) (hp.step c)
    · rw [if_neg (by simpa using hc)]
      exact own_same l (h.other hp hc) (hp.step c)
theorem own_succ {p : Int} {l : List Ch} {k : Nat} {c : Ch} (hc : l[k]? = some c) : ownC p (l.take (k + 1)) = ownC p (l.take k) ++ if c.page = p then [c] else [] := by
  have hk := (List.getElem?_eq_some_iff.1 hc).1
  have he := (List.getElem?_eq_some_iff.1 hc).2
  unfold ownC
  rw [List.take_succ_eq_append_getElem hk, he, List.filter_append]
  congr 1
  by_cases h : c.page = p <;> simp [h]

/-- all pages are dropped -/
def dropsC (k : Nat) : List Ch := (List.range k).map fun j : Nat => Ch.mk false (j : Int)
theorem dropsC_succ (k : Nat) : dropsC (k + 1) = dropsC k ++ [⟨false, (k : Int)⟩] := by simp [dropsC, List.range_succ]
theorem dropsC_len (k : Nat) : (dropsC k).length = k := by simp [dropsC]
theorem drops_app {s : Ms} (h : Pgs s.T) : ∀ k, k ≤ 512 → appM n L s (dropsC k) = ⟨s.W, s.r, fromT s.T k⟩ ∧ appN n L s (dropsC k) + (fromT s.T k).length = s.T.length
  | 0, _ => by
    have h0 := fromT_zero h
    constructor
    · show s = _
      rw [h0]
    · show 0 + _ = _
      rw [h0]; omega
  | k + 1, hk => by
    obtain ⟨h1, h2⟩ := drops_app h k (by omega)
    have hok : (Ch.mk false (k : Int)).ok = true := by unfold Ch.ok; rw [decide_eq_true_eq]; simp only; omega
    have e := drop_count (h.from_ k).nd 0 (k : Int)
    rw [fromT_drop h] at e
    rw [dropsC_succ, appM_app, appN_app, h1]
    constructor
    · simp only [appM, List.foldl_cons, List.foldl_nil, stepC, hok, if_true, forgetM]
      rw [fromT_drop h]; simp
    · simp only [appN, didC, hok, Bool.true_and]
      simp only [Bool.false_eq_true, if_false]
      omega
theorem drops_all {s : Ms} (h : Pgs s.T) : appM n L s (dropsC 512) = ⟨s.W, s.r, []⟩ ∧ appN n L s (dropsC 512) = s.T.length := by
  have := drops_app (n := n) (L := L) h 512 (Nat.le_refl _)
  rw [fromT_end h] at this
  exact ⟨this.1, by have := this.2; simpa using this⟩
/-- a Fill behind a Drop of the same page -/
theorem refill {s : Ms} {p : Int} (h0 : 0 ≤ p) (h1 : p < 512) :
    appN n L s [⟨false, p⟩, ⟨true, p⟩] = (if hasT s.T 0 p then 1 else 0) + (if findB n L ⟨s.W, s.r, []⟩ p then 1 else 0) ∧
    hasT (appM n L s [⟨false, p⟩, ⟨true, p⟩]).T 0 p = findB n L ⟨s.W, s.r, []⟩ p ∧
    getT (appM n L s [⟨false, p⟩, ⟨true, p⟩]).T 0 p = getT (findM n L ⟨s.W, s.r, []⟩ p).T 0 p ∧ hasT (findM n L ⟨s.W, s.r, []⟩ p).T 0 p = findB n L ⟨s.W, s.r, []⟩ p := by
  have hok : ∀ f, (Ch.mk f p).ok = true := fun f => by unfold Ch.ok; rw [decide_eq_true_eq]; exact ⟨h0, h1⟩
  have eb : findB n L (forgetM s p) p = findB n L ⟨s.W, s.r, []⟩ p := by
    unfold findB forgetM
    simp only [hasT_drop]; rfl
  simp only [appN, appM, List.foldl_cons, List.foldl_nil, didC, stepC, hok, if_true, Bool.true_and, Bool.false_eq_true, if_false, Nat.add_zero]
  refine ⟨by rw [eb], ?_⟩
  cases hb : findB n L ⟨s.W, s.r, []⟩ p with
  | true =>
    have e1 : findM n L (forgetM s p) p = ⟨s.W, s.r, putT 512 (dropT s.T 0 p) (hitP p (walkP n s.W L s.r p 0 false).1 false)⟩ := by unfold findM; rw [eb, hb]; rfl
    have e2 : findM n L ⟨s.W, s.r, []⟩ p = ⟨s.W, s.r, putT 512 [] (hitP p (walkP n s.W L s.r p 0 false).1 false)⟩ := by unfold findM; rw [hb]; rfl
    rw [e1, e2]
    have h1 := put_got 512 (dropT s.T 0 p) (hitP p (walkP n s.W L s.r p 0 false).1 false)
    have h2 := put_got 512 [] (hitP p (walkP n s.W L s.r p 0 false).1 false)
    exact ⟨h1.1, h1.2.trans h2.2.symm, h2.1⟩
  | false =>
    have e1 : findM n L (forgetM s p) p = forgetM s p := by unfold findM; rw [eb, hb]; rfl
    have e2 : findM n L ⟨s.W, s.r, []⟩ p = ⟨s.W, s.r, []⟩ := by unfold findM; rw [hb]; rfl
    rw [e1, e2]
    have h1 := hasT_drop s.T p
    exact ⟨h1, (getT_none h1).trans (getT_none rfl).symm, rfl⟩
end

/-! ### bytes -/
theorem unC_of {c : Ch} (h : c.ok = true) : unC c.hi c.lo = c := by
  unfold Ch.ok at h; rw [decide_eq_true_eq] at h
  obtain ⟨f, p⟩ := c
  simp only at h
  unfold unC Ch.hi Ch.lo
  cases f
  · simp only [Bool.false_eq_true, if_false]
    have : decide (128 ≤ p / 256 + 0) = false := decide_eq_false (by omega)
    rw [this]; congr 1; omega
  · simp only [if_true]
    have : decide (128 ≤ p / 256 + 128) = true := decide_eq_true (by omega)
    rw [this]; congr 1; omega
theorem getC_byt : ∀ {l : List Ch}, l.all Ch.ok = true → getC (bytC l) = some l
  | [], _ => rfl
  | c :: l, h => by
    rw [List.all_cons, Bool.and_eq_true] at h
    show getC (c.hi :: c.lo :: bytC l) = _
    rw [getC, unC_of h.1, if_pos h.1, getC_byt h.2]; rfl
theorem hi_of {a b : Int} (h0 : 0 ≤ a) (h1 : a < 256) (b0 : 0 ≤ b) (b1 : b < 256) (_h : (unC a b).ok = true) : (unC a b).hi = a ∧ (unC a b).lo = b := by
  unfold Ch.hi Ch.lo unC
  simp only [decide_eq_true_eq]
  split <;> constructor <;> omega
theorem byt_getC : ∀ {b : List Int} {l : List Ch}, (∀ x ∈ b, 0 ≤ x ∧ x < 256) → getC b = some l → l.all Ch.ok = true ∧ bytC l = b
  | [], l, _, h => by
    simp [getC] at h; subst h; exact ⟨rfl, rfl⟩
  | [_], _, _, h => by simp [getC] at h
  | a :: b :: t, l, hb, h => by
    rw [getC] at h
    split at h
    · rename_i hk
      cases hg : getC t with
      | none => rw [hg] at h; simp at h
      | some m =>
        rw [hg] at h
        simp at h; subst h
        obtain ⟨h1, h2⟩ := byt_getC (fun x hx => hb x (by simp [hx])) hg
        have ha := hb a (by simp)
        have hb' := hb b (by simp)
        have hh := hi_of ha.1 ha.2 hb'.1 hb'.2 hk
        refine ⟨by rw [List.all_cons, hk, h1]; rfl, ?_⟩
        show (unC a b).hi :: (unC a b).lo :: bytC m = _
        rw [hh.1, hh.2, h2]
    · exact absurd h (by simp)
theorem bytC_len (l : List Ch) : (bytC l).length = 2 * l.length := by
  unfold bytC
  induction l with
  | nil => rfl
  | cons c l ih => simp only [List.flatMap_cons, List.length_append, List.length_cons, List.length_nil] at ih ⊢; omega

end Go.Proofs.YtgebfagiomcmbaaDoor
