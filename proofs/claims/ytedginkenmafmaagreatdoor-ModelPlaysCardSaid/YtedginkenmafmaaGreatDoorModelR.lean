/-
  Plain facts on models, for the laws: an access done again; what is known.
-/
import Derived.Test.YtedginkenmafmaaGreatDoorModelQ
namespace Go.Proofs.YtedginkenmafmaaGreatDoor
open Go.RowKit

section
variable {n : Nat} {L : List Int} {s : Ms}
theorem setW_twice (n : Nat) (W : List Int) (f i v v' : Int) : setW n (setW n W f i v) f i v' = setW n W f i v' := by
  unfold setW; split
  · rw [List.set_set]
  · rfl
theorem setG_twice (n : Nat) (W L : List Int) (g i v v' : Int) : setG n (setG n W L g i v) L g i v' = setG n W L g i v' := by
  unfold setG; split
  · exact setW_twice _ _ _ _ _ _
  · rfl
theorem hasT_drop (T : List Ht) (pg : Int) : hasT (dropT T 0 pg) 0 pg = false := ((tells_self T pg).drop_mine Ht.zero).1
theorem drop_twice (T : List Ht) (a pg : Int) : dropT (dropT T a pg) a pg = dropT T a pg := by simp [dropT, List.filter_filter]
/-- what is put last is got -/
theorem put_got (most : Nat) (T : List Ht) (x : Ht) : hasT (putT most T x) x.a x.p = true ∧ getT (putT most T x) x.a x.p = x := by
  have hk : x.isK x.a x.p = true := isK_self x
  have hd : (cutT most (dropT T x.a x.p)).find? (fun h => h.isK x.a x.p) = none := by
    rw [List.find?_eq_none]
    intro y hy
    have := dropT_not T x.a x.p y ((cutT_sub most _).subset hy)
    simp [this]
  refine ⟨by unfold hasT putT; simp [hk], ?_⟩
  unfold getT putT
  rw [List.find?_append, hd]
  simp [hk]

/-- a hit of a page is known that serves -/
structure Srv (s : Ms) (pg k : Int) (u : Bool) (h : Ht) : Prop where
  has : hasT s.T 0 pg = true
  get : getT s.T 0 pg = h
  srv : servesB h k u = true
theorem Srv.take {pg k : Int} {u : Bool} {h : Ht} (H : Srv s pg k u h) : takeM n L s pg k u = (s, h, 0, 0) := by
  unfold takeM
  rw [H.has, H.get, H.srv]; rfl
theorem Srv.mem {pg k : Int} {u : Bool} {h : Ht} (H : Srv s pg k u h) : h ∈ s.T ∧ h.p = pg := by
  have := getT_mem H.has
  rw [H.get] at this
  exact ⟨this.1, this.2.2⟩
theorem Srv.acc {a : Nat} {k : Int} {u : Bool} {h : Ht} (H : Srv s (pageN a) k u h) (h1 : aliB a = true) (h2 : canB a = true) (v : Int) : accM n L s k u a v = touchM n L s h.f (wordN a) k v := by
  unfold accM
  rw [h1, if_pos rfl, h2, if_pos rfl, H.take]; rfl
theorem Srv.words {pg k : Int} {u : Bool} {h : Ht} (H : Srv s pg k u h) {s' : Ms} (e : s'.T = s.T) : Srv s' pg k u h := ⟨e ▸ H.has, e ▸ H.get, H.srv⟩
/-- a hit that serves a Store serves a Load -/
theorem serves_load {h : Ht} {u : Bool} (hs : servesB h 1 u = true) : servesB h 0 u = true := by
  unfold servesB at hs ⊢
  rw [may_of] at hs ⊢
  simp only [Bool.and_eq_true] at hs
  have := hs.1.1
  simp at this ⊢
  exact this

/-- what take takes -/
theorem take_cases (s : Ms) (pg k : Int) (u : Bool) :
    (∃ how code, how ≠ 0 ∧ walkP n s.W L s.r pg k u = (Pa.zero, how, code) ∧ takeM n L s pg k u = (⟨s.W, s.r, dropT s.T 0 pg⟩, Ht.zero, how, code)) ∨
    (∃ s2 h, takeM n L s pg k u = (s2, h, 0, 0) ∧ Srv s2 pg k u h ∧ s2.r = s.r ∧
      ((s2 = s) ∨ ∃ P, walkP n s.W L s.r pg k u = (P, 0, 0) ∧ h = hitP pg P (k == 1) ∧ s2 = ⟨markP n L P.ats (k == 1) s.W, s.r, putT 512 (dropT s.T 0 pg) h⟩)) := by
  cases hh : hasT s.T 0 pg && servesB (getT s.T 0 pg) k u with
  | true =>
    rw [Bool.and_eq_true] at hh
    have H : Srv s pg k u (getT s.T 0 pg) := ⟨hh.1, rfl, hh.2⟩
    exact .inr ⟨s, _, H.take, H, rfl, .inl rfl⟩
  | false =>
    have e : takeM n L s pg k u = freshM n L ⟨s.W, s.r, dropT s.T 0 pg⟩ pg k u := by unfold takeM; rw [hh, if_neg (by decide)]
    rw [e]
    unfold freshM
    simp only
    cases hr : walkP n s.W L s.r pg k u with
    | mk P hc =>
      obtain ⟨how, code⟩ := hc
      simp only
      by_cases h0 : how = 0
      · subst h0
        obtain ⟨rfl, _, hm, _⟩ := done_of hr
        rw [if_pos rfl]
        have hp := put_got 512 (dropT s.T 0 pg) (hitP pg P (k == 1))
        refine .inr ⟨_, _, rfl, ⟨hp.1, hp.2, ?_⟩, rfl, .inr ⟨P, rfl, rfl, rfl⟩⟩
        unfold servesB
        rw [show (hitP pg P (k == 1)).rg = P.r from rfl, hm, show (hitP pg P (k == 1)).d = (P.dirty || (k == 1)) from rfl]
        cases P.dirty <;> cases (k == 1) <;> rfl
      · rw [if_neg h0]
        obtain ⟨rfl, _⟩ := walk_zero hr h0
        exact .inl ⟨how, code, h0, rfl, rfl⟩

/-- how an access comes out -/
theorem acc_cases (s : Ms) (k : Int) (u : Bool) (a : Nat) (v : Int) :
    ((accM n L s k u a v).2.how ≠ 0 ∧ (accM n L s k u a v).1.W = s.W ∧ (accM n L s k u a v).1.r = s.r ∧ ∀ v', accM n L (accM n L s k u a v).1 k u a v' = ((accM n L s k u a v).1, (accM n L s k u a v).2)) ∨
    (∃ s2 h, aliB a = true ∧ canB a = true ∧ takeM n L s (pageN a) k u = (s2, h, 0, 0) ∧ Srv s2 (pageN a) k u h ∧ accM n L s k u a v = touchM n L s2 h.f (wordN a) k v) := by
  cases h1 : aliB a with
  | false =>
    have e : ∀ s v, accM n L s k u a v = (s, ⟨4, 0, 0, a⟩) := fun s v => by unfold accM; rw [h1, if_neg (by decide)]
    exact .inl (by rw [e]; exact ⟨by simp, rfl, rfl, fun v' => e _ _⟩)
  | true =>
    cases h2 : canB a with
    | false =>
      have e : ∀ s v, accM n L s k u a v = (s, ⟨2, 0, 0, a⟩) := fun s v => by unfold accM; rw [h1, if_pos rfl, h2, if_neg (by decide)]
      exact .inl (by rw [e]; exact ⟨by simp, rfl, rfl, fun v' => e _ _⟩)
    | true =>
      have e : ∀ s v, accM n L s k u a v = goOn n L (takeM n L s (pageN a) k u) (wordN a) k a v := fun s v => by unfold accM; rw [h1, if_pos rfl, h2, if_pos rfl]
      rcases take_cases (n := n) (L := L) s (pageN a) k u with ⟨how, code, h0, hr, ht⟩ | ⟨s2, h, ht, hs, _, _⟩
      · left
        have ht2 : takeM n L ⟨s.W, s.r, dropT s.T 0 (pageN a)⟩ (pageN a) k u = (⟨s.W, s.r, dropT s.T 0 (pageN a)⟩, Ht.zero, how, code) := by
          unfold takeM freshM
          simp only
          rw [hasT_drop, Bool.false_and, if_neg (by decide), drop_twice, hr]
          simp only
          rw [if_neg h0]
        have e2 : ∀ t : Ms, goOn n L (t, Ht.zero, how, code) (wordN a) k a = fun _ => (t, ⟨how, 0, code, a⟩) := fun t => by
          funext v; unfold goOn; rw [if_neg h0]
        rw [e, ht, e2]
        exact ⟨h0, rfl, rfl, fun v' => by rw [e, ht2, e2]⟩
      · right
        refine ⟨s2, h, rfl, rfl, ht, hs, ?_⟩
        rw [e, ht]; rfl
theorem touch_how (s : Ms) (g i k v : Int) : (touchM n L s g i k v).2.how = 0 := by unfold touchM; split <;> rfl
theorem word_lt (a : Nat) : wordN a < 8 := Nat.mod_lt _ (by decide)

/-- the same access once more; a Store that was done is loaded -/
theorem acc_again (hI : InH n L) (hd : L.Nodup) (hok : OkM n L s) (k : Int) (u : Bool) (a : Nat) {v : Int} :
    (accM n L (accM n L s k u a v).1 k u a v).2 = (accM n L s k u a v).2 ∧ (accM n L (accM n L s k u a v).1 k u a v).1.W = (accM n L s k u a v).1.W ∧
    ((accM n L s k u a v).2.how = 0 → k = 1 → (accM n L (accM n L (accM n L s k u a v).1 k u a v).1 0 u a 0).2 = ⟨0, v, 0, 0⟩) := by
  rcases acc_cases (n := n) (L := L) s k u a v with ⟨h0, _, _, h3⟩ | ⟨s2, h, h1, h2, ht, hs, he⟩
  · rw [h3]; exact ⟨rfl, rfl, fun h => absurd h h0⟩
  · have hok2 : OkM n L s2 := by have := hok.take (pageN a) k u; rw [ht] at this; exact this
    rw [he]
    have hs1 : Srv (touchM n L s2 h.f (wordN a) k v).1 (pageN a) k u h := hs.words (touch_T _ _ _ _ _)
    rw [hs1.acc h1 h2]
    have hs3 : Srv (touchM n L (touchM n L s2 h.f (wordN a) k v).1 h.f (wordN a) k v).1 (pageN a) k u h := hs1.words (touch_T _ _ _ _ _)
    by_cases hk : k = 1
    · subst hk
      have hl : Srv (touchM n L (touchM n L s2 h.f (wordN a) 1 v).1 h.f (wordN a) 1 v).1 (pageN a) 0 u h := ⟨hs3.has, hs3.get, serves_load hs3.srv⟩
      refine ⟨rfl, ?_, fun _ _ => ?_⟩
      · simp only [touchM, beq_self_eq_true, if_true, setG_twice]
      · rw [hl.acc h1 h2]
        have hf := hok2.hits h hs.mem.1
        have hg : hasG n L h.f (wordN a) = true := by
          rw [hasG_nat hI, decide_eq_true_eq]
          have := word_lt a; omega
        simp only [touchM, beq_self_eq_true, if_true, setG_twice]
        rw [if_neg (by decide), get_set hI hd hok2.len hg hg, if_pos ⟨rfl, rfl⟩]
    · have hk' : (k == 1) = false := by simpa using hk
      refine ⟨?_, ?_, fun _ h => absurd h hk⟩
      · simp only [touchM, hk', Bool.false_eq_true, if_false]
      · simp only [touchM, hk', Bool.false_eq_true, if_false]

theorem acc_r (s : Ms) (k : Int) (u : Bool) (a : Nat) (v : Int) : (accM n L s k u a v).1.r = s.r := by
  rcases acc_cases (n := n) (L := L) s k u a v with ⟨_, _, h, _⟩ | ⟨s2, h, _, _, ht, _, he⟩
  · exact h
  · rw [he]
    have e : (touchM n L s2 h.f (wordN a) k v).1.r = s2.r := by unfold touchM; split <;> rfl
    rw [e]
    rcases take_cases (n := n) (L := L) s (pageN a) k u with ⟨how, code, h0, hr, ht'⟩ | ⟨s2', h', ht', _, hr, _⟩
    · rw [ht] at ht'; injection ht' with e1 e2; rw [e1]
    · rw [ht] at ht'; injection ht' with e1 e2; rw [e1]; exact hr
theorem doM_r (s : Ms) (o : OpM) : (doM n L s o).1.r = if o.what = 6 then o.g else s.r := by
  unfold doM
  by_cases e4 : o.what = 4
  · rw [if_pos e4, if_neg (by omega)]; rfl
  rw [if_neg e4]
  by_cases e5 : o.what = 5
  · rw [if_pos e5, if_neg (by omega)]; rfl
  rw [if_neg e5]
  by_cases e6 : o.what = 6
  · rw [if_pos e6, if_pos e6]; rfl
  rw [if_neg e6, if_neg e6]
  split
  · unfold findM; split <;> rfl
  · exact acc_r _ _ _ _ _
/-- behind a Find and a Forget, an access has it be known as it was found -/
theorem forget_acc {pn : Int} {P : Pa} (h0 : 0 ≤ pn) (h1 : pn < 512) (hr : walkP n s.W L s.r pn 0 false = (P, 0, 0)) :
    getT (accM n L (forgetM ⟨s.W, s.r, putT 512 s.T (hitP pn P false)⟩ pn) 0 false (joinN pn 0) 0).1.T 0 pn = hitP pn P false ∧
    hasT (accM n L (forgetM ⟨s.W, s.r, putT 512 s.T (hitP pn P false)⟩ pn) 0 false (joinN pn 0) 0).1.T 0 pn = true := by
  rw [acc_join _ h0 h1 (by omega) (by omega), goOn_T]
  have e : (takeM n L (forgetM ⟨s.W, s.r, putT 512 s.T (hitP pn P false)⟩ pn) pn 0 false).1.T = putT 512 (dropT (dropT (putT 512 s.T (hitP pn P false)) 0 pn) 0 pn) (hitP pn P false) := by
    unfold takeM freshM forgetM
    simp only
    rw [hasT_drop, Bool.false_and, if_neg (by decide), hr]
    rfl
  rw [e]
  have := put_got 512 (dropT (dropT (putT 512 s.T (hitP pn P false)) 0 pn) 0 pn) (hitP pn P false)
  exact ⟨this.2, this.1⟩
end

end Go.Proofs.YtedginkenmafmaaGreatDoor
