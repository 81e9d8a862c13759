/-
  Plain facts on models, for the laws.
-/
import Derived.Test.YtedginkenmafmaaGreatDoorModelP
namespace Go.Proofs.YtedginkenmafmaaGreatDoor
open Go.RowKit

theorem mq_canon (a : Nat) : canonN (canonN a) = canonN a := by unfold canonN; split <;> split <;> omega
theorem mq_lt (p q : Int) : joinN p q < 18446744073709551616 := canonN_lt _
theorem mq_page (p q : Int) (h0 : 0 ≤ p) (h1 : p < 512) : (pageN (joinN p q) : Int) = p := by
  unfold pageN joinN canonN; split <;> omega
theorem mq_word (p q : Int) (h0 : 0 ≤ q) (h1 : q < 8) : (wordN (joinN p q) : Int) = q := by
  unfold wordN joinN canonN; split <;> omega
theorem mq_can (p q : Int) : canB (joinN p q) = true := by
  unfold canB joinN; rw [decide_eq_true_eq, mq_canon]
theorem mq_ali (p q : Int) : aliB (joinN p q) = true := by
  unfold aliB joinN canonN; rw [decide_eq_true_eq]; split <;> omega

section
variable {n : Nat} {L : List Int} {s : Ms}
theorem acc_join (s : Ms) {k : Int} {u : Bool} {pg i : Int} {v : Int} (h0 : 0 ≤ pg) (h1 : pg < 512) (h2 : 0 ≤ i) (h3 : i < 8) :
    accM n L s k u (joinN pg i) v = goOn n L (takeM n L s pg k u) i k (joinN pg i) v := by
  unfold accM
  rw [mq_ali, if_pos rfl, mq_can, if_pos rfl, mq_page pg i h0 h1, mq_word pg i h2 h3]
/-- from a root that there is not -/
theorem acc_noroot {s : Ms} {k : Int} {u : Bool} {pg i : Int} {v : Int} (h0 : 0 ≤ pg) (h1 : pg < 512) (h2 : 0 ≤ i) (h3 : i < 8) (hr : ¬ (0 ≤ s.r ∧ s.r < 16)) (hT : s.T = []) :
    (accM 16 L16 s k u (joinN pg i) v).2 = ⟨3, 0, 0, joinN pg i⟩ := by
  rw [acc_join s h0 h1 h2 h3]
  have e : takeM 16 L16 s pg k u = (⟨s.W, s.r, dropT s.T 0 pg⟩, Ht.zero, 3, 0) := by
    unfold takeM freshM
    rw [hT]
    rw [if_neg (by simp [hasT]), walk_out _ _ _ _ hr, if_neg (by decide)]
  rw [e]; rfl
theorem dropT_len' (T : List Ht) (a p : Int) : (dropT T a p).length ≤ T.length := dropT_len T a p
theorem take_len (s : Ms) (pg k : Int) (u : Bool) : (takeM n L s pg k u).1.T.length ≤ s.T.length + 1 := by
  unfold takeM freshM
  have h1 := dropT_len s.T 0 pg
  split
  · simp
  · split
    · have := putT_len1 (L := dropT s.T 0 pg) 512 (hitP pg (walkP n s.W L s.r pg k u).1 (k == 1))
      simp only; omega
    · simp only; omega
theorem touch_T (s : Ms) (g i k v : Int) : (touchM n L s g i k v).1.T = s.T := by unfold touchM; split <;> rfl
theorem goOn_T (t : Ms × Ht × Int × Int) (i k : Int) (a : Nat) (v : Int) : (goOn n L t i k a v).1.T = t.1.T := by
  unfold goOn; split
  · exact touch_T _ _ _ _ _
  · rfl
theorem acc_len (s : Ms) (k : Int) (u : Bool) (a : Nat) (v : Int) : (accM n L s k u a v).1.T.length ≤ s.T.length + 1 := by
  unfold accM
  split
  · split
    · rw [goOn_T]; exact take_len _ _ _ _
    · simp
  · simp
theorem doM_len (s : Ms) (o : OpM) : (doM n L s o).1.T.length ≤ s.T.length + 1 := by
  unfold doM
  split
  · simp [editM]
  split
  · have := dropT_len s.T 0 o.page; simp only [forgetM]; omega
  split
  · simp [rootM]
  split
  · unfold findM; split
    · exact putT_len1 _ _
    · simp
  · exact acc_len _ _ _ _ _
theorem runM_len (s : Ms) (l : List OpM) : (runM n L s l).T.length ≤ s.T.length + l.length := by
  unfold runM
  induction l generalizing s with
  | nil => simp
  | cons o l ih =>
    have := ih (doM n L s o).1
    have := doM_len (n := n) (L := L) s o
    simp only [List.foldl_cons, List.length_cons]; omega

/-- what is told of a page's hit is the same -/
structure Kn (g : Int) (T T' : List Ht) : Prop where
  has : hasT T' 0 g = hasT T 0 g
  get : getT T' 0 g = getT T 0 g
theorem Kn.refl (g : Int) (T : List Ht) : Kn g T T := ⟨rfl, rfl⟩
theorem Kn.trans {g : Int} {A B C : List Ht} (h : Kn g A B) (k : Kn g B C) : Kn g A C := ⟨k.has.trans h.has, k.get.trans h.get⟩
theorem Kn.of {g : Int} {T T' : List Ht} (h : Tells T' 0 g (hasT T 0 g) (getT T 0 g)) : Kn g T T' := ⟨h.1, by
  rw [h.get]
  cases hh : hasT T 0 g with
  | true => rfl
  | false => rw [getT_none hh]; rfl⟩
theorem tells_self (T : List Ht) (g : Int) : Tells T 0 g (hasT T 0 g) (getT T 0 g) := ⟨rfl, fun _ => rfl⟩
theorem kn_drop {g pg : Int} (T : List Ht) (h : pg ≠ g) : Kn g T (dropT T 0 pg) := Kn.of ((tells_self T g).drop_other (fun e => h e.2))
theorem kn_put {g : Int} (T : List Ht) (x : Ht) (hl : T.length < 512) (h : x.p ≠ g) : Kn g T (putT 512 T x) := Kn.of ((tells_self T g).put_other hl (fun e => h e.2))
theorem kn_take {s : Ms} {g pg k : Int} {u : Bool} (hl : s.T.length < 512) (h : pg ≠ g) : Kn g s.T (takeM n L s pg k u).1.T := by
  unfold takeM freshM
  split
  · exact Kn.refl _ _
  · split
    · exact (kn_drop s.T h).trans (kn_put _ _ (Nat.lt_of_le_of_lt (dropT_len _ _ _) hl) h)
    · exact kn_drop s.T h
theorem kn_do {s : Ms} {g : Int} {o : OpM} (hl : s.T.length < 512) (h6 : o.what ≠ 6) (h57 : o.what = 5 ∨ o.what = 7 → o.page ≠ g) (ha : o.what < 4 ∨ 7 < o.what → (pageN o.a : Int) ≠ g) : Kn g s.T (doM n L s o).1.T := by
  unfold doM
  by_cases e4 : o.what = 4
  · rw [if_pos e4]; exact Kn.refl _ _
  rw [if_neg e4]
  by_cases e5 : o.what = 5
  · rw [if_pos e5]; exact kn_drop _ (h57 (.inl e5))
  rw [if_neg e5, if_neg h6]
  by_cases e7 : o.what = 7
  · rw [if_pos e7]
    unfold findM; split
    · exact kn_put _ _ hl (h57 (.inr e7))
    · exact Kn.refl _ _
  rw [if_neg e7]
  unfold accM
  split
  · split
    · rw [goOn_T]; exact kn_take hl (ha (by omega))
    · exact Kn.refl _ _
  · exact Kn.refl _ _
end

end Go.Proofs.YtedginkenmafmaaGreatDoor
