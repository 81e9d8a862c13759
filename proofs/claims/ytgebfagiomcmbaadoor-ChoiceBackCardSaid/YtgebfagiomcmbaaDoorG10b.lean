/-
  ModelE, ModelF, ModelG, ModelH, ModelQ, ModelR in one text.
-/
import Derived.Test.YtgebfagiomcmbaaDoorG10a
import Derived.Deep.LoopGhost
import Derived.Test.YtgebfagiomcmbaaDoorG1
import Derived.Test.YtgebfagiomcmbaaDoorG7
import Derived.Test.YtgebfagiomcmbaaDoorG0
namespace Go.Proofs.YtgebfagiomcmbaaDoor
open Go.RowKit Go.Shelf

section
variable {w0 w : World} {F : List Nat} {m t q p h b n : Nat} {S : List Nat} {L : List Int} {s : Ms}
theorem MFind_b (page : Int) (H : ModB w0 F w m t q S p L h b n s) :
    Calls Tryd.prog 25 #[.pointer (some ⟨m, 0, none⟩), .int .i64 page] w fun e w' => e = .returned (.bool (findB n L s page)) ∧ ModB w0 F w' m t q S p L h b n (findM n L s page) ∧ Far F w w' := by
  unfold findM
  cases hu : hasT s.T 0 page with
  | true =>
    have e : findB n L s page = false := by simp [findB, hu]
    rw [e]; exact find_known page H hu
  | false =>
    cases hr : walkP n s.W L s.r page 0 false with
    | mk P hc =>
      obtain ⟨how, code⟩ := hc
      by_cases h0 : how = 0
      · subst h0
        obtain rfl := (done_of hr).1
        cases hus : usedAts n s.W L P.ats with
        | true =>
          have e : findB n L s page = true := by simp [findB, hu, hr, hus]
          rw [e]; exact find_done page H P hu hr hus
        | false =>
          have e : findB n L s page = false := by simp [findB, hu, hr, hus]
          rw [e]; exact find_bare page H P hu hr hus
      · obtain ⟨rfl, _⟩ := walk_zero hr h0
        have e : findB n L s page = false := by simp [findB, hu, hr, h0]
        rw [e]; exact find_stop page H how code hu hr (by simpa using h0)

end

end Go.Proofs.YtgebfagiomcmbaaDoor

namespace Go.Proofs.YtgebfagiomcmbaaDoor
open Go.RowKit Go.Shelf

section
variable {w0 w w' : World} {F : List Nat} {m t q p h b n : Nat} {S : List Nat} {L : List Int} {s : Ms}
/-- a block of one's own turned, that stays apart -/
theorem ModB.turn {g : Nat} (H : ModB w0 F w m t q S p L h b n s) (hF : g ∈ F) (hc : Chg [g] w w') (hg : w0.heap.size ≤ g) : ModB w0 F w' m t q S p L h b n s := by
  have hn : ∀ i ∈ mB m q S h b, i ∉ [g] := fun i hi hm => H.ap i hi (by simp at hm; subst hm; exact hF)
  exact ⟨H.tb.other hc (by simp [hF]) (by simpa using hg),
    H.gu.other hc (hn q (by simp [mB])) (fun i hi => hn i (by simp [mB, hi])) (hn h (by simp [mB])) (hn b (by simp [mB])), hc.blk H.st (hn m (by simp [mB])), H.er, H.ok, H.nm, H.nb, H.ap, H.ms⟩
theorem box1 {g : Nat} {ty : TypeId} {x : Value} (h : Blk w g ty #[x]) : w.cell? ⟨g, 0, none⟩ = some x := h.cell 0
end

section
variable {w0 w : World} {F : List Nat} {m t q p h b n : Nat} {S : List Nat} {L : List Int} {s : Ms}
end

end Go.Proofs.YtgebfagiomcmbaaDoor

namespace Go.Proofs.YtgebfagiomcmbaaDoor
open Go.RowKit Go.Shelf

section
variable (n : Nat) (L : List Int) (s : Ms) (a : Nat) (k : Int) (u : Bool)
/-- where Access stands ahead of its question z -/
inductive AccZ : Int → Ms → Prop
  | z0 : AccZ 0 s
  | z1 (_ : aliB a = true) : AccZ 1 s
  | z2 (_ : aliB a = true) (_ : canB a = true) : AccZ 2 s
  | z3 (s1 : Ms) (_ : aliB a = true) (_ : canB a = true) (_ : (takeM n L s (pageN a) k u).2.2.1 = 0) (_ : s1 = (takeM n L s (pageN a) k u).1) : AccZ 3 s1
end
/-- the blocks of an Access, as a list -/
def G7 (g : Nat) : List Nat := [g, g + 1, g + 2, g + 3, g + 4, g + 5, g + 6]
theorem far4 {w : World} {g g' : Nat} {t : TypeId} {cs : Array Value} {y0 y1 y2 y3 : Value} (h : Blk w g' t cs) (hn : g' ≠ g) : Blk ((((w.setCell ⟨g, 0, none⟩ y0).setCell ⟨g, 1, none⟩ y1).setCell ⟨g, 2, none⟩ y2).setCell ⟨g, 3, none⟩ y3) g' t cs := (((h.far (p := ⟨g, 0, none⟩) hn y0).far (p := ⟨g, 1, none⟩) hn y1).far (p := ⟨g, 2, none⟩) hn y2).far (p := ⟨g, 3, none⟩) hn y3

section
variable {w0 w : World} {F : List Nat} {m t q p h b n : Nat} {S : List Nat} {L : List Int} {s : Ms}
end

end Go.Proofs.YtgebfagiomcmbaaDoor

namespace Go.Proofs.YtgebfagiomcmbaaDoor
open Go.RowKit Go.Shelf Go.Maps

/-- a slice of one's own words is a slice of words -/
theorem ownI_slu {w : World} {t : TypeId} {A : Option Addr} {n c : Nat} {L : List Int} (h : OwnI w t .u64 (.slice A n c) L) : SlU w A n L := by
  have hn := h.slice
  subst hn
  exact own_slu h
theorem Far.slu {F : List Nat} {w w' : World} {A : Option Addr} {n : Nat} {xs : List Int} (f : Far F w w') (hs : SlU w A n xs) (hA : ∀ g o, A = some ⟨g, o, none⟩ → g ∈ F) : SlU w' A n xs := by
  obtain ⟨S, hc, hd⟩ := f
  exact hs.chg hc fun g o e hm => hd g hm (hA g o e)
theorem Far.sla {F : List Nat} {w w' : World} {A : Option Addr} {n : Nat} {l : List (Int × Int)} (f : Far F w w') (hs : SlA w A n l) (hA : ∀ g o, A = some ⟨g, o, none⟩ → g ∈ F) : SlA w' A n l := by
  obtain ⟨S, hc, hd⟩ := f
  exact hs.chg hc fun g o e hm => hd g hm (hA g o e)

/-- an operation lies here -/
structure OpMC (w : World) (b o : Nat) (x : OpM) : Prop where
  c0 : w.cell? ⟨b, o, none⟩ = some (.int .i64 x.what)
  c1 : w.cell? ⟨b, o + 1, none⟩ = some (.int .i64 x.kind)
  c2 : w.cell? ⟨b, o + 2, none⟩ = some (.bool x.user)
  c3 : w.cell? ⟨b, o + 3, none⟩ = some (.int .u64 x.a)
  c4 : w.cell? ⟨b, o + 4, none⟩ = some (.int .u64 x.v)
  c5 : w.cell? ⟨b, o + 5, none⟩ = some (.int .i64 x.g)
  c6 : w.cell? ⟨b, o + 6, none⟩ = some (.int .i64 x.i)
  c7 : w.cell? ⟨b, o + 7, none⟩ = some (.int .i64 x.page)
theorem OpMC.chg {S : List Nat} {w w' : World} {b o : Nat} {x : OpM} (h : OpMC w b o x) (hc : Chg S w w') (hb : b < w.heap.size) (hn : b ∉ S) : OpMC w' b o x :=
  have e : ∀ i, w'.cell? ⟨b, i, none⟩ = w.cell? ⟨b, i, none⟩ := fun i => hc.cell (p := ⟨b, i, none⟩) hb hn
  ⟨(e _).trans h.c0, (e _).trans h.c1, (e _).trans h.c2, (e _).trans h.c3, (e _).trans h.c4, (e _).trans h.c5, (e _).trans h.c6, (e _).trans h.c7⟩
/-- a slice of operations, nil let in, reads as this list -/
structure SlM (w : World) (A : Option Addr) (n : Nat) (l : List OpM) : Prop where
  le : n ≤ 9223372036854775807
  len : l.length = n
  wf : ∀ x ∈ l, x.Wf
  at_ : 0 < n → ∃ b off, A = some ⟨b, off, none⟩ ∧ b < w.heap.size ∧ ∀ j x, l[j]? = some x → OpMC w b (off + j * 8) x
theorem SlM.new {w w' : World} {A : Option Addr} {n : Nat} {l : List OpM} (h : SlM w A n l) (hc : Chg [] w w') : SlM w' A n l :=
  ⟨h.le, h.len, h.wf, fun h0 => by
    obtain ⟨b, off, e, hb, hr⟩ := h.at_ h0
    exact ⟨b, off, e, Nat.lt_of_lt_of_le hb hc.size, fun j x hj => (hr j x hj).chg hc hb (by simp)⟩⟩
theorem SlM.get {w : World} {A : Option Addr} {n : Nat} {l : List OpM} (h : SlM w A n l) {k : Nat} (hk : k < n) :
    ∃ b off x, A = some ⟨b, off, none⟩ ∧ b < w.heap.size ∧ l[k]? = some x ∧ x.Wf ∧ OpMC w b (off + k * 8) x := by
  obtain ⟨b, off, e, hb, hr⟩ := h.at_ (by omega)
  have hl := h.len
  have hj : l[k]? = some (l[k]'(by omega)) := List.getElem?_eq_getElem (by omega)
  exact ⟨b, off, _, e, hb, hj, h.wf _ (List.getElem_mem _), hr k _ hj⟩

/-- eight cells of a block -/
theorem blk8 {w : World} {g : Nat} {t : TypeId} {x0 x1 x2 x3 x4 x5 x6 x7 : Value} (h : Blk w g t #[x0, x1, x2, x3, x4, x5, x6, x7]) :
    w.cell? ⟨g, 0, none⟩ = some x0 ∧ w.cell? ⟨g, 1, none⟩ = some x1 ∧ w.cell? ⟨g, 2, none⟩ = some x2 ∧ w.cell? ⟨g, 3, none⟩ = some x3 ∧ w.cell? ⟨g, 4, none⟩ = some x4 ∧ w.cell? ⟨g, 5, none⟩ = some x5 ∧ w.cell? ⟨g, 6, none⟩ = some x6 ∧ w.cell? ⟨g, 7, none⟩ = some x7 :=
  ⟨h.cell 0, h.cell 1, h.cell 2, h.cell 3, h.cell 4, h.cell 5, h.cell 6, h.cell 7⟩

/-- are two outcomes the same? -/
def Ot.eqb (a b : Ot) : Bool := a.how == b.how && (a.v == b.v && (a.code == b.code && a.a == b.a))
theorem Ot.eqb_iff (a b : Ot) : a.eqb b = true ↔ a = b := by
  cases a; cases b
  simp [Ot.eqb]
theorem Ot.eqb_self (a : Ot) : a.eqb a = true := (Ot.eqb_iff a a).2 rfl
theorem Ot.eqb_ne {a b : Ot} (h : a ≠ b) : a.eqb b = false := by rw [← Bool.not_eq_true, Ot.eqb_iff]; exact h
section
variable {w0 w : World} {F : List Nat} {m t q p h b n : Nat} {S : List Nat} {L : List Int} {s : Ms}
end

end Go.Proofs.YtgebfagiomcmbaaDoor

namespace Go.Proofs.YtgebfagiomcmbaaDoor
open Go.RowKit

theorem mq_canon (a : Nat) : canonN (canonN a) = canonN a := by unfold canonN; split <;> split <;> omega
theorem mq_lt (p q : Int) : joinN p q < 18446744073709551616 := canonN_lt _
theorem mq_page (p q : Int) (h0 : 0 ≤ p) (h1 : p < 512) : (pageN (joinN p q) : Int) = p := by
  unfold pageN joinN canonN; split <;> omega
theorem mq_word (p q : Int) (h0 : 0 ≤ q) (h1 : q < 8) : (wordN (joinN p q) : Int) = q := by
  unfold wordN joinN canonN; split <;> omega
theorem mq_can (p q : Int) : canB (joinN p q) = true := by
  unfold canB joinN; rw [decide_eq_true_eq, mq_canon]
theorem mq_ali (p q : Int) : aliB (joinN p q) = true := by
  unfold aliB joinN canonN; rw [decide_eq_true_eq]; split <;> omega

section
variable {n : Nat} {L : List Int} {s : Ms}
theorem acc_join (s : Ms) {k : Int} {u : Bool} {pg i : Int} {v : Int} (h0 : 0 ≤ pg) (h1 : pg < 512) (h2 : 0 ≤ i) (h3 : i < 8) :
    accM n L s k u (joinN pg i) v = goOn n L (takeM n L s pg k u) i k (joinN pg i) v := by
  unfold accM
  rw [mq_ali, if_pos rfl, mq_can, if_pos rfl, mq_page pg i h0 h1, mq_word pg i h2 h3]
/-- from a root that there is not -/
theorem acc_noroot {s : Ms} {k : Int} {u : Bool} {pg i : Int} {v : Int} (h0 : 0 ≤ pg) (h1 : pg < 512) (h2 : 0 ≤ i) (h3 : i < 8) (hr : ¬ (0 ≤ s.r ∧ s.r < 16)) (hT : s.T = []) :
    (accM 16 L16 s k u (joinN pg i) v).2 = ⟨3, 0, 0, joinN pg i⟩ := by
  rw [acc_join s h0 h1 h2 h3]
  have e : takeM 16 L16 s pg k u = (⟨s.W, s.r, dropT s.T 0 pg⟩, Ht.zero, 3, 0) := by
    unfold takeM freshM
    rw [hT]
    rw [if_neg (by simp [hasT]), walk_out _ _ _ _ hr, if_neg (by decide)]
  rw [e]; rfl
theorem dropT_len' (T : List Ht) (a p : Int) : (dropT T a p).length ≤ T.length := dropT_len T a p
theorem take_len (s : Ms) (pg k : Int) (u : Bool) : (takeM n L s pg k u).1.T.length ≤ s.T.length + 1 := by
  unfold takeM freshM
  have h1 := dropT_len s.T 0 pg
  split
  · simp
  · split
    · have := putT_len1 (L := dropT s.T 0 pg) 512 (hitP pg (walkP n s.W L s.r pg k u).1 (k == 1))
      simp only; omega
    · simp only; omega
theorem touch_T (s : Ms) (g i k v : Int) : (touchM n L s g i k v).1.T = s.T := by unfold touchM; split <;> rfl
theorem goOn_T (t : Ms × Ht × Int × Int) (i k : Int) (a : Nat) (v : Int) : (goOn n L t i k a v).1.T = t.1.T := by
  unfold goOn; split
  · exact touch_T _ _ _ _ _
  · rfl
theorem acc_len (s : Ms) (k : Int) (u : Bool) (a : Nat) (v : Int) : (accM n L s k u a v).1.T.length ≤ s.T.length + 1 := by
  unfold accM
  split
  · split
    · rw [goOn_T]; exact take_len _ _ _ _
    · simp
  · simp
theorem doM_len (s : Ms) (o : OpM) : (doM n L s o).1.T.length ≤ s.T.length + 1 := by
  unfold doM
  split
  · simp [editM]
  split
  · have := dropT_len s.T 0 o.page; simp only [forgetM]; omega
  split
  · simp [rootM]
  split
  · unfold findM; split
    · exact putT_len1 _ _
    · simp
  · exact acc_len _ _ _ _ _
theorem runM_len (s : Ms) (l : List OpM) : (runM n L s l).T.length ≤ s.T.length + l.length := by
  unfold runM
  induction l generalizing s with
  | nil => simp
  | cons o l ih =>
    have := ih (doM n L s o).1
    have := doM_len (n := n) (L := L) s o
    simp only [List.foldl_cons, List.length_cons]; omega

/-- what is told of a page's hit is the same -/
structure Kn (g : Int) (T T' : List Ht) : Prop where
  has : hasT T' 0 g = hasT T 0 g
  get : getT T' 0 g = getT T 0 g
theorem Kn.refl (g : Int) (T : List Ht) : Kn g T T := ⟨rfl, rfl⟩
theorem Kn.trans {g : Int} {A B C : List Ht} (h : Kn g A B) (k : Kn g B C) : Kn g A C := ⟨k.has.trans h.has, k.get.trans h.get⟩
theorem Kn.of {g : Int} {T T' : List Ht} (h : Tells T' 0 g (hasT T 0 g) (getT T 0 g)) : Kn g T T' := ⟨h.1, by
  rw [h.get]
  cases hh : hasT T 0 g with
  | true => rfl
  | false => rw [getT_none hh]; rfl⟩
theorem tells_self (T : List Ht) (g : Int) : Tells T 0 g (hasT T 0 g) (getT T 0 g) := ⟨rfl, fun _ => rfl⟩
theorem kn_drop {g pg : Int} (T : List Ht) (h : pg ≠ g) : Kn g T (dropT T 0 pg) := Kn.of ((tells_self T g).drop_other (fun e => h e.2))
theorem kn_put {g : Int} (T : List Ht) (x : Ht) (hl : T.length < 512) (h : x.p ≠ g) : Kn g T (putT 512 T x) := Kn.of ((tells_self T g).put_other hl (fun e => h e.2))
theorem kn_take {s : Ms} {g pg k : Int} {u : Bool} (hl : s.T.length < 512) (h : pg ≠ g) : Kn g s.T (takeM n L s pg k u).1.T := by
  unfold takeM freshM
  split
  · exact Kn.refl _ _
  · split
    · exact (kn_drop s.T h).trans (kn_put _ _ (Nat.lt_of_le_of_lt (dropT_len _ _ _) hl) h)
    · exact kn_drop s.T h
theorem kn_do {s : Ms} {g : Int} {o : OpM} (hl : s.T.length < 512) (h6 : o.what ≠ 6) (h57 : o.what = 5 ∨ o.what = 7 → o.page ≠ g) (ha : o.what < 4 ∨ 7 < o.what → (pageN o.a : Int) ≠ g) : Kn g s.T (doM n L s o).1.T := by
  unfold doM
  by_cases e4 : o.what = 4
  · rw [if_pos e4]; exact Kn.refl _ _
  rw [if_neg e4]
  by_cases e5 : o.what = 5
  · rw [if_pos e5]; exact kn_drop _ (h57 (.inl e5))
  rw [if_neg e5, if_neg h6]
  by_cases e7 : o.what = 7
  · rw [if_pos e7]
    unfold findM; split
    · exact kn_put _ _ hl (h57 (.inr e7))
    · exact Kn.refl _ _
  rw [if_neg e7]
  unfold accM
  split
  · split
    · rw [goOn_T]; exact kn_take hl (ha (by omega))
    · exact Kn.refl _ _
  · exact Kn.refl _ _
end

end Go.Proofs.YtgebfagiomcmbaaDoor

namespace Go.Proofs.YtgebfagiomcmbaaDoor
open Go.RowKit

section
variable {n : Nat} {L : List Int} {s : Ms}
theorem setW_twice (n : Nat) (W : List Int) (f i v v' : Int) : setW n (setW n W f i v) f i v' = setW n W f i v' := by
  unfold setW; split
  · rw [List.set_set]
  · rfl
theorem setG_twice (n : Nat) (W L : List Int) (g i v v' : Int) : setG n (setG n W L g i v) L g i v' = setG n W L g i v' := by
  unfold setG; split
  · exact setW_twice _ _ _ _ _ _
  · rfl
theorem hasT_drop (T : List Ht) (pg : Int) : hasT (dropT T 0 pg) 0 pg = false := ((tells_self T pg).drop_mine Ht.zero).1
theorem drop_twice (T : List Ht) (a pg : Int) : dropT (dropT T a pg) a pg = dropT T a pg := by simp [dropT, List.filter_filter]
/-- what is put last is got -/
theorem put_got (most : Nat) (T : List Ht) (x : Ht) : hasT (putT most T x) x.a x.p = true ∧ getT (putT most T x) x.a x.p = x := by
  have hk : x.isK x.a x.p = true := isK_self x
  have hd : (cutT most (dropT T x.a x.p)).find? (fun h => h.isK x.a x.p) = none := by
    rw [List.find?_eq_none]
    intro y hy
    have := dropT_not T x.a x.p y ((cutT_sub most _).subset hy)
    simp [this]
  refine ⟨by unfold hasT putT; simp [hk], ?_⟩
  unfold getT putT
  rw [List.find?_append, hd]
  simp [hk]

/-- a hit of a page is known that serves -/
structure Srv (s : Ms) (pg k : Int) (u : Bool) (h : Ht) : Prop where
  has : hasT s.T 0 pg = true
  get : getT s.T 0 pg = h
  srv : servesB h k u = true
theorem Srv.take {pg k : Int} {u : Bool} {h : Ht} (H : Srv s pg k u h) : takeM n L s pg k u = (s, h, 0, 0) := by
  unfold takeM
  rw [H.has, H.get, H.srv]; rfl
theorem Srv.mem {pg k : Int} {u : Bool} {h : Ht} (H : Srv s pg k u h) : h ∈ s.T ∧ h.p = pg := by
  have := getT_mem H.has
  rw [H.get] at this
  exact ⟨this.1, this.2.2⟩
theorem Srv.acc {a : Nat} {k : Int} {u : Bool} {h : Ht} (H : Srv s (pageN a) k u h) (h1 : aliB a = true) (h2 : canB a = true) (v : Int) : accM n L s k u a v = touchM n L s h.f (wordN a) k v := by
  unfold accM
  rw [h1, if_pos rfl, h2, if_pos rfl, H.take]; rfl
theorem Srv.words {pg k : Int} {u : Bool} {h : Ht} (H : Srv s pg k u h) {s' : Ms} (e : s'.T = s.T) : Srv s' pg k u h := ⟨e ▸ H.has, e ▸ H.get, H.srv⟩
/-- a hit that serves a Store serves a Load -/
theorem serves_load {h : Ht} {u : Bool} (hs : servesB h 1 u = true) : servesB h 0 u = true := by
  unfold servesB at hs ⊢
  rw [may_of] at hs ⊢
  simp only [Bool.and_eq_true] at hs
  have := hs.1.1
  simp at this ⊢
  exact this

/-- what take takes -/
theorem take_cases (s : Ms) (pg k : Int) (u : Bool) :
    (∃ how code, how ≠ 0 ∧ walkP n s.W L s.r pg k u = (Pa.zero, how, code) ∧ takeM n L s pg k u = (⟨s.W, s.r, dropT s.T 0 pg⟩, Ht.zero, how, code)) ∨
    (∃ s2 h, takeM n L s pg k u = (s2, h, 0, 0) ∧ Srv s2 pg k u h ∧ s2.r = s.r ∧
      ((s2 = s) ∨ ∃ P, walkP n s.W L s.r pg k u = (P, 0, 0) ∧ h = hitP pg P (k == 1) ∧ s2 = ⟨markP n L P.ats (k == 1) s.W, s.r, putT 512 (dropT s.T 0 pg) h⟩)) := by
  cases hh : hasT s.T 0 pg && servesB (getT s.T 0 pg) k u with
  | true =>
    rw [Bool.and_eq_true] at hh
    have H : Srv s pg k u (getT s.T 0 pg) := ⟨hh.1, rfl, hh.2⟩
    exact .inr ⟨s, _, H.take, H, rfl, .inl rfl⟩
  | false =>
    have e : takeM n L s pg k u = freshM n L ⟨s.W, s.r, dropT s.T 0 pg⟩ pg k u := by unfold takeM; rw [hh, if_neg (by decide)]
    rw [e]
    unfold freshM
    simp only
    cases hr : walkP n s.W L s.r pg k u with
    | mk P hc =>
      obtain ⟨how, code⟩ := hc
      simp only
      by_cases h0 : how = 0
      · subst h0
        obtain ⟨rfl, _, hm, _⟩ := done_of hr
        rw [if_pos rfl]
        have hp := put_got 512 (dropT s.T 0 pg) (hitP pg P (k == 1))
        refine .inr ⟨_, _, rfl, ⟨hp.1, hp.2, ?_⟩, rfl, .inr ⟨P, rfl, rfl, rfl⟩⟩
        unfold servesB
        rw [show (hitP pg P (k == 1)).rg = P.r from rfl, hm, show (hitP pg P (k == 1)).d = (P.dirty || (k == 1)) from rfl]
        cases P.dirty <;> cases (k == 1) <;> rfl
      · rw [if_neg h0]
        obtain ⟨rfl, _⟩ := walk_zero hr h0
        exact .inl ⟨how, code, h0, rfl, rfl⟩

/-- how an access comes out -/
theorem acc_cases (s : Ms) (k : Int) (u : Bool) (a : Nat) (v : Int) :
    ((accM n L s k u a v).2.how ≠ 0 ∧ (accM n L s k u a v).1.W = s.W ∧ (accM n L s k u a v).1.r = s.r ∧ ∀ v', accM n L (accM n L s k u a v).1 k u a v' = ((accM n L s k u a v).1, (accM n L s k u a v).2)) ∨
    (∃ s2 h, aliB a = true ∧ canB a = true ∧ takeM n L s (pageN a) k u = (s2, h, 0, 0) ∧ Srv s2 (pageN a) k u h ∧ accM n L s k u a v = touchM n L s2 h.f (wordN a) k v) := by
  cases h1 : aliB a with
  | false =>
    have e : ∀ s v, accM n L s k u a v = (s, ⟨4, 0, 0, a⟩) := fun s v => by unfold accM; rw [h1, if_neg (by decide)]
    exact .inl (by rw [e]; exact ⟨by simp, rfl, rfl, fun v' => e _ _⟩)
  | true =>
    cases h2 : canB a with
    | false =>
      have e : ∀ s v, accM n L s k u a v = (s, ⟨2, 0, 0, a⟩) := fun s v => by unfold accM; rw [h1, if_pos rfl, h2, if_neg (by decide)]
      exact .inl (by rw [e]; exact ⟨by simp, rfl, rfl, fun v' => e _ _⟩)
    | true =>
      have e : ∀ s v, accM n L s k u a v = goOn n L (takeM n L s (pageN a) k u) (wordN a) k a v := fun s v => by unfold accM; rw [h1, if_pos rfl, h2, if_pos rfl]
      rcases take_cases (n := n) (L := L) s (pageN a) k u with ⟨how, code, h0, hr, ht⟩ | ⟨s2, h, ht, hs, _, _⟩
      · left
        have ht2 : takeM n L ⟨s.W, s.r, dropT s.T 0 (pageN a)⟩ (pageN a) k u = (⟨s.W, s.r, dropT s.T 0 (pageN a)⟩, Ht.zero, how, code) := by
          unfold takeM freshM
          simp only
          rw [hasT_drop, Bool.false_and, if_neg (by decide), drop_twice, hr]
          simp only
          rw [if_neg h0]
        have e2 : ∀ t : Ms, goOn n L (t, Ht.zero, how, code) (wordN a) k a = fun _ => (t, ⟨how, 0, code, a⟩) := fun t => by
          funext v; unfold goOn; rw [if_neg h0]
        rw [e, ht, e2]
        exact ⟨h0, rfl, rfl, fun v' => by rw [e, ht2, e2]⟩
      · right
        refine ⟨s2, h, rfl, rfl, ht, hs, ?_⟩
        rw [e, ht]; rfl
theorem touch_how (s : Ms) (g i k v : Int) : (touchM n L s g i k v).2.how = 0 := by unfold touchM; split <;> rfl
theorem word_lt (a : Nat) : wordN a < 8 := Nat.mod_lt _ (by decide)

/-- the same access once more; a Store that was done is loaded -/
theorem acc_again (hI : InH n L) (hd : L.Nodup) (hok : OkM n L s) (k : Int) (u : Bool) (a : Nat) {v : Int} :
    (accM n L (accM n L s k u a v).1 k u a v).2 = (accM n L s k u a v).2 ∧ (accM n L (accM n L s k u a v).1 k u a v).1.W = (accM n L s k u a v).1.W ∧
    ((accM n L s k u a v).2.how = 0 → k = 1 → (accM n L (accM n L (accM n L s k u a v).1 k u a v).1 0 u a 0).2 = ⟨0, v, 0, 0⟩) := by
  rcases acc_cases (n := n) (L := L) s k u a v with ⟨h0, _, _, h3⟩ | ⟨s2, h, h1, h2, ht, hs, he⟩
  · rw [h3]; exact ⟨rfl, rfl, fun h => absurd h h0⟩
  · have hok2 : OkM n L s2 := by have := hok.take (pageN a) k u; rw [ht] at this; exact this
    rw [he]
    have hs1 : Srv (touchM n L s2 h.f (wordN a) k v).1 (pageN a) k u h := hs.words (touch_T _ _ _ _ _)
    rw [hs1.acc h1 h2]
    have hs3 : Srv (touchM n L (touchM n L s2 h.f (wordN a) k v).1 h.f (wordN a) k v).1 (pageN a) k u h := hs1.words (touch_T _ _ _ _ _)
    by_cases hk : k = 1
    · subst hk
      have hl : Srv (touchM n L (touchM n L s2 h.f (wordN a) 1 v).1 h.f (wordN a) 1 v).1 (pageN a) 0 u h := ⟨hs3.has, hs3.get, serves_load hs3.srv⟩
      refine ⟨rfl, ?_, fun _ _ => ?_⟩
      · simp only [touchM, beq_self_eq_true, if_true, setG_twice]
      · rw [hl.acc h1 h2]
        have hf := hok2.hits h hs.mem.1
        have hg : hasG n L h.f (wordN a) = true := by
          rw [hasG_nat hI, decide_eq_true_eq]
          have := word_lt a; omega
        simp only [touchM, beq_self_eq_true, if_true, setG_twice]
        rw [if_neg (by decide), get_set hI hd hok2.len hg hg, if_pos ⟨rfl, rfl⟩]
    · have hk' : (k == 1) = false := by simpa using hk
      refine ⟨?_, ?_, fun _ h => absurd h hk⟩
      · simp only [touchM, hk', Bool.false_eq_true, if_false]
      · simp only [touchM, hk', Bool.false_eq_true, if_false]

theorem acc_r (s : Ms) (k : Int) (u : Bool) (a : Nat) (v : Int) : (accM n L s k u a v).1.r = s.r := by
  rcases acc_cases (n := n) (L := L) s k u a v with ⟨_, _, h, _⟩ | ⟨s2, h, _, _, ht, _, he⟩
  · exact h
  · rw [he]
    have e : (touchM n L s2 h.f (wordN a) k v).1.r = s2.r := by unfold touchM; split <;> rfl
    rw [e]
    rcases take_cases (n := n) (L := L) s (pageN a) k u with ⟨how, code, h0, hr, ht'⟩ | ⟨s2', h', ht', _, hr, _⟩
    · rw [ht] at ht'; injection ht' with e1 e2; rw [e1]
    · rw [ht] at ht'; injection ht' with e1 e2; rw [e1]; exact hr
theorem doM_r (s : Ms) (o : OpM) : (doM n L s o).1.r = if o.what = 6 then o.g else s.r := by
  unfold doM
  by_cases e4 : o.what = 4
  · rw [if_pos e4, if_neg (by omega)]; rfl
  rw [if_neg e4]
  by_cases e5 : o.what = 5
  · rw [if_pos e5, if_neg (by omega)]; rfl
  rw [if_neg e5]
  by_cases e6 : o.what = 6
  · rw [if_pos e6, if_pos e6]; rfl
  rw [if_neg e6, if_neg e6]
  split
  · unfold findM; split <;> rfl
  · exact acc_r _ _ _ _ _
/-- behind a Find and a Forget, an access has it be known as it was found -/
theorem forget_acc {pn : Int} {P : Pa} (h0 : 0 ≤ pn) (h1 : pn < 512) (hr : walkP n s.W L s.r pn 0 false = (P, 0, 0)) :
    getT (accM n L (forgetM ⟨s.W, s.r, putT 512 s.T (hitP pn P false)⟩ pn) 0 false (joinN pn 0) 0).1.T 0 pn = hitP pn P false ∧
    hasT (accM n L (forgetM ⟨s.W, s.r, putT 512 s.T (hitP pn P false)⟩ pn) 0 false (joinN pn 0) 0).1.T 0 pn = true := by
  rw [acc_join _ h0 h1 (by omega) (by omega), goOn_T]
  have e : (takeM n L (forgetM ⟨s.W, s.r, putT 512 s.T (hitP pn P false)⟩ pn) pn 0 false).1.T = putT 512 (dropT (dropT (putT 512 s.T (hitP pn P false)) 0 pn) 0 pn) (hitP pn P false) := by
    unfold takeM freshM forgetM
    simp only
    rw [hasT_drop, Bool.false_and, if_neg (by decide), hr]
    rfl
  rw [e]
  have := put_got 512 (dropT (dropT (putT 512 s.T (hitP pn P false)) 0 pn) 0 pn) (hitP pn P false)
  exact ⟨this.2, this.1⟩
end

end Go.Proofs.YtgebfagiomcmbaaDoor
