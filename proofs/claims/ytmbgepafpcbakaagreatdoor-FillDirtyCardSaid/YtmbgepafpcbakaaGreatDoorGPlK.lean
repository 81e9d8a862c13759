/-
 GuardP, GuardQ, MmuP, FillP, FillQ in one text.
-/
import Derived.Test.YtmbgepafpcbakaaGreatDoorGS1K
import Derived.Test.YtmbgepafpcbakaaGreatDoorG7K
import Derived.Test.YtmbgepafpcbakaaGreatDoorG9aK
import Derived.Test.YtmbgepafpcbakaaGreatDoorG9bK
import Derived.Test.YtmbgepafpcbakaaGreatDoorHtRgK
import Derived.Test.YtmbgepafpcbakaaGreatDoorG1K
import Derived.Test.YtmbgepafpcbakaaGreatDoorG4K
import Derived.Test.YtmbgepafpcbakaaGreatDoorG4rK
import Derived.Test.YtmbgepafpcbakaaGreatDoorG8bK
namespace Go.Proofs.YtmbgepafpcbakaaGreatDoor
open Go.RowKit
structure Gd where
 s : Sr
 T : List Ht
 l : List Int
theorem Gd.ext_ {a b : Gd} (h1 : a.s = b.s) (h2 : a.T = b.T) (h3 : a.l = b.l) : a = b := by
 cases a; cases b; simp at h1 h2 h3; simp [h1, h2, h3]
def looseB (d : Gd) (g : Int) : Bool := d.l.contains g
def protB (d : Gd) (g : Int) : Bool := !(ofP d.s.L g).isEmpty && !looseB d g
def tightG (d : Gd) (g : Int) : Gd := ⟨d.s, d.T, d.l.filter fun x => decide (x ≠ g)⟩
def entG (n : Nat) (L W : List Int) (g i : Int) : Ent := getE (getG n W L g i).toNat
def agreeB (x : Slt) (e : Ent) : Bool := e.p && (e.a && (!e.bad && (!e.s && (e.f == x.to_ && (e.u == x.r.u && (e.n != x.r.x && (!x.r.w || (e.w && e.d))))))))
def Rg.noW (r : Rg) : Rg := ⟨false, r.u, r.x⟩
section
variable (n : Nat) (L : List Int)
def zapG (d : Gd) (p i : Int) : Gd := if clearB d.s p i then ⟨clearS n d.s p i, [], d.l⟩ else d
def wordG (d : Gd) (g i : Int) : Gd := (ofP d.s.L g).foldl (fun d p => zapG n d p i) d
def forbidU (s : Sr) (g : Int) : Up := fun f i => match slotP s.L f i with
 | some x => if x.kind = 2 ∧ x.to_ = g ∧ x.r.w = true then some (⟨2, g, x.r.noW⟩, wordS ⟨2, g, x.r.noW⟩ (atV L g)) else none
 | none => none
def writB (s : Sr) (g : Int) : Bool := s.L.any fun q => q.s.any fun x => decide (x.kind = 2 ∧ x.to_ = g ∧ x.r.w = true)
def forbidG (d : Gd) (g : Int) : Gd := ⟨updS d.s (forbidU L d.s g), if writB d.s g then [] else d.T, d.l⟩
def lookC (s : Sr) (g : Int) (f : Int) (i : Nat) : Bool := (ofP s.L g).contains f && (match slotP s.L f i with
 | some x => decide (x.kind = 2) && !agreeB x (entG n L s.W g i)
 | none => false)
def lookG (d : Gd) (g : Int) : Gd := if looseB d g then ⟨wipeS (forbidG L (tightG d g) g).s (lookC n L (forbidG L (tightG d g) g).s g), [], (tightG d g).l⟩ else d
def looksG (d : Gd) : Gd := d.l.foldl (lookG n L) d
def loosenB (d : Gd) (g : Int) : Bool := !looseB d g && (match ofP d.s.L g with
 | [p] => decide (levP d.s.L p = 1) && (match toldP 1 p d.s.L with
  | [q] => decide ((toldP 1 q.1 d.s.L).length = 1)
  | _ => false)
 | _ => false)
def loosenG (d : Gd) (g : Int) : Gd := if loosenB d g then ⟨d.s, d.T, d.l ++ [g]⟩ else d
def makeD (d : Gd) (k : Ky) : Gd := if makeB d.s k then (if k.role = 0 then forbidG L ⟨makeS n d.s k, d.T, d.l⟩ k.g else ⟨makeS n d.s k, d.T, d.l⟩) else d
def preG (d : Gd) (k : Ky) : Gd := if k.role = 0 then lookG n L d k.g else d
def makeG (d : Gd) (k : Ky) : Gd := if (pgOf d.s.L k).isSome then d else makeD n L (preG n L d k) k
def makeGB (d : Gd) (k : Ky) : Bool := (pgOf d.s.L k).isSome || makeB (preG n L d k).s k
def makeGV (d : Gd) (k : Ky) : Int := match pgOf d.s.L k with
 | some q => q.f
 | none => makeV (preG n L d k).s k
def dropG (d : Gd) (p : Int) : Gd := match pgAt d.s.L p with
 | some q => ⟨dropS d.s p, [], if q.k.role = 0 then d.l.filter fun x => decide (x ≠ q.k.g) else d.l⟩
 | none => d
end
def passB (L : List Pg) (root p i : Int) (page : Nat) : Bool := match pgOf L ⟨root, 3, 0⟩ with
 | none => false
 | some t => decide (p = t.f ∧ ((page / 64 : Nat) : Int) = i) || (match slotP L t.f ((page / 64 : Nat) : Int) with
  | none => false
  | some x => decide (x.kind = 1) && (decide (p = x.to_ ∧ ((page / 8 % 8 : Nat) : Int) = i) || (match slotP L x.to_ ((page / 8 % 8 : Nat) : Int) with
   | none => false
   | some y => decide (y.kind = 1) && decide (p = y.to_ ∧ ((page % 8 : Nat) : Int) = i))))
def reachP (L : List Pg) (root p i : Int) : List Int := ((List.range 512).filter fun k => decide (0 ≤ i ∧ i < 8) && passB L root p i k).map fun k : Nat => (k : Int)
structure GdOk (n a m : Nat) (L : List Int) (d : Gd) : Prop where
 sr : SrOk n a m d.s
 map : InH n L
 ap : ∀ h ∈ L, ¬ ((a : Int) ≤ h ∧ h < a + m)
 pos : 0 < n
 nd : d.l.Nodup
 ls : ∀ g ∈ d.l, ∃ p, ofP d.s.L g = [p] ∧ levP d.s.L p = 1
def Still (a m : Nat) (W W' : List Int) : Prop := W'.length = W.length ∧ ∀ j : Nat, ¬ (a ≤ j / 8 ∧ j / 8 < a + m) → W'.getD j 0 = W.getD j 0
theorem Still.refl (a m : Nat) (W : List Int) : Still a m W W := ⟨rfl, fun _ _ => rfl⟩
theorem Still.trans {a m : Nat} {W W' W'' : List Int} (h : Still a m W W') (k : Still a m W' W'') : Still a m W W'' := ⟨k.1.trans h.1, fun j hj => (k.2 j hj).trans (h.2 j hj)⟩
section
variable {n a m : Nat} {L : List Int} {d : Gd} {s : Sr}
theorem Still.upd (h : SrOk n a m s) (u : Up) : Still a m s.W (updS s u).W := by
 refine ⟨by rw [updS_W]; unfold updW; rw [List.length_mapIdx], fun j hj => ?_⟩
 rw [updS_W, List.getD_eq_getElem?_getD, List.getD_eq_getElem?_getD]
 unfold updW
 rw [List.getElem?_mapIdx]
 have : pgAt s.L ((j / 8 : Nat) : Int) = none := by
  cases e : pgAt s.L ((j / 8 : Nat) : Int) with
  | none => rfl
  | some q =>
   obtain ⟨hq, hf⟩ := pgAt_mem e
   have := h.inL hq
   exfalso; apply hj; omega
 rw [this]; cases s.W[j]? <;> rfl
theorem Still.make (h : SrOk n a m s) (k : Ky) : Still a m s.W (makeS n s k).W := by
 unfold makeS
 split
 ·rename_i hb
  obtain ⟨_, _, hfr⟩ := makeB_has hb
  have hf := h.mem (s.fr.getLastD 0) (by rw [hfr]; simp)
  refine ⟨fillW_len _ _ _ _, fun j hj => ?_⟩
  have := h.le
  simp only
  rw [List.getD_eq_getElem?_getD, List.getD_eq_getElem?_getD, fill_at (by omega) h.len, if_neg (by omega)]
 exact Still.refl _ _ _
theorem Still.drop (h : SrOk n a m s) (p : Int) : Still a m s.W (dropS s p).W := by
 unfold dropS
 split
 ·exact Still.upd h _
 exact Still.refl _ _ _
theorem Still.set (h : SrOk n a m s) {p i : Int} (x : Slt) (f : Int) (hb : hasS s p i = true) : Still a m s.W (setS n s p i x f).W := by
 rw [h.set_upd x f hb]; exact Still.upd h _
theorem Still.clear (h : SrOk n a m s) (p i : Int) : Still a m s.W (clearS n s p i).W := by
 unfold clearS
 split
 ·rename_i hb
  unfold clearB at hb
  cases e : slotP s.L p i with
  | none => rw [e] at hb; simp at hb
  | some x => exact Still.set h _ _ (slot_hasS e)
 exact Still.refl _ _ _
theorem Still.get {W W' : List Int} (h : Still a m W W') (_hi : InH n L) (ha : ∀ h ∈ L, ¬ ((a : Int) ≤ h ∧ h < a + m)) (g i : Int) : getG n W' L g i = getG n W L g i := by
 unfold getG
 split
 ·rename_i hg
  unfold atB at hg; rw [decide_eq_true_eq] at hg
  unfold getW
  split
  ·rename_i hw
   refine h.2 _ ?_
   unfold hasW at hw; rw [decide_eq_true_eq] at hw
   have hm : atV L g ∈ L := by
    unfold atV; rw [if_pos (by unfold atB; rw [decide_eq_true_eq]; exact hg), List.getD_eq_getElem?_getD, List.getElem?_eq_getElem (show g.toNat < L.length by omega)]
    exact List.getElem_mem _
   have := ha _ hm
   omega
  rfl
 rfl
theorem Still.ent {W W' : List Int} (h : Still a m W W') (hi : InH n L) (ha : ∀ h ∈ L, ¬ ((a : Int) ≤ h ∧ h < a + m)) (g i : Int) : entG n L W' g i = entG n L W g i := by
 unfold entG; rw [h.get hi ha]
theorem Still.all {W W' : List Int} (h : Still a m W W') (hi : InH n L) (ha : ∀ h ∈ L, ¬ ((a : Int) ≤ h ∧ h < a + m)) : allG W' L = allG W L := by
 refine list_getD_ext (by rw [allG_len, allG_len]) fun k hk => ?_
 rw [allG_len] at hk
 rw [allG_get _ hk, allG_get _ hk]
 refine h.2 _ ?_
 have e := posG_div hi hk
 have hm : L.getD (k / 8) 0 ∈ L := by
  rw [List.getD_eq_getElem?_getD, List.getElem?_eq_getElem (show k / 8 < L.length by omega)]; exact List.getElem_mem _
 have := ha _ hm
 rw [← e] at this
 omega
theorem writB_iff (h : SrOk n a m s) {g : Int} : writB s g = true ↔ ∃ f i x, slotP s.L f i = some x ∧ x.kind = 2 ∧ x.to_ = g ∧ x.r.w = true := by
 unfold writB
 rw [List.any_eq_true]
 constructor
 ·rintro ⟨q, hq, hx⟩
  rw [List.any_eq_true] at hx
  obtain ⟨x, hx, hd⟩ := hx
  rw [decide_eq_true_eq] at hd
  obtain ⟨i, hi, rfl⟩ := List.getElem_of_mem hx
  have h8 := h.eight q hq
  obtain ⟨y, h1, h2⟩ := h.slot hq (i := i) (by omega)
  rw [List.getElem?_eq_getElem hi] at h1
  injection h1 with h1; subst h1
  exact ⟨_, _, _, h2, hd⟩
 rintro ⟨f, i, x, hx, hd⟩
 obtain ⟨q, e, _, _, h3⟩ := slotP_has hx
 refine ⟨q, (pgAt_mem e).1, ?_⟩
 rw [List.any_eq_true]
 exact ⟨x, List.mem_of_getElem? h3, by rw [decide_eq_true_eq]; exact hd⟩
theorem forbidU_some {g : Int} {f : Int} {i : Nat} {y : Slt × Int} (h : forbidU L s g f i = some y) : ∃ x, slotP s.L f i = some x ∧ x.kind = 2 ∧ x.to_ = g ∧ x.r.w = true ∧ y.1 = ⟨2, g, x.r.noW⟩ ∧ y.2 = wordS ⟨2, g, x.r.noW⟩ (atV L g) := by
 unfold forbidU at h
 split at h
 ·rename_i x e
  split at h
  ·rename_i hc
   injection h with h; subst h
   exact ⟨x, e, hc.1, hc.2.1, hc.2.2, rfl, rfl⟩
  simp at h
 simp at h
theorem atV_rng (hi : InH n L) (hp : 0 < n) (g : Int) : 0 ≤ atV L g ∧ atV L g < n := by
 unfold atV
 split
 ·rename_i hg
  unfold atB at hg; rw [decide_eq_true_eq] at hg
  rw [List.getD_eq_getElem?_getD, List.getElem?_eq_getElem (show g.toNat < L.length by omega)]
  exact hi _ (List.getElem_mem _)
 omega
theorem SrOk.forbid (h : SrOk n a m s) (hi : InH n L) (hp : 0 < n) (g : Int) : SrOk n a m (updS s (forbidU L s g)) := by
 refine h.upd _ fun q hq i hi8 y v e => ?_
 obtain ⟨x, hx, h1, h2, h3, h4, h5⟩ := forbidU_some e
 simp only at h4 h5
 obtain ⟨x', h6, h7⟩ := h.slot hq hi8
 rw [hx] at h7; injection h7 with h7; subst h7
 have hr := atV_rng hi hp g
 have := h.n256
 refine ⟨?_, atV L g, hr.1, by omega, fun e => by rw [h4] at e; simp at e, by rw [h5, h4]⟩
 rcases h.kinds q hq x (List.mem_of_getElem? h6) with h | ⟨h, _⟩ | ⟨_, h⟩
 ·omega
 ·omega
 exact .inr (.inr ⟨by rw [h4], h⟩)
theorem slot_forbid (g f i : Int) : slotP (updS s (forbidU L s g)).L f i = (slotP s.L f i).map fun x => if x.kind = 2 ∧ x.to_ = g ∧ x.r.w = true then ⟨2, g, x.r.noW⟩ else x := by
 rw [updS_L, slot_upd]
 cases e : slotP s.L f i with
 | none => rfl
 | some x =>
  obtain ⟨_, _, h0, _, _⟩ := slotP_has e
  have e2 : ((i.toNat : Nat) : Int) = i := by omega
  rw [Option.map_some, Option.map_some]
  unfold forbidU
  rw [e2, e]
  simp only
  split <;> rfl
theorem GdOk.forbid (h : GdOk n a m L d) (g : Int) : GdOk n a m L (forbidG L d g) := by
 refine ⟨h.sr.forbid h.map h.pos g, h.map, h.ap, h.pos, h.nd, fun x hx => ?_⟩
 obtain ⟨p, h1, h2⟩ := h.ls x hx
 refine ⟨p, ?_, ?_⟩
 ·show ofP (updS d.s _).L x = _; rw [updS_L, of_upd]; exact h1
 show levP (updS d.s _).L p = _; rw [updS_L, lev_upd]; exact h2
theorem forbid_not (h : SrOk n a m s) (hi : InH n L) (hp : 0 < n) (g : Int) : writB (updS s (forbidU L s g)) g = false := by
 rw [Bool.eq_false_iff, Ne, writB_iff (h.forbid hi hp g)]
 rintro ⟨f, i, x, hx, h1, h2, h3⟩
 rw [slot_forbid] at hx
 cases e : slotP s.L f i with
 | none => rw [e] at hx; simp at hx
 | some y =>
  rw [e, Option.map_some] at hx
  injection hx with hx
  split at hx
  ·subst hx; simp [Rg.noW] at h3
  rename_i hc; subst hx; exact hc ⟨h1, h2, h3⟩
theorem GdOk.tight (h : GdOk n a m L d) (g : Int) : GdOk n a m L (tightG d g) :=
 ⟨h.sr, h.map, h.ap, h.pos, h.nd.filter _, fun x hx => h.ls x (List.mem_filter.1 hx).1⟩
theorem GdOk.wipe (h : GdOk n a m L d) (c : Int → Nat → Bool) (T : List Ht) : GdOk n a m L ⟨wipeS d.s c, T, d.l⟩ := by
 refine ⟨h.sr.wipe c, h.map, h.ap, h.pos, h.nd, fun x hx => ?_⟩
 obtain ⟨p, h1, h2⟩ := h.ls x hx
 refine ⟨p, ?_, ?_⟩
 ·show ofP (wipeS d.s c).L x = _; unfold wipeS; rw [updS_L, of_upd]; exact h1
 show levP (wipeS d.s c).L p = _; unfold wipeS; rw [updS_L, lev_upd]; exact h2
theorem GdOk.look (h : GdOk n a m L d) (g : Int) : GdOk n a m L (lookG n L d g) := by
 unfold lookG
 split
 ·exact ((h.tight g).forbid g).wipe _ []
 exact h
theorem look_loose (g : Int) : (lookG n L d g).l = d.l.filter fun x => decide (x ≠ g) := by
 unfold lookG
 split
 ·rfl
 rename_i hb
 unfold looseB at hb
 rw [eq_comm, List.filter_eq_self]
 intro x hx
 rw [decide_eq_true_eq]
 rintro rfl
 exact hb (by simpa using hx)
theorem Still.look (h : GdOk n a m L d) (g : Int) : Still a m d.s.W (lookG n L d g).s.W := by
 unfold lookG
 split
 ·exact (Still.upd h.sr _).trans (Still.upd ((h.tight g).forbid g).sr _)
 exact Still.refl _ _ _
theorem GdOk.setS (h : GdOk n a m L d) {s' : Sr} (hs : SrOk n a m s') (ho : ∀ g, ofP s'.L g = ofP d.s.L g) (hl : ∀ p, levP s'.L p = levP d.s.L p) (T : List Ht) : GdOk n a m L ⟨s', T, d.l⟩ :=
 ⟨hs, h.map, h.ap, h.pos, h.nd, fun x hx => by
  obtain ⟨p, h1, h2⟩ := h.ls x hx
  exact ⟨p, (ho x).trans h1, (hl p).trans h2⟩⟩
theorem of_setP (P : List Pg) (p : Int) (i : Nat) (x : Slt) (g : Int) : ofP (setP P p i x) g = ofP P g := by
 unfold ofP setP
 induction P with
 | nil => rfl
 | cons q P ih =>
  rw [List.map_cons, List.filter_cons, List.filter_cons]
  by_cases hq : q.f = p
  ·simp only [if_pos hq]
   split
   ·rw [List.map_cons, List.map_cons, ih]
   exact ih
  simp only [if_neg hq]
  split
  ·rw [List.map_cons, List.map_cons, ih]
  exact ih
theorem clear_of (p i g : Int) : ofP (clearS n s p i).L g = ofP s.L g := by
 unfold clearS; split
 ·rw [setS_L, of_setP]
 rfl
theorem clear_lev (p i f : Int) : levP (clearS n s p i).L f = levP s.L f := by
 unfold clearS; split
 ·rw [setS_L, lev_setP]
 rfl
theorem GdOk.zap (h : GdOk n a m L d) (p i : Int) : GdOk n a m L (zapG n d p i) := by
 unfold zapG
 split
 ·exact h.setS (h.sr.clear p i) (fun g => clear_of p i g) (fun f => clear_lev p i f) []
 exact h
theorem loosen_has {g : Int} (hb : loosenB d g = true) : g ∉ d.l ∧ ∃ p, ofP d.s.L g = [p] ∧ levP d.s.L p = 1 ∧ ∃ q, toldP 1 p d.s.L = [q] ∧ (toldP 1 q.1 d.s.L).length = 1 := by
 unfold loosenB looseB at hb
 simp only [Bool.and_eq_true, Bool.not_eq_true'] at hb
 refine ⟨by have := hb.1; rw [Bool.eq_false_iff, Ne, List.contains_iff_mem] at this; exact this, ?_⟩
 have h2 := hb.2
 split at h2
 ·rename_i p e
  rw [Bool.and_eq_true, decide_eq_true_eq] at h2
  obtain ⟨h2, h3⟩ := h2
  split at h3
  ·rename_i q e2
   rw [decide_eq_true_eq] at h3
   exact ⟨p, e, h2, q, e2, h3⟩
  simp at h3
 simp at h2
theorem GdOk.loosen (h : GdOk n a m L d) (g : Int) : GdOk n a m L (loosenG d g) := by
 unfold loosenG
 split
 ·rename_i hb
  obtain ⟨h1, p, h2, h3, _⟩ := loosen_has hb
  refine ⟨h.sr, h.map, h.ap, h.pos, ?_, fun x hx => ?_⟩
  ·rw [List.nodup_append]; refine ⟨h.nd, by simp, ?_⟩
   intro x hx y hy e
   simp at hy; subst hy; subst e; exact h1 hx
  rcases List.mem_append.1 hx with hx | hx
  ·exact h.ls x hx
  simp at hx; subst hx; exact ⟨p, h2, h3⟩
 exact h
theorem of_app (P Q : List Pg) (g : Int) : ofP (P ++ Q) g = ofP P g ++ ofP Q g := by
 unfold ofP; rw [List.filter_append, List.map_append]
theorem make_of {k : Ky} (hb : makeB s k = true) (g : Int) : ofP (makeS n s k).L g = ofP s.L g ++ if k.role = 0 ∧ k.g = g then [s.fr.getLastD 0] else [] := by
 unfold makeS; rw [if_pos hb]
 simp only [of_app]
 congr 1
 unfold ofP
 by_cases h : k.role = 0 ∧ k.g = g
 ·simp [h]
 simp [h]
theorem lev_app {P Q : List Pg} {p : Int} (h : (pgAt P p).isSome = true) : levP (P ++ Q) p = levP P p := by
 unfold levP
 cases e : pgAt P p with
 | none => rw [e] at h; simp at h
 | some q => rw [pgAt_app e]
theorem of_mem {P : List Pg} {g p : Int} : p ∈ ofP P g ↔ ∃ q ∈ P, q.f = p ∧ q.k.role = 0 ∧ q.k.g = g := by
 unfold ofP
 rw [List.mem_map]
 constructor
 ·rintro ⟨q, hq, rfl⟩
  rw [List.mem_filter, decide_eq_true_eq] at hq
  exact ⟨q, hq.1, rfl, hq.2⟩
 rintro ⟨q, hq, rfl, h⟩
 exact ⟨q, List.mem_filter.2 ⟨hq, by rw [decide_eq_true_eq]; exact h⟩, rfl⟩
theorem of_some {P : List Pg} {g p : Int} (h : p ∈ ofP P g) : (pgAt P p).isSome = true := by
 obtain ⟨q, hq, rfl, _⟩ := of_mem.1 h
 cases e : pgAt P q.f with
 | none => exact absurd rfl (pgAt_none.1 e q hq)
 | some _ => rfl
theorem GdOk.made (h : GdOk n a m L d) {k : Ky} (hk : k.role = 0 → k.g ∉ d.l) : GdOk n a m L (makeD n L d k) := by
 unfold makeD
 split
 ·rename_i hb
  have h1 : GdOk n a m L ⟨makeS n d.s k, d.T, d.l⟩ := by
   refine ⟨h.sr.make k, h.map, h.ap, h.pos, h.nd, fun x hx => ?_⟩
   obtain ⟨p, h2, h3⟩ := h.ls x hx
   refine ⟨p, ?_, ?_⟩
   ·rw [make_of hb, h2, if_neg]
    ·rfl
    rintro ⟨h4, rfl⟩; exact hk h4 hx
   have := of_some (P := d.s.L) (g := x) (p := p) (by rw [h2]; simp)
   unfold makeS; rw [if_pos hb]
   simp only
   rw [lev_app this]; exact h3
  split
  ·exact h1.forbid _
  exact h1
 exact h
theorem GdOk.pre (h : GdOk n a m L d) (k : Ky) : GdOk n a m L (preG n L d k) ∧ (k.role = 0 → k.g ∉ (preG n L d k).l) := by
 unfold preG
 split
 ·refine ⟨h.look _, fun _ => ?_⟩
  rw [look_loose]; simp
 rename_i hr; exact ⟨h, fun e => absurd e hr⟩
theorem of_drop {p : Int} (hb : dropB s p = true) (g : Int) : ofP (dropS s p).L g = (ofP s.L g).filter fun f => decide (f ≠ p) := by
 unfold dropS; rw [if_pos hb]
 simp only
 have e := of_upd s.L (wipeU (goneC s.L p)) g
 rw [← e]
 show ofP (List.filter _ (updP _ _)) g = _
 unfold ofP
 rw [List.filter_filter, List.filter_map, List.filter_filter]
 congr 1
 apply List.filter_congr
 intro q _
 rw [Bool.and_comm]; rfl
theorem lev_drop {p f : Int} (hb : dropB s p = true) (hf : f ≠ p) : levP (dropS s p).L f = levP s.L f := by
 unfold dropS; rw [if_pos hb]
 simp only
 unfold levP
 rw [pgAt_filter, if_neg hf]
 have := lev_upd s.L (wipeU (goneC s.L p)) f
 unfold levP at this
 exact this
theorem GdOk.drop (h : GdOk n a m L d) (p : Int) : GdOk n a m L (dropG d p) := by
 unfold dropG
 split
 ·rename_i q e
  have hb : dropB d.s p = true := by unfold dropB; rw [e]; rfl
  obtain ⟨hq, hf⟩ := pgAt_mem e
  refine ⟨h.sr.drop p, h.map, h.ap, h.pos, ?_, fun x hx => ?_⟩
  ·simp only; split
   ·exact h.nd.filter _
   exact h.nd
  simp only at hx ⊢
  have hx' : x ∈ d.l ∧ (q.k.role = 0 → x ≠ q.k.g) := by
   split at hx
   ·rw [List.mem_filter, decide_eq_true_eq] at hx; exact ⟨hx.1, fun _ => hx.2⟩
   rename_i hr; exact ⟨hx, fun e => absurd e hr⟩
  obtain ⟨p', h1, h2⟩ := h.ls x hx'.1
  have hne : p' ≠ p := by
   rintro rfl
   obtain ⟨q', hq', hf', hr', hg'⟩ := of_mem.1 (show p' ∈ ofP d.s.L x by rw [h1]; simp)
   have : q' = q := by have := h.sr.at_ hq'; rw [hf', e] at this; injection this with this; exact this.symm
   subst this
   exact hx'.2 hr' hg'.symm
  refine ⟨p', ?_, ?_⟩
  ·rw [of_drop hb, h1]; simp [hne]
  rw [lev_drop hb hne]; exact h2
 exact h
theorem Still.zap (h : GdOk n a m L d) (p i : Int) : Still a m d.s.W (zapG n d p i).s.W := by
 unfold zapG; split
 ·exact Still.clear h.sr p i
 exact Still.refl _ _ _
theorem Still.made (h : GdOk n a m L d) (k : Ky) : Still a m d.s.W (makeD n L d k).s.W := by
 unfold makeD
 split
 ·split
  ·exact (Still.make h.sr k).trans (Still.upd (h.sr.make k) _)
  exact Still.make h.sr k
 exact Still.refl _ _ _
theorem Still.makes (h : GdOk n a m L d) (k : Ky) : Still a m d.s.W (makeG n L d k).s.W := by
 unfold makeG
 split
 ·exact Still.refl _ _ _
 refine Still.trans (W' := (preG n L d k).s.W) ?_ (Still.made (h.pre k).1 k)
 unfold preG; split
 ·exact Still.look h _
 exact Still.refl _ _ _
theorem Still.dropG (h : GdOk n a m L d) (p : Int) : Still a m d.s.W (dropG d p).s.W := by
 unfold Go.Proofs.YtmbgepafpcbakaaGreatDoor.dropG; split
 ·exact Still.drop h.sr p
 exact Still.refl _ _ _
theorem slot_look (h : GdOk n a m L d) {g : Int} (hl : looseB d g = true) (f i : Int) : slotP (lookG n L d g).s.L f i = (slotP d.s.L f i).map fun x =>
  let y := if x.kind = 2 ∧ x.to_ = g then ⟨2, g, x.r.noW⟩ else x
  if f ∈ ofP d.s.L g ∧ y.kind = 2 ∧ agreeB y (entG n L d.s.W g i) = false then Slt.no else y := by
 unfold lookG
 rw [if_pos hl]
 simp only
 rw [slot_wipe]
 unfold forbidG
 simp only
 rw [slot_forbid]
 show Option.map _ (Option.map _ (slotP d.s.L f i)) = _
 cases e : slotP d.s.L f i with
 | none => rfl
 | some x =>
  obtain ⟨_, _, h0, _, _⟩ := slotP_has e
  have e2 : ((i.toNat : Nat) : Int) = i := by omega
  simp only [Option.map_some]
  congr 1
  have hy : (if x.kind = 2 ∧ x.to_ = g ∧ x.r.w = true then (⟨2, g, x.r.noW⟩ : Slt) else x) = if x.kind = 2 ∧ x.to_ = g then ⟨2, g, x.r.noW⟩ else x := by
   by_cases h1 : x.kind = 2 ∧ x.to_ = g
   ·by_cases h2 : x.r.w = true
    ·rw [if_pos ⟨h1.1, h1.2, h2⟩, if_pos h1]
    rw [if_neg (fun h => h2 h.2.2), if_pos h1]
    rw [Slt.ext_]
    refine ⟨h1.1, h1.2, ?_⟩
    simp at h2
    unfold Rg.noW; exact Rg.ext_ h2 rfl rfl
   rw [if_neg (fun h => h1 ⟨h.1, h.2.1⟩), if_neg h1]
  rw [hy]
  generalize (if x.kind = 2 ∧ x.to_ = g then (⟨2, g, x.r.noW⟩ : Slt) else x) = y at hy ⊢
  have hs : slotP (updS (tightG d g).s (forbidU L (tightG d g).s g)).L f i = some y := by
   rw [slot_forbid]; show Option.map _ (slotP d.s.L f i) = _; rw [e, Option.map_some, hy]
  have hent : entG n L (updS (tightG d g).s (forbidU L (tightG d g).s g)).W g i = entG n L d.s.W g i := (Still.upd h.sr (forbidU L (tightG d g).s g)).ent h.map h.ap g i
  have hc : lookC n L (updS (tightG d g).s (forbidU L (tightG d g).s g)) g f i.toNat = decide (f ∈ ofP d.s.L g ∧ y.kind = 2 ∧ agreeB y (entG n L d.s.W g i) = false) := by
   unfold lookC
   rw [e2, hs, hent, updS_L, of_upd]
   show ((ofP d.s.L g).contains f && _) = _
   rw [Bool.eq_iff_iff]; simp
  rw [hc]
  simp only [decide_eq_true_eq]
theorem loosen_loose (d : Gd) (g x : Int) : looseB (loosenG d g) x = (looseB d x || (loosenB d g && x == g)) := by
 unfold loosenG
 cases hb : loosenB d g with
 | false => simp
 | true =>
  simp only [if_true, Bool.true_and]
  unfold looseB
  rw [Bool.eq_iff_iff]; simp
theorem prot_loose {g : Int} : protB d g = (decide (0 < (ofP d.s.L g).length) && !looseB d g) := by
 unfold protB
 congr 1
 cases ofP d.s.L g <;> simp
theorem reach_mem {P : List Pg} {root p i x : Int} : x ∈ reachP P root p i ↔ ∃ k : Nat, k < 512 ∧ x = k ∧ (0 ≤ i ∧ i < 8) ∧ passB P root p i k = true := by
 unfold reachP
 rw [List.mem_map]
 constructor
 ·rintro ⟨k, hk, rfl⟩
  rw [List.mem_filter, List.mem_range, Bool.and_eq_true, decide_eq_true_eq] at hk
  exact ⟨k, hk.1, rfl, hk.2.1, hk.2.2⟩
 rintro ⟨k, hk, rfl, h1, h2⟩
 exact ⟨k, by rw [List.mem_filter, List.mem_range, Bool.and_eq_true, decide_eq_true_eq]; exact ⟨hk, h1, h2⟩, rfl⟩
theorem zap_slot (h : SrOk n a m d.s) (p i : Int) (hi : 0 ≤ i ∧ i ≤ 7) (f j : Int) : slotP (zapG n d p i).s.L f j = (slotP d.s.L f j).map fun x => if f = p ∧ j = i then Slt.no else x := by
 have e : (zapG n d p i).s = clearS n d.s p i := by
  unfold zapG; split
  ·rfl
  rename_i hb; unfold clearS; rw [if_neg hb]
 rw [e, h.clear_wipe p i hi, slot_wipe]
 cases e2 : slotP d.s.L f j with
 | none => rfl
 | some x =>
  obtain ⟨_, _, h0, _, _⟩ := slotP_has e2
  rw [Option.map_some, Option.map_some]
  have : decide (f = p ∧ j.toNat = i.toNat) = decide (f = p ∧ j = i) := by
   apply decide_eq_decide.2
   constructor
   ·rintro ⟨h1, h2⟩; exact ⟨h1, by omega⟩
   rintro ⟨h1, h2⟩; exact ⟨h1, by omega⟩
  simp only [this, decide_eq_true_eq]
end
section
variable {n a m : Nat} {L : List Int} {d : Gd} {s : Sr}
def slV (P : List Pg) (x : Int × Int) : Slt := (slotP P x.1 x.2).getD Slt.no
theorem slV_at {P : List Pg} {x : Int × Int} {y : Slt} (h : slotP P x.1 x.2 = some y) : slV P x = y := by unfold slV; rw [h]; rfl
def fstepG (n : Nat) (L : List Int) (g : Int) (d : Gd) (x : Int × Int) : Gd := if (slV d.s.L x).r.w then ⟨leafS n d.s x.1 x.2 g (atV L g) (slV d.s.L x).r.noW, [], d.l⟩ else d
def forbidR (L : List Int) (s : Sr) (g : Int) (l : List (Int × Int)) : Up := fun f i => if (f, (i : Int)) ∈ l then forbidU L s g f i else none
theorem forbidR_some {g : Int} {l : List (Int × Int)} {f : Int} {i : Nat} {y : Slt × Int} (h : forbidR L s g l f i = some y) : forbidU L s g f i = some y := by
 unfold forbidR at h; split at h
 ·exact h
 cases h
theorem SrOk.forbidR (h : SrOk n a m s) (hi : InH n L) (hp : 0 < n) (g : Int) (l : List (Int × Int)) : SrOk n a m (updS s (forbidR L s g l)) := by
 refine h.upd _ fun q hq i hi8 y v e => ?_
 obtain ⟨x, hx, h1, h2, h3, h4, h5⟩ := forbidU_some (forbidR_some e)
 simp only at h4 h5
 obtain ⟨x', h6, h7⟩ := h.slot hq hi8
 rw [hx] at h7; injection h7 with h7; subst h7
 have hr := atV_rng hi hp g
 have := h.n256
 refine ⟨?_, atV L g, hr.1, by omega, fun e => by rw [h4] at e; simp at e, by rw [h5, h4]⟩
 rcases h.kinds q hq x (List.mem_of_getElem? h6) with h | ⟨h, _⟩ | ⟨_, h⟩
 ·omega
 ·omega
 exact .inr (.inr ⟨by rw [h4], h⟩)
def LeafAt (s : Sr) (g : Int) (x : Int × Int) : Prop := ∃ y, slotP s.L x.1 x.2 = some y ∧ y.kind = 2 ∧ y.to_ = g
theorem forbid_step (h : SrOk n a m s) (hi : InH n L) (hp : 0 < n) (g : Int) (l : List (Int × Int)) (x : Int × Int) (hx : LeafAt s g x) (T : List Ht) (ll : List Int) :
  fstepG n L g ⟨updS s (forbidR L s g l), T, ll⟩ x = ⟨updS s (forbidR L s g (l ++ [x])), if (slV s.L x).r.w && !decide (x ∈ l) then [] else T, ll⟩ := by
 obtain ⟨f, i⟩ := x
 obtain ⟨y, hy, hk, ht⟩ := hx
 simp only at hy
 obtain ⟨q, hq, h0, h7, hq2⟩ := slotP_has hy
 have e2 : ((i.toNat : Nat) : Int) = i := by omega
 have hs1 : slotP (updS s (Go.Proofs.YtmbgepafpcbakaaGreatDoor.forbidR L s g l)).L f i = some (updX (Go.Proofs.YtmbgepafpcbakaaGreatDoor.forbidR L s g l f i.toNat) y) := by rw [updS_L, slot_upd, hy]; rfl
 have hU : forbidU L s g f i.toNat = if y.r.w = true then some (⟨2, g, y.r.noW⟩, wordS ⟨2, g, y.r.noW⟩ (atV L g)) else none := by
  unfold forbidU; rw [e2, hy]; simp only [hk, ht, true_and]
 have hR : Go.Proofs.YtmbgepafpcbakaaGreatDoor.forbidR L s g l f i.toNat = if (f, i) ∈ l then forbidU L s g f i.toNat else none := by unfold Go.Proofs.YtmbgepafpcbakaaGreatDoor.forbidR; rw [e2]
 have hsv : slV s.L (f, i) = y := slV_at hy
 unfold fstepG
 simp only
 rw [show slV (updS s (Go.Proofs.YtmbgepafpcbakaaGreatDoor.forbidR L s g l)).L (f, i) = updX (Go.Proofs.YtmbgepafpcbakaaGreatDoor.forbidR L s g l f i.toNat) y from slV_at hs1, hsv, hR, hU]
 by_cases hm : (f, i) ∈ l
 ·have e : Go.Proofs.YtmbgepafpcbakaaGreatDoor.forbidR L s g (l ++ [(f, i)]) = Go.Proofs.YtmbgepafpcbakaaGreatDoor.forbidR L s g l := by
   funext f' i'; unfold Go.Proofs.YtmbgepafpcbakaaGreatDoor.forbidR
   by_cases h1 : (f', (i' : Int)) ∈ l
   ·simp [h1]
   have : (f', (i' : Int)) ≠ (f, i) := fun e => h1 (e ▸ hm)
   simp [h1, this]
  rw [if_pos hm, e]
  by_cases hw : y.r.w = true
  ·simp [hw, updX, Rg.noW, hm]
  simp [hw, updX]
 rw [if_neg hm]
 by_cases hw : y.r.w = true
 ·rw [if_pos (by simp [updX, hw]), if_pos (by simp [hw, hm])]
  congr 1
  have h1 := h.forbidR hi hp g l
  have hr := atV_rng hi hp g
  have hlev : levP s.L f = 1 := by
   unfold levP; rw [hq]
   rcases h.kinds q (pgAt_mem hq).1 y (List.mem_of_getElem? hq2) with h | ⟨h, _⟩ | ⟨_, h⟩
   ·omega
   ·omega
   exact h
  have hb : leafB n (updS s (Go.Proofs.YtmbgepafpcbakaaGreatDoor.forbidR L s g l)) f i (atV L g) = true := by
   unfold leafB
   rw [slot_hasS hs1, updS_L, lev_upd, hlev]; simp [hr]
  unfold leafS
  rw [if_pos hb, h1.set_upd _ _ (slot_hasS hs1), upd_upd]
  show updS s _ = _
  congr 1
  funext f' i'
  simp only [updX, Option.map_none, Option.getD_none]
  unfold oneU Go.Proofs.YtmbgepafpcbakaaGreatDoor.forbidR
  by_cases hfi : f' = f ∧ i' = i.toNat
  ·obtain ⟨rfl, rfl⟩ := hfi
   rw [if_pos ⟨rfl, rfl⟩, e2, if_pos (show (f', i) ∈ l ++ [(f', i)] by simp), hU, if_pos hw]; rfl
  have hne : (f', (i' : Int)) ≠ (f, i) := fun e => hfi ⟨congrArg Prod.fst e, by have := congrArg Prod.snd e; simp only at this; omega⟩
  rw [if_neg hfi]; simp [hne]
 rw [if_neg (by simp [updX, hw]), if_neg (by simp [hw])]
 congr 2
 funext f' i'
 unfold Go.Proofs.YtmbgepafpcbakaaGreatDoor.forbidR
 by_cases hfi : (f', (i' : Int)) = (f, i)
 ·have e1 := congrArg Prod.fst hfi; have e3 := congrArg Prod.snd hfi
  simp only at e1 e3
  subst e1
  have e4 : i' = i.toNat := by omega
  subst e4
  rw [hfi, if_neg hm, if_pos (by simp), hU, if_neg hw]
 simp [hfi]
theorem forbid_fold (h : SrOk n a m s) (hi : InH n L) (hp : 0 < n) (g : Int) (T : List Ht) (ll : List Int) : ∀ (l l0 : List (Int × Int)), (∀ x ∈ l, LeafAt s g x) → (T0 : List Ht) → T0 = (if ∃ x ∈ l0, (slV s.L x).r.w = true then [] else T) →
  l.foldl (fstepG n L g) ⟨updS s (forbidR L s g l0), T0, ll⟩ = ⟨updS s (forbidR L s g (l0 ++ l)), if ∃ x ∈ l0 ++ l, (slV s.L x).r.w = true then [] else T, ll⟩
 | [], l0, _, T0, hT => by rw [List.foldl_nil, List.append_nil, hT]
 | x :: l, l0, hl, T0, hT => by
  rw [List.foldl_cons, forbid_step h hi hp g l0 x (hl x (by simp)), forbid_fold h hi hp g T ll l (l0 ++ [x]) (fun y hy => hl y (by simp [hy])) _ ?_, List.append_assoc]; rfl
  subst hT
  by_cases h1 : ∃ y ∈ l0, (slV s.L y).r.w = true
  ·obtain ⟨y, hy1, hy2⟩ := h1
   rw [if_pos (⟨y, by simp [hy1], hy2⟩ : ∃ y ∈ l0 ++ [x], (slV s.L y).r.w = true), if_pos (⟨y, hy1, hy2⟩ : ∃ y ∈ l0, (slV s.L y).r.w = true)]
   split <;> rfl
  rw [if_neg h1]
  by_cases hw : (slV s.L x).r.w = true
  ·have hx : x ∉ l0 := fun hm => h1 ⟨x, hm, hw⟩
   rw [if_pos (⟨x, by simp, hw⟩ : ∃ y ∈ l0 ++ [x], (slV s.L y).r.w = true), if_pos (by simp [hw, hx])]
  rw [if_neg (by simp [hw]), if_neg]
  rintro ⟨y, hy, hw'⟩
  rw [List.mem_append, List.mem_singleton] at hy
  rcases hy with hy | rfl
  ·exact h1 ⟨y, hy, hw'⟩
  exact hw hw'
theorem told_slot (h : SrOk n a m s) {kind g : Int} {x : Int × Int} : x ∈ toldP kind g s.L ↔ ∃ y, slotP s.L x.1 x.2 = some y ∧ y.kind = kind ∧ y.to_ = g := by
 obtain ⟨f, i⟩ := x
 rw [told_mem]
 constructor
 ·rintro ⟨q, hq, rfl, j, y, hy, rfl, h1, h2⟩
  have hj := (List.getElem?_eq_some_iff.1 hy).1
  rw [h.eight q hq] at hj
  obtain ⟨y', h3, h4⟩ := h.slot hq hj
  rw [hy] at h3; injection h3 with h3; subst h3
  exact ⟨y, h4, h1, h2⟩
 rintro ⟨y, hy, h1, h2⟩
 obtain ⟨q, hq, h0, h7, hy2⟩ := slotP_has hy
 simp only at hq h0 h7 hy2
 exact ⟨q, (pgAt_mem hq).1, (pgAt_mem hq).2.symm, i.toNat, y, hy2, by omega, h1, h2⟩
theorem forbid_is (h : SrOk n a m d.s) (hi : InH n L) (hp : 0 < n) (g : Int) : (toldP 2 g d.s.L).foldl (fstepG n L g) d = forbidG L d g := by
 have e0 : d = ⟨updS d.s (Go.Proofs.YtmbgepafpcbakaaGreatDoor.forbidR L d.s g []), d.T, d.l⟩ := by
  have : Go.Proofs.YtmbgepafpcbakaaGreatDoor.forbidR L d.s g [] = fun _ _ => none := by funext f i; unfold Go.Proofs.YtmbgepafpcbakaaGreatDoor.forbidR; simp
  rw [this, h.upd_id (by intro q _ i _ y e; cases e)]
 have hf := forbid_fold h hi hp g d.T d.l (toldP 2 g d.s.L) [] (fun x hx => (told_slot h).1 hx) d.T (by simp)
 rw [← e0] at hf
 rw [hf, List.nil_append]
 unfold forbidG
 refine Gd.ext_ ?_ ?_ rfl
 ·show updS d.s _ = updS d.s _
  congr 1
  funext f i
  unfold Go.Proofs.YtmbgepafpcbakaaGreatDoor.forbidR
  split
  ·rfl
  rename_i hm
  cases e : forbidU L d.s g f i with
  | none => rfl
  | some y =>
   obtain ⟨x, hx, h1, h2, _⟩ := forbidU_some e
   exact absurd ((told_slot h).2 ⟨x, hx, h1, h2⟩) hm
 show (if _ then _ else _) = if _ then _ else _
 have : (∃ x ∈ toldP 2 g d.s.L, (slV d.s.L x).r.w = true) ↔ writB d.s g = true := by
  rw [writB_iff h]
  constructor
  ·rintro ⟨x, hx, hw⟩
   obtain ⟨y, hy, h1, h2⟩ := (told_slot h).1 hx
   rw [slV_at hy] at hw
   exact ⟨x.1, x.2, y, hy, h1, h2, hw⟩
  rintro ⟨f, i, y, hy, h1, h2, hw⟩
  exact ⟨(f, i), (told_slot h).2 ⟨y, hy, h1, h2⟩, by rw [slV_at hy]; exact hw⟩
 simp only [this]
def badC (n : Nat) (L : List Int) (s : Sr) (g : Int) (x : Int × Int) : Bool := decide ((slV s.L x).kind = 2) && !agreeB (slV s.L x) (entG n L s.W g x.2)
def pstepS (n : Nat) (L : List Int) (g : Int) (s : Sr) (x : Int × Int) : Sr := if badC n L s g x then clearS n s x.1 x.2 else s
def eight (p : Int) (k : Nat) : List (Int × Int) := (List.range k).map fun (i : Nat) => (p, (i : Int))
theorem eight_succ (p : Int) (k : Nat) : eight p (k + 1) = eight p k ++ [(p, (k : Int))] := by unfold eight; rw [List.range_succ, List.map_append]; rfl
theorem mem_eight {p : Int} {k : Nat} {x : Int × Int} : x ∈ eight p k ↔ x.1 = p ∧ 0 ≤ x.2 ∧ x.2 < k := by
 obtain ⟨f, i⟩ := x
 unfold eight
 rw [List.mem_map]
 constructor
 ·rintro ⟨j, hj, e⟩
  rw [List.mem_range] at hj
  injection e with e1 e2
  subst e1; subst e2
  exact ⟨rfl, by omega, by omega⟩
 rintro ⟨h1, h2, h3⟩
 simp only at h1 h2 h3
 exact ⟨i.toNat, by rw [List.mem_range]; omega, by rw [h1]; congr 1; omega⟩
def pruneK (n : Nat) (L : List Int) (g : Int) (s : Sr) (p : Int) (k : Nat) : Sr := (eight p k).foldl (pstepS n L g) s
def pruneS (n : Nat) (L : List Int) (g : Int) (s : Sr) (p : Int) : Sr := pruneK n L g s p 8
theorem pruneK_succ (g p : Int) (k : Nat) : pruneK n L g s p (k + 1) = pstepS n L g (pruneK n L g s p k) (p, (k : Int)) := by unfold pruneK; rw [eight_succ, List.foldl_append]; rfl
theorem SrOk.pstep (h : SrOk n a m s) (g : Int) (x : Int × Int) : SrOk n a m (pstepS n L g s x) := by
 unfold pstepS; split
 ·exact h.clear _ _
 exact h
theorem SrOk.psteps (g : Int) : ∀ (l : List (Int × Int)) {s : Sr}, SrOk n a m s → SrOk n a m (l.foldl (pstepS n L g) s)
 | [], _, h => h
 | x :: l, _, h => SrOk.psteps g l (h.pstep g x)
theorem prune_wipe (h : SrOk n a m s) (hi : InH n L) (ha : ∀ h ∈ L, ¬ ((a : Int) ≤ h ∧ h < a + m)) (g : Int) (c : Int → Nat → Bool) (x : Int × Int) (hx : 0 ≤ x.2 ∧ x.2 ≤ 7) :
  pstepS n L g (wipeS s c) x = wipeS s fun f i => c f i || (decide ((f, (i : Int)) = x) && badC n L s g x) := by
 obtain ⟨p, i⟩ := x
 simp only at hx
 have e2 : ((i.toNat : Nat) : Int) = i := by omega
 have hw := h.wipe c
 have hent : entG n L (wipeS s c).W g i = entG n L s.W g i := Still.ent (Still.upd h (wipeU c)) hi ha g i
 have hsl : slV (wipeS s c).L (p, i) = if c p i.toNat then Slt.no else slV s.L (p, i) := by
  unfold slV; rw [slot_wipe]
  cases slotP s.L p i with
  | none => simp
  | some y => rfl
 have hbad : badC n L (wipeS s c) g (p, i) = (!c p i.toNat && badC n L s g (p, i)) := by
  unfold badC
  rw [hsl, hent]
  cases c p i.toNat
  ·simp
  simp [Slt.no]
 unfold pstepS
 rw [hbad]
 by_cases h1 : c p i.toNat = true
 ·rw [if_neg (by simp [h1])]
  congr 1
  funext f j
  by_cases hfj : (f, (j : Int)) = (p, i)
  ·have e1 := congrArg Prod.fst hfj; have e3 := congrArg Prod.snd hfj
   simp only at e1 e3
   subst e1
   have : j = i.toNat := by omega
   subst this
   simp [h1]
  simp [hfj]
 simp only [Bool.not_eq_true] at h1
 rw [h1, Bool.not_false, Bool.true_and]
 cases hb : badC n L s g (p, i) with
 | false => simp
 | true =>
  rw [if_pos rfl, hw.clear_wipe p i hx, wipe_wipe]
  congr 1
  funext f j
  have : decide (f = p ∧ j = i.toNat) = decide ((f, (j : Int)) = (p, i)) := by
   apply decide_eq_decide.2
   rw [Prod.mk.injEq]
   constructor
   ·rintro ⟨h1, h2⟩; exact ⟨h1, by omega⟩
   rintro ⟨h1, h2⟩; exact ⟨h1, by omega⟩
  rw [this]; simp
theorem prunes_wipe (h : SrOk n a m s) (hi : InH n L) (ha : ∀ h ∈ L, ¬ ((a : Int) ≤ h ∧ h < a + m)) (g : Int) : ∀ (l l0 : List (Int × Int)), (∀ x ∈ l, 0 ≤ x.2 ∧ x.2 ≤ 7) →
  l.foldl (pstepS n L g) (wipeS s fun f i => decide ((f, (i : Int)) ∈ l0) && badC n L s g (f, (i : Int))) = wipeS s fun f i => decide ((f, (i : Int)) ∈ l0 ++ l) && badC n L s g (f, (i : Int))
 | [], l0, _ => by rw [List.foldl_nil, List.append_nil]
 | x :: l, l0, hl => by
  rw [List.foldl_cons, prune_wipe h hi ha g _ x (hl x (by simp))]
  have e : (fun (f : Int) (i : Nat) => (decide ((f, (i : Int)) ∈ l0) && badC n L s g (f, (i : Int))) || (decide ((f, (i : Int)) = x) && badC n L s g x)) = fun (f : Int) (i : Nat) => decide ((f, (i : Int)) ∈ l0 ++ [x]) && badC n L s g (f, (i : Int)) := by
   funext f i
   by_cases hx : (f, (i : Int)) = x
   ·subst hx
    cases badC n L s g (f, (i : Int)) <;> simp
   simp [hx]
  rw [e, prunes_wipe h hi ha g l (l0 ++ [x]) (fun y hy => hl y (by simp [hy])), List.append_assoc]; rfl
theorem prunes_is (h : SrOk n a m s) (hi : InH n L) (ha : ∀ h ∈ L, ¬ ((a : Int) ≤ h ∧ h < a + m)) (g : Int) : (ofP s.L g).foldl (pruneS n L g) s = wipeS s (lookC n L s g) := by
 have e1 : (ofP s.L g).foldl (pruneS n L g) s = ((ofP s.L g).flatMap fun p => eight p 8).foldl (pstepS n L g) s := by
  rw [List.foldl_flatMap]; rfl
 have hn : wipeS s (fun f i => decide ((f, (i : Int)) ∈ ([] : List (Int × Int))) && badC n L s g (f, (i : Int))) = s := by
  have : (fun (f : Int) (i : Nat) => decide ((f, (i : Int)) ∈ ([] : List (Int × Int))) && badC n L s g (f, (i : Int))) = fun _ _ => false := by funext f i; simp
  rw [this]; unfold wipeS; exact h.upd_id (by intro q _ i _ y e; simp [wipeU] at e)
 have hf := prunes_wipe h hi ha g ((ofP s.L g).flatMap fun p => eight p 8) [] (fun x hx => by
  obtain ⟨p, _, hx⟩ := List.mem_flatMap.1 hx
  have := mem_eight.1 hx; omega)
 rw [hn] at hf
 rw [e1, hf, List.nil_append]
 congr 1
 funext f i
 unfold lookC badC slV
 simp only
 by_cases hi8 : i < 8
 ·have : decide ((f, (i : Int)) ∈ (ofP s.L g).flatMap fun p => eight p 8) = (ofP s.L g).contains f := by
   rw [Bool.eq_iff_iff, decide_eq_true_eq, List.mem_flatMap, List.contains_iff_mem]
   constructor
   ·rintro ⟨p, hp, hx⟩
    have := (mem_eight.1 hx).1
    simp only at this
    rw [this]; exact hp
   intro hf
   exact ⟨f, hf, mem_eight.2 ⟨rfl, by show (0 : Int) ≤ i; omega, by show (i : Int) < 8; omega⟩⟩
  rw [this]
  cases slotP s.L f (i : Int) with
  | none => simp [Slt.no]
  | some y => simp
 have e3 : slotP s.L f (i : Int) = none := by unfold slotP; rw [if_neg (by omega)]
 rw [e3]; simp [Slt.no]
theorem SrOk.prune (h : SrOk n a m s) (g p : Int) (k : Nat) : SrOk n a m (pruneK n L g s p k) := SrOk.psteps g _ h
theorem look_is (h : GdOk n a m L d) {g : Int} (hl : looseB d g = true) : lookG n L d g = ⟨(ofP d.s.L g).foldl (pruneS n L g) (forbidG L (tightG d g) g).s, [], (tightG d g).l⟩ := by
 unfold lookG
 rw [if_pos hl]
 have h1 := (h.tight g).forbid g
 have := prunes_is h1.sr h.map h.ap g
 have e : ofP (forbidG L (tightG d g) g).s.L g = ofP d.s.L g := by unfold forbidG tightG; simp only [updS_L, of_upd]
 rw [e] at this
 rw [this]
def rchL (P : List Pg) (p i : Int) : Nat → Int → Nat → List Int
 | 0, _, _ => []
 | k + 1, q, first => if q = p then (List.range (8 ^ k)).map fun (j : Nat) => (first : Int) + i * (8 ^ k : Nat) + (j : Int)
  else (List.range 8).flatMap fun (j : Nat) => if (slV P (q, (j : Int))).kind = 1 then rchL P p i k (slV P (q, (j : Int))).to_ (first + j * 8 ^ k) else []
def rchK (P : List Pg) (p i : Int) (k : Nat) (q : Int) (first j : Nat) : List Int := (List.range j).flatMap fun (j : Nat) => if (slV P (q, (j : Int))).kind = 1 then rchL P p i k (slV P (q, (j : Int))).to_ (first + j * 8 ^ k) else []
theorem rchK_zero (P : List Pg) (p i : Int) (k : Nat) (q : Int) (first : Nat) : rchK P p i k q first 0 = [] := rfl
theorem rchK_succ (P : List Pg) (p i : Int) (k : Nat) (q : Int) (first j : Nat) : rchK P p i k q first (j + 1) = rchK P p i k q first j ++ if (slV P (q, (j : Int))).kind = 1 then rchL P p i k (slV P (q, (j : Int))).to_ (first + j * 8 ^ k) else [] := by
 unfold rchK; rw [List.range_succ, List.flatMap_append]; simp
theorem rchL_self (P : List Pg) (p i : Int) (k first : Nat) : rchL P p i (k + 1) p first = (List.range (8 ^ k)).map fun (j : Nat) => (first : Int) + i * (8 ^ k : Nat) + (j : Int) := by rw [rchL, if_pos rfl]
theorem rchL_other (P : List Pg) (p i : Int) (k : Nat) {q : Int} (first : Nat) (h : q ≠ p) : rchL P p i (k + 1) q first = rchK P p i k q first 8 := by rw [rchL, if_neg h]; rfl
theorem rchK_len (P : List Pg) (p i : Int) (k : Nat) (h : ∀ q first, (rchL P p i k q first).length ≤ 8 ^ k) (q : Int) (first : Nat) : ∀ j, (rchK P p i k q first j).length ≤ j * 8 ^ k
 | 0 => by rw [rchK_zero]; simp
 | j + 1 => by
  rw [rchK_succ, List.length_append, Nat.add_mul, Nat.one_mul]
  have := rchK_len P p i k h q first j
  split
  ·have := h (slV P (q, (j : Int))).to_ (first + j * 8 ^ k); omega
  rw [List.length_nil, Nat.add_zero]; exact Nat.le_trans this (Nat.le_add_right _ _)
theorem rchL_len (P : List Pg) (p i : Int) : ∀ (k : Nat) (q : Int) (first : Nat), (rchL P p i k q first).length ≤ 8 ^ k
 | 0, _, _ => by simp [rchL]
 | k + 1, q, first => by
  by_cases h : q = p
  ·subst h; rw [rchL_self, List.length_map, List.length_range, Nat.pow_succ]; omega
  rw [rchL_other P p i k first h]
  have := rchK_len P p i k (rchL_len P p i k) q first 8
  rw [Nat.pow_succ]; omega
def passL (P : List Pg) (p i : Int) : Nat → Int → Nat → Bool
 | 0, _, _ => false
 | k + 1, q, j => decide (p = q ∧ ((j / 8 ^ k : Nat) : Int) = i) || (decide ((slV P (q, ((j / 8 ^ k : Nat) : Int))).kind = 1) && passL P p i k (slV P (q, ((j / 8 ^ k : Nat) : Int))).to_ (j % 8 ^ k))
theorem pass_lev (h : SrOk n a m s) (p i : Int) : ∀ (k : Nat) (q : Int) (j : Nat), levP s.L q = k → passL s.L p i k q j = true → levP s.L p ≤ k
 | 0, _, _, _, hp => by simp [passL] at hp
 | k + 1, q, j, hq, hp => by
  rw [passL, Bool.or_eq_true, decide_eq_true_eq, Bool.and_eq_true, decide_eq_true_eq] at hp
  rcases hp with ⟨rfl, _⟩ | ⟨h1, h2⟩
  ·omega
  have := pass_lev h p i k _ _ ?_ h2
  ·omega
  generalize hy : slV s.L (q, ((j / 8 ^ k : Nat) : Int)) = y at h1
  unfold slV at hy
  cases e : slotP s.L q ((j / 8 ^ k : Nat) : Int) with
  | none => simp only [e, Option.getD_none] at hy; subst hy; simp [Slt.no] at h1
  | some y' =>
   simp only [e, Option.getD_some] at hy; subst hy
   obtain ⟨g, hg, _, _, hg2⟩ := slotP_has e
   rcases h.kinds g (pgAt_mem hg).1 y' (List.mem_of_getElem? hg2) with h | ⟨_, c, hc, hl⟩ | ⟨h, _⟩
   ·omega
   ·unfold levP at hq ⊢
    rw [hg] at hq; rw [hc]
    simp only [Option.map_some, Option.getD_some] at hq ⊢
    omega
   omega
theorem kid_lev (h : SrOk n a m s) {q i : Int} (hk : (slV s.L (q, i)).kind = 1) : levP s.L (slV s.L (q, i)).to_ = levP s.L q - 1 ∧ 1 ≤ levP s.L (slV s.L (q, i)).to_ ∧ levP s.L q ≤ 3 := by
 generalize hy : slV s.L (q, i) = y at hk ⊢
 unfold slV at hy
 cases e : slotP s.L q i with
 | none => simp only [e, Option.getD_none] at hy; subst hy; simp [Slt.no] at hk
 | some y' =>
  simp only [e, Option.getD_some] at hy; subst hy
  obtain ⟨g, hg, _, _, hg2⟩ := slotP_has e
  rcases h.kinds g (pgAt_mem hg).1 y' (List.mem_of_getElem? hg2) with h' | ⟨_, c, hc, hl⟩ | ⟨h', _⟩
  ·omega
  ·have h1 := h.right c (pgAt_mem hc).1
   have h2 := h.right g (pgAt_mem hg).1
   unfold Ky.right at h1 h2
   rw [decide_eq_true_eq] at h1 h2
   unfold levP
   rw [hg, hc]
   simp only [Option.map_some, Option.getD_some]
   omega
  omega
theorem range_mul (b : Nat) : ∀ c, List.range (c * b) = (List.range c).flatMap fun j => (List.range b).map fun x => j * b + x
 | 0 => by simp
 | c + 1 => by
  rw [List.range_succ, List.flatMap_append, ← range_mul b c, Nat.add_mul, Nat.one_mul, List.range_add]
  simp
theorem rch_is (h : SrOk n a m s) (p i : Int) (hi : 0 ≤ i ∧ i < 8) : ∀ (k : Nat) (q : Int) (first : Nat), levP s.L q = k → rchL s.L p i k q first = ((List.range (8 ^ k)).filter (passL s.L p i k q)).map fun (j : Nat) => (first : Int) + (j : Int)
 | 0, q, first, _ => by simp [rchL, passL]
 | k + 1, q, first, hq => by
  have hpos : 0 < 8 ^ k := Nat.pos_of_ne_zero (by simp)
  rw [Nat.pow_succ, Nat.mul_comm, range_mul, List.filter_flatMap, List.map_flatMap]
  have hdm : ∀ j x, x ∈ List.range (8 ^ k) → (j * 8 ^ k + x) / 8 ^ k = j ∧ (j * 8 ^ k + x) % 8 ^ k = x := by
   intro j x hx
   rw [List.mem_range] at hx
   constructor
   ·rw [Nat.mul_comm, Nat.mul_add_div hpos, Nat.div_eq_of_lt hx]; rfl
   rw [Nat.mul_comm, Nat.mul_add_mod]; exact Nat.mod_eq_of_lt hx
  by_cases hqp : q = p
  ·subst hqp
   rw [rchL_self]
   obtain ⟨b, rfl⟩ := Int.eq_ofNat_of_zero_le hi.1
   have hb : b < 8 := by omega
   have hno : ∀ y x : Nat, (decide ((slV s.L (q, (y : Int))).kind = 1) && passL s.L q (b : Int) k (slV s.L (q, (y : Int))).to_ x) = false := by
    intro y x
    rw [Bool.eq_false_iff, Ne, Bool.and_eq_true, decide_eq_true_eq]
    rintro ⟨h1, h2⟩
    have h3 := kid_lev h h1
    have := pass_lev h q b k _ _ (by omega) h2
    omega
   have hall : ∀ j, (List.filter (passL s.L q (b : Int) (k + 1) q) ((List.range (8 ^ k)).map fun x => j * 8 ^ k + x)).map (fun (j : Nat) => (first : Int) + (j : Int)) = if j = b then (List.range (8 ^ k)).map fun (x : Nat) => (first : Int) + (b : Int) * (8 ^ k : Nat) + (x : Int) else [] := by
    intro j
    rw [List.filter_map]
    have : (List.range (8 ^ k)).filter (passL s.L q (b : Int) (k + 1) q ∘ fun x => j * 8 ^ k + x) = (List.range (8 ^ k)).filter fun _ => decide (j = b) := by
     apply List.filter_congr
     intro x hx
     simp only [Function.comp]
     rw [passL, (hdm j x hx).1, hno, Bool.or_false]
     apply decide_eq_decide.2
     constructor
     ·rintro ⟨_, h⟩; omega
     rintro rfl; exact ⟨rfl, rfl⟩
    rw [this]
    by_cases hj : j = b
    ·subst hj
     simp only [decide_true, if_true]
     rw [List.filter_eq_self.2 (fun _ _ => rfl), List.map_map]
     apply List.map_congr_left
     intro x _
     simp only [Function.comp, Int.natCast_add, Int.natCast_mul]
     omega
    simp [hj]
   simp only [hall]
   have h8 : List.range 8 = [0, 1, 2, 3, 4, 5, 6, 7] := rfl
   rw [h8]
   have : b = 0 ∨ b = 1 ∨ b = 2 ∨ b = 3 ∨ b = 4 ∨ b = 5 ∨ b = 6 ∨ b = 7 := by omega
   rcases this with rfl | rfl | rfl | rfl | rfl | rfl | rfl | rfl <;> simp
  rw [rchL, if_neg hqp]
  congr 1
  funext j
  rw [List.filter_map]
  have : (List.range (8 ^ k)).filter (passL s.L p i (k + 1) q ∘ fun x => j * 8 ^ k + x) = (List.range (8 ^ k)).filter fun x => decide ((slV s.L (q, (j : Int))).kind = 1) && passL s.L p i k (slV s.L (q, (j : Int))).to_ x := by
   apply List.filter_congr
   intro x hx
   simp only [Function.comp]
   rw [passL, (hdm j x hx).1, (hdm j x hx).2, decide_eq_false (fun h => hqp h.1.symm), Bool.false_or]
  rw [this]
  by_cases hk : (slV s.L (q, (j : Int))).kind = 1
  ·rw [if_pos hk, rch_is h p i hi k _ _ (by have := kid_lev h hk; omega)]
   simp only [hk, decide_true, Bool.true_and, List.map_map]
   apply List.map_congr_left
   intro x _
   simp only [Function.comp, Int.natCast_add, Int.natCast_mul]
   omega
  rw [if_neg hk]; simp [hk]
theorem pass_top (P : List Pg) (p i : Int) (root : Int) {t : Pg} (ht : pgOf P ⟨root, 3, 0⟩ = some t) (j : Nat) : passB P root p i j = passL P p i 3 t.f j := by
 have e1 : j % 64 / 8 = j / 8 % 8 := by omega
 have e2 : j % 64 % 8 = j % 8 := by omega
 unfold passB
 rw [ht]
 simp only [passL, Nat.reducePow, Nat.div_one, Bool.and_false, Bool.or_false, e1, e2]
 congr 1
 split
 ·rename_i h1
  have h : slV P (t.f, ((j / 64 : Nat) : Int)) = Slt.no := by unfold slV; rw [h1]; rfl
  rw [show decide ((slV P (t.f, ((j / 64 : Nat) : Int))).kind = 1) = false by rw [h]; rfl]; rfl
 rename_i x h1
 simp only [slV_at (x := (t.f, ((j / 64 : Nat) : Int))) h1]
 congr 2
 split
 ·rename_i h2
  have h : slV P (x.to_, ((j / 8 % 8 : Nat) : Int)) = Slt.no := by unfold slV; rw [h2]; rfl
  rw [show decide ((slV P (x.to_, ((j / 8 % 8 : Nat) : Int))).kind = 1) = false by rw [h]; rfl]; rfl
 rename_i y h2
 simp only [slV_at (x := (x.to_, ((j / 8 % 8 : Nat) : Int))) h2]
theorem reach_is (h : SrOk n a m s) {root p i : Int} {t : Pg} (ht : pgOf s.L ⟨root, 3, 0⟩ = some t) (hi : 0 ≤ i ∧ i < 8) : reachP s.L root p i = rchL s.L p i 3 t.f 0 := by
 have hl : levP s.L t.f = 3 := by
  obtain ⟨h1, h2⟩ := pgOf_mem ht
  unfold levP; rw [h.at_ h1, Option.map_some, h2]; rfl
 rw [rch_is h p i hi 3 t.f 0 hl]
 unfold reachP
 have : (List.range 512).filter (fun k => decide (0 ≤ i ∧ i < 8) && passB s.L root p i k) = (List.range (8 ^ 3)).filter (passL s.L p i 3 t.f) := by
  apply List.filter_congr
  intro j _
  rw [pass_top s.L p i root ht, decide_eq_true hi, Bool.true_and]
 rw [this]
 apply List.map_congr_left
 intro x _; simp
theorem reach_none {P : List Pg} {root p i : Int} (h : pgOf P ⟨root, 3, 0⟩ = none ∨ ¬ (0 ≤ i ∧ i < 8)) : reachP P root p i = [] := by
 unfold reachP
 rw [List.filter_eq_nil_iff.2, List.map_nil]
 intro j _
 rcases h with h | h
 ·unfold passB; rw [h]; simp
 simp [h]
end
def rdH (n : Nat) (W : List Int) (f i : Int) : Option Ent := if hasW n f i && (getE (getW n W f i).toNat).p then some (getE (getW n W f i).toNat) else none
def walkH (n : Nat) (W : List Int) (root page : Int) : Option (Int × Rg) :=
 (rdH n W root (idxI page 3)).bind fun e3 => (rdH n W e3.f (idxI page 2)).bind fun e2 => (rdH n W e2.f (idxI page 1)).map fun e1 => (e1.f, ((Rg.all.and (ofE e3)).and (ofE e2)).and (ofE e1))
section
variable {n most : Nat} {W W' : List Int} {T : List Ht} {root asid page kind : Int} {user : Bool}
theorem under_refl (r : Rg) : under r r = true := by unfold under; rw [Rg.eqb_iff]; cases r; simp [Rg.and]
theorem under_iff (a b : Rg) : under a b = true ↔ (a.w = true → b.w = true) ∧ (a.u = true → b.u = true) ∧ (a.x = true → b.x = true) := by
 unfold under
 rw [Rg.eqb_iff]
 obtain ⟨a1, a2, a3⟩ := a
 obtain ⟨b1, b2, b3⟩ := b
 cases a1 <;> cases a2 <;> cases a3 <;> cases b1 <;> cases b2 <;> cases b3 <;> simp [Rg.and]
end
def wayS (P : List Pg) (t : Int) (page : Int) : Option (Slt × Slt × Slt) :=
 (slotP P t (idxI page 3)).bind fun x3 => if x3.kind = 1 then (slotP P x3.to_ (idxI page 2)).bind fun x2 => if x2.kind = 1 then (slotP P x2.to_ (idxI page 1)).bind fun x1 => if x1.kind = 2 then some (x3, x2, x1) else none else none else none
def wayR (x : Slt × Slt × Slt) : Rg := (x.1.r.and x.2.1.r).and x.2.2.r
def wayG (x : Slt × Slt × Slt) : Int := x.2.2.to_
def wrdX (L : List Int) (x : Slt) : Int := if x.kind = 0 then 0 else if x.kind = 1 then ((putV (entS x x.to_) : Nat) : Int) else ((putV (entS x (atV L x.to_)) : Nat) : Int)
structure FdOk (n a m : Nat) (L : List Int) (d : Gd) : Prop where
 gd : GdOk n a m L d
 lw : ∀ q ∈ d.s.L, ∀ (i : Nat) (x : Slt), q.s[i]? = some x → x.kind = 2 → (0 ≤ x.to_ ∧ x.to_ < L.length) ∧ d.s.W[q.f.toNat * 8 + i]? = some (wordS x (atV L x.to_))
 pr : ∀ (f i : Int) (x : Slt), slotP d.s.L f i = some x → x.kind = 2 → x.r.w = true → protB d x.to_ = false
section
variable {n a m : Nat} {L : List Int} {d : Gd} {s : Sr}
theorem idxI_rng (page l : Int) : 0 ≤ idxI page l ∧ idxI page l ≤ 7 := by
 unfold idxI; split
 ·omega
 split
 ·omega
 split <;> omega
theorem FdOk.word (h : FdOk n a m L d) {f i : Int} {x : Slt} (hx : slotP d.s.L f i = some x) : ∃ q, pgAt d.s.L f = some q ∧ q ∈ d.s.L ∧ q.f = f ∧ hasW n f i = true ∧ SltOk d.s.L q.k.lev x ∧ q.k.right = true ∧
  getW n d.s.W f i = wrdX L x := by
 obtain ⟨q, e, h0, h7, hs⟩ := slotP_has hx
 obtain ⟨hq, rfl⟩ := pgAt_mem e
 have hb := slot_hasS (s := d.s) hx
 obtain ⟨_, _, _, _, _, _, _, _, hW⟩ := hasS_has h.gd.sr hb
 have hk := h.gd.sr.kinds q hq x (List.mem_of_getElem? hs)
 refine ⟨q, e, hq, rfl, hW, hk, h.gd.sr.right q hq, ?_⟩
 have hv : d.s.W[q.f.toNat * 8 + i.toNat]? = some (wrdX L x) := by
  unfold wrdX
  rcases hk with ⟨h0, _⟩ | ⟨h1, _⟩ | ⟨h2, _⟩
  ·rw [if_pos h0]; exact (h.gd.sr.no_word hq hs h0).2
  ·obtain ⟨g, _, _, g2, g3⟩ := h.gd.sr.words q hq _ x hs
   have k0 : ¬ x.kind = 0 := by omega
   rw [g3, if_neg k0, if_pos h1]; unfold wordS; rw [if_neg k0, g2 h1]
  have k0 : ¬ x.kind = 0 := by omega
  have k1 : ¬ x.kind = 1 := by omega
  rw [(h.lw q hq _ x hs h2).2, if_neg k0, if_neg k1]; unfold wordS; rw [if_neg k0]
 unfold getW
 rw [if_pos hW, List.getD_eq_getElem?_getD, hv]; rfl
theorem ent_ok {x : Slt} {f : Int} (hf : 0 ≤ f ∧ f < 1048576) : getE (putV (entS x f)) = entS x f ∧ (entS x f).p = true ∧ ofE (entS x f) = x.r ∧ (entS x f).f = f := by
 have hok : (entS x f).ok = true := by unfold Ent.ok entS; simp [hf]
 refine ⟨by rw [putV_ok hok, get_put _ hok], rfl, ?_, rfl⟩
 unfold ofE entS; simp
theorem FdOk.rd (h : FdOk n a m L d) {f i : Int} {x : Slt} (hx : slotP d.s.L f i = some x) : rdH n d.s.W f i = if x.kind = 0 then none else if x.kind = 1 then some (entS x x.to_) else some (entS x (atV L x.to_)) := by
 obtain ⟨q, e, hq, hf, hW, hk, _, hw⟩ := h.word hx
 have hn := h.gd.sr.n256
 unfold rdH
 rw [hW, hw]
 unfold wrdX
 rcases hk with ⟨h0, _⟩ | ⟨h1, c, hc, _⟩ | ⟨h2, _⟩
 ·rw [if_pos h0, if_pos h0]; rfl
 ·obtain ⟨hc1, hc2⟩ := pgAt_mem hc
  have hcr := h.gd.sr.inL hc1
  have hle := h.gd.sr.le
  have := ent_ok (x := x) (f := x.to_) ⟨by omega, by omega⟩
  have k0 : ¬ x.kind = 0 := by omega
  rw [if_neg k0, if_pos h1, if_neg k0, if_pos h1, Int.toNat_natCast, this.1, this.2.1]; rfl
 have hr := atV_rng h.gd.map h.gd.pos x.to_
 have := ent_ok (x := x) (f := atV L x.to_) ⟨hr.1, by omega⟩
 have k0 : ¬ x.kind = 0 := by omega
 have k1 : ¬ x.kind = 1 := by omega
 rw [if_neg k0, if_neg k1, if_neg k0, if_neg k1, Int.toNat_natCast, this.1, this.2.1]; rfl
theorem right_iff (k : Ky) : k.right = true ↔ (1 ≤ k.lev ∧ k.lev ≤ 3 ∧ 0 ≤ k.role ∧ k.role ≤ 2 ∧ (k.role ≤ 0 ∨ k.lev = 1)) := by
 unfold Ky.right; rw [decide_eq_true_eq]
theorem slot_some (h : SrOk n a m s) {q : Pg} (hq : q ∈ s.L) (i : Int) (hi : 0 ≤ i ∧ i ≤ 7) : ∃ x, slotP s.L q.f i = some x := by
  obtain ⟨x, _, h2⟩ := h.slot hq (i := i.toNat) (by omega)
  exact ⟨x, by have e : ((i.toNat : Nat) : Int) = i := by omega
               rw [e] at h2; exact h2⟩
theorem Rg.all_and (r : Rg) : Rg.all.and r = r := by cases r; rfl
theorem FdOk.walk (h : FdOk n a m L d) {t : Pg} (ht : t ∈ d.s.L) (hl : t.k.lev = 3) (page : Int) : walkH n d.s.W t.f page = (wayS d.s.L t.f page).map fun x => (atV L (wayG x), wayR x) := by
 obtain ⟨x3, h3⟩ := slot_some h.gd.sr ht _ (idxI_rng page 3)
 obtain ⟨q3, e3, hq3, hf3, _, k3, _, _⟩ := h.word h3
 have : q3 = t := by rw [h.gd.sr.at_ ht] at e3; injection e3 with e3; exact e3.symm
 subst this
 unfold walkH wayS
 rw [h3, h.rd h3, Option.bind_some]
 rcases k3 with ⟨z, _⟩ | ⟨z, c, hc, hcl⟩ | ⟨_, z⟩
 ·rw [if_pos z, if_neg (show ¬ x3.kind = 1 by omega)]; rfl
 ·rw [if_neg (show ¬ x3.kind = 0 by omega), if_pos z, if_pos z, Option.bind_some]
  obtain ⟨hc1, hc2⟩ := pgAt_mem hc
  obtain ⟨x2, h2⟩ := slot_some h.gd.sr hc1 _ (idxI_rng page 2)
  rw [hc2] at h2
  obtain ⟨q2, e2, hq2, hf2, _, k2, _, _⟩ := h.word h2
  have : q2 = c := by rw [hc] at e2; injection e2 with e2; exact e2.symm
  subst this
  show Option.bind (rdH n d.s.W x3.to_ (idxI page 2)) _ = _
  rw [h2, h.rd h2, Option.bind_some]
  rcases k2 with ⟨z2, _⟩ | ⟨z2, c2, hc', hcl'⟩ | ⟨_, z2⟩
  ·rw [if_pos z2, if_neg (show ¬ x2.kind = 1 by omega)]; rfl
  ·rw [if_neg (show ¬ x2.kind = 0 by omega), if_pos z2, if_pos z2, Option.bind_some]
   obtain ⟨hc1', hc2'⟩ := pgAt_mem hc'
   obtain ⟨x1, h1⟩ := slot_some h.gd.sr hc1' _ (idxI_rng page 1)
   rw [hc2'] at h1
   obtain ⟨q1, e1, hq1, hf1, _, k1, _, _⟩ := h.word h1
   have : q1 = c2 := by rw [hc'] at e1; injection e1 with e1; exact e1.symm
   subst this
   show Option.map _ (rdH n d.s.W x2.to_ (idxI page 1)) = _
   rw [h1, h.rd h1, Option.bind_some]
   rcases k1 with ⟨z1, _⟩ | ⟨z1, c3, hc3, hcl3⟩ | ⟨z1, _⟩
   ·rw [if_pos z1, if_neg (show ¬ x1.kind = 2 by omega)]; rfl
   ·exfalso
    have := (right_iff _).1 (h.gd.sr.right c3 (pgAt_mem hc3).1)
    omega
   have hr := atV_rng h.gd.map h.gd.pos x1.to_
   have hn := h.gd.sr.n256
   rw [if_neg (show ¬ x1.kind = 0 by omega), if_neg (show ¬ x1.kind = 1 by omega), if_pos z1]
   simp only [Option.map_some]
   rw [Rg.all_and]
   have w3 : ofE (entS x3 x3.to_) = x3.r := by unfold ofE entS; simp
   have w2 : ofE (entS x2 x2.to_) = x2.r := by unfold ofE entS; simp
   have w1 : ofE (entS x1 (atV L x1.to_)) = x1.r := by unfold ofE entS; simp
   rw [w3, w2, w1]; rfl
  omega
 omega
theorem FdOk.upd (h : FdOk n a m L d) (u : Up) (T : List Ht) (hu : ∀ q ∈ d.s.L, ∀ i < 8, ∀ y v, u q.f i = some (y, v) → SltOk d.s.L q.k.lev y ∧ WrdOk y v)
  (hl : ∀ q ∈ d.s.L, ∀ i < 8, ∀ y v, u q.f i = some (y, v) → y.kind = 2 → (0 ≤ y.to_ ∧ y.to_ < L.length) ∧ v = wordS y (atV L y.to_) ∧ (y.r.w = true → protB d y.to_ = false)) : FdOk n a m L ⟨updS d.s u, T, d.l⟩ := by
 have hof : ∀ g, ofP (updS d.s u).L g = ofP d.s.L g := fun g => by rw [updS_L, of_upd]
 have hpr : ∀ g, protB ⟨updS d.s u, T, d.l⟩ g = protB d g := fun g => by unfold protB; rw [hof]; rfl
 refine ⟨h.gd.setS (h.gd.sr.upd u hu) hof (fun p => by rw [updS_L, lev_upd]) T, ?_, ?_⟩
 ·intro q' hq' i y hy h2
  obtain ⟨q, hq, hf', _, hs⟩ := mem_upd hq'
  have hq2 := h.gd.sr.inL hq
  rw [hs, List.getElem?_mapIdx] at hy
  cases e : q.s[i]? with
  | none => rw [e] at hy; simp at hy
  | some x =>
   rw [e, Option.map_some] at hy
   injection hy with hy
   have hi := (List.getElem?_eq_some_iff.1 e).1
   rw [h.gd.sr.eight q hq] at hi
   obtain ⟨_, _, _, _, g3⟩ := h.gd.sr.words q hq i x e
   show _ ∧ (updW d.s.L d.s.W u)[_]? = _
   unfold updW
   have e1 : (q.f.toNat * 8 + i) / 8 = q.f.toNat := by omega
   have e2 : (q.f.toNat * 8 + i) % 8 = i := by omega
   have e3 : ((q.f.toNat : Nat) : Int) = q.f := by omega
   rw [hf', List.getElem?_mapIdx, e1, e2, e3, h.gd.sr.at_ hq]
   simp only [Option.isSome_some, if_true]
   cases hc : u q.f i with
   | none =>
    rw [hc] at hy
    have hy : x = y := hy
    subst hy
    have := h.lw q hq i x e h2
    rw [this.2]
    exact ⟨this.1, rfl⟩
   | some z =>
    rw [hc] at hy
    have hy : z.1 = y := hy
    subst hy
    have := hl q hq i hi z.1 z.2 hc h2
    rw [g3]
    exact ⟨this.1, by rw [Option.map_some]; show some z.2 = _; rw [this.2.1]⟩
 intro f i y hy h2 hw
 rw [hpr]
 have hy : slotP (updS d.s u).L f i = some y := hy
 rw [updS_L, slot_upd] at hy
 cases e : slotP d.s.L f i with
 | none => rw [e] at hy; simp at hy
 | some x =>
  rw [e, Option.map_some] at hy
  injection hy with hy
  obtain ⟨q, e1, h0, h7, _⟩ := slotP_has e
  obtain ⟨hq, hf⟩ := pgAt_mem e1
  cases hc : u f i.toNat with
  | none =>
   rw [hc] at hy
   have hy : x = y := hy
   subst hy; exact h.pr f i x e h2 hw
  | some z =>
   rw [hc] at hy
   have hy : z.1 = y := hy
   subst hy
   exact (hl q hq i.toNat (by omega) z.1 z.2 (by rw [hf]; exact hc) h2).2.2 hw
theorem FdOk.wipe (h : FdOk n a m L d) (c : Int → Nat → Bool) (T : List Ht) : FdOk n a m L ⟨wipeS d.s c, T, d.l⟩ := by
 have key : ∀ f i (y : Slt) v, wipeU c f i = some (y, v) → y = Slt.no ∧ v = 0 := by
  intro f i y v e
  unfold wipeU at e
  split at e
  ·injection e with e; injection e with e1 e2; exact ⟨e1.symm, e2.symm⟩
  simp at e
 refine h.upd _ T (fun q _ i _ y v e => ?_) (fun q _ i _ y v e h2 => ?_)
 ·obtain ⟨rfl, rfl⟩ := key _ _ _ _ e
  exact ⟨.inl ⟨rfl, rfl⟩, WrdOk.no⟩
 obtain ⟨rfl, rfl⟩ := key _ _ _ _ e
 simp [Slt.no] at h2
theorem FdOk.zap (h : FdOk n a m L d) (p i : Int) (hi : 0 ≤ i ∧ i ≤ 7) : FdOk n a m L (zapG n d p i) := by
 unfold zapG
 split
 ·rw [h.gd.sr.clear_wipe p i hi]; exact h.wipe _ _
 exact h
theorem zap_no {p i : Int} (hi : ¬ (0 ≤ i ∧ i ≤ 7)) : zapG n d p i = d := by
 unfold zapG
 have : clearB d.s p i = false := by unfold clearB slotP; rw [if_neg hi]
 rw [if_neg (by rw [this]; simp)]
theorem FdOk.zap' (h : FdOk n a m L d) (p i : Int) : FdOk n a m L (zapG n d p i) := by
 by_cases hi : 0 ≤ i ∧ i ≤ 7
 ·exact h.zap p i hi
 rw [zap_no hi]; exact h
theorem FdOk.zaps (l : List Int) {d : Gd} (h : FdOk n a m L d) (i : Int) : FdOk n a m L (l.foldl (fun d p => zapG n d p i) d) := by
 induction l generalizing d with
 | nil => exact h
 | cons p l ih => exact ih (h.zap' p i)
theorem FdOk.wordG (h : FdOk n a m L d) (g i : Int) : FdOk n a m L (wordG n d g i) := h.zaps _ i
theorem FdOk.tforbid (h : FdOk n a m L d) (g : Int) : FdOk n a m L (forbidG L (tightG d g) g) := by
 have key := fun {f i y v} (e : forbidU L d.s g f i = some (y, v)) => forbidU_some (L := L) e
 have H : FdOk n a m L ⟨updS d.s (forbidU L d.s g), if writB d.s g then [] else d.T, d.l⟩ := by
  refine h.upd _ _ (fun q hq i hi8 y v e => ?_) (fun q hq i hi8 y v e h2 => ?_)
  ·obtain ⟨x, hx, h1, h2, h3, h4, h5⟩ := key e
   simp only at h4 h5
   obtain ⟨x', h6, h7⟩ := h.gd.sr.slot hq hi8
   rw [hx] at h7; injection h7 with h7; subst h7
   have hr := atV_rng h.gd.map h.gd.pos g
   have := h.gd.sr.n256
   refine ⟨?_, atV L g, hr.1, by omega, fun e => by rw [h4] at e; simp at e, by rw [h5, h4]⟩
   rcases h.gd.sr.kinds q hq x (List.mem_of_getElem? h6) with h | ⟨h, _⟩ | ⟨_, h⟩
   ·omega
   ·omega
   exact .inr (.inr ⟨by rw [h4], h⟩)
  obtain ⟨x, hx, h1, h2', h3, h4, h5⟩ := key e
  simp only at h4 h5
  obtain ⟨x', h6, h7⟩ := h.gd.sr.slot hq hi8
  rw [hx] at h7; injection h7 with h7; subst h7
  have := h.lw q hq i x h6 h1
  rw [h2'] at this
  refine ⟨by rw [h4]; exact this.1, by rw [h5, h4], fun hw => by rw [h4] at hw; simp [Rg.noW] at hw⟩
 refine ⟨((h.gd.tight g).forbid g), H.lw, ?_⟩
 intro f i x hx h2 hw
 have hw2 := forbid_not (n := n) h.gd.sr h.gd.map h.gd.pos g
 have hne : x.to_ ≠ g := by
  intro e
  rw [Bool.eq_false_iff, Ne, writB_iff (h.gd.sr.forbid h.gd.map h.gd.pos g)] at hw2
  exact hw2 ⟨f, i, x, hx, h2, e, hw⟩
 have := H.pr f i x hx h2 hw
 unfold protB at this ⊢
 rw [Bool.and_eq_false_iff] at this ⊢
 rcases this with h | h
 ·exact .inl h
 right
 unfold looseB at h ⊢
 rw [Bool.not_eq_false'] at h ⊢
 show (d.l.filter fun x => decide (x ≠ g)).contains x.to_ = true
 rw [List.contains_iff_mem] at h ⊢
 exact List.mem_filter.2 ⟨h, by simpa using hne⟩
theorem FdOk.look (h : FdOk n a m L d) (g : Int) : FdOk n a m L (lookG n L d g) := by
 unfold lookG
 split
 ·exact (h.tforbid g).wipe _ []
 exact h
theorem FdOk.looks (l : List Int) {d : Gd} (h : FdOk n a m L d) : FdOk n a m L (l.foldl (lookG n L) d) := by
 induction l generalizing d with
 | nil => exact h
 | cons p l ih => exact ih (h.look p)
theorem FdOk.loosen (h : FdOk n a m L d) (g : Int) : FdOk n a m L (loosenG d g) := by
 refine ⟨h.gd.loosen g, ?_, ?_⟩
 ·have : (loosenG d g).s = d.s := by unfold loosenG; split <;> rfl
  rw [this]; exact h.lw
 intro f i x hx h2 hw
 have hs : (loosenG d g).s = d.s := by unfold loosenG; split <;> rfl
 rw [hs] at hx
 have := h.pr f i x hx h2 hw
 unfold protB at this ⊢
 rw [hs, loosen_loose]
 cases hb : looseB d x.to_ with
 | true => simp
 | false => rw [hb] at this; simp at this ⊢; intro h; exact absurd this h
theorem childB_has {p i c : Int} (hb : childB s p i c = true) : hasS s p i = true ∧ (pgAt s.L c).isSome = true ∧ levP s.L c = levP s.L p - 1 := by
 unfold childB at hb
 simp only [Bool.and_eq_true, decide_eq_true_eq] at hb
 exact ⟨hb.1.1, hb.1.2, hb.2⟩
theorem FdOk.child (h : FdOk n a m L d) (p i c : Int) (r : Rg) : FdOk n a m L ⟨childS n d.s p i c r, d.T, d.l⟩ := by
 unfold childS
 split
 ·rename_i hb
  obtain ⟨hs, hc, hl⟩ := childB_has hb
  obtain ⟨q0, e0, hq0, hf0, hi0, hi7, _, _, _⟩ := hasS_has h.gd.sr hs
  rw [h.gd.sr.set_upd _ _ hs]
  cases e : pgAt d.s.L c with
  | none => rw [e] at hc; simp at hc
  | some q =>
   obtain ⟨hq, rfl⟩ := pgAt_mem e
   have hqn := h.gd.sr.inL hq
   have := h.gd.sr.le; have := h.gd.sr.n256
   refine h.upd _ _ (fun q' hq' j hj y v ey => ?_) (fun q' hq' j hj y v ey h2 => ?_)
   ·unfold oneU at ey
    split at ey
    ·rename_i hpj
     injection ey with ey; injection ey with e1 e2; subst e1; subst e2
     have hqq : q' = q0 := by have := h.gd.sr.at_ hq'; rw [hpj.1, e0] at this; injection this with this; exact this.symm
     subst hqq
     refine ⟨.inr (.inl ⟨rfl, q, e, ?_⟩), q.f, by omega, by omega, fun _ => rfl, rfl⟩
     have e3 : levP d.s.L q.f = q.k.lev := by unfold levP; rw [e]; rfl
     have e4 : levP d.s.L p = q'.k.lev := by unfold levP; rw [e0]; rfl
     rw [← e3, ← e4]; exact hl
    simp at ey
   unfold oneU at ey
   split at ey
   ·injection ey with ey; injection ey with e1 e2; subst e1; simp at h2
   simp at ey
 exact h
theorem FdOk.leaf (h : FdOk n a m L d) (p i g : Int) (r : Rg) (hg : 0 ≤ g ∧ g < L.length) (hw : r.w = true → protB d g = false) : FdOk n a m L ⟨leafS n d.s p i g (atV L g) r, d.T, d.l⟩ := by
 unfold leafS
 split
 ·rename_i hb
  unfold leafB at hb
  simp only [Bool.and_eq_true, decide_eq_true_eq] at hb
  obtain ⟨⟨hs, hl⟩, hf⟩ := hb
  obtain ⟨q0, e0, hq0, hf0, hi0, hi7, _, _, _⟩ := hasS_has h.gd.sr hs
  rw [h.gd.sr.set_upd _ _ hs]
  have hn := h.gd.sr.n256
  refine h.upd _ _ (fun q' hq' j hj y v ey => ?_) (fun q' hq' j hj y v ey h2 => ?_)
  ·unfold oneU at ey
   split at ey
   ·rename_i hpj
    injection ey with ey; injection ey with e1 e2; subst e1; subst e2
    have hqq : q' = q0 := by have := h.gd.sr.at_ hq'; rw [hpj.1, e0] at this; injection this with this; exact this.symm
    subst hqq
    have e4 : levP d.s.L p = q'.k.lev := by unfold levP; rw [e0]; rfl
    exact ⟨.inr (.inr ⟨rfl, by rw [← e4]; exact hl⟩), atV L g, by omega, by omega, fun e => by simp at e, rfl⟩
   simp at ey
  unfold oneU at ey
  split at ey
  ·injection ey with ey; injection ey with e1 e2; subst e1; subst e2
   exact ⟨hg, rfl, hw⟩
  simp at ey
 exact h
theorem FdOk.made (h : FdOk n a m L d) {k : Ky} (hk : k.role = 0 → k.g ∉ d.l) : FdOk n a m L (makeD n L d k) := by
 unfold makeD
 split
 ·rename_i hb
  obtain ⟨hno, hr, hfr⟩ := makeB_has hb
  have hmk := h.gd.sr.make k
  have eL : (makeS n d.s k).L = d.s.L ++ [⟨d.s.fr.getLastD 0, k, List.replicate 8 Slt.no⟩] := by unfold makeS; rw [if_pos hb]
  have hnew : ∀ (i : Nat) x, (List.replicate 8 Slt.no)[i]? = some x → x.kind ≠ 2 := by
   intro i x hx
   have := List.eq_of_mem_replicate (List.mem_of_getElem? hx)
   subst this; simp [Slt.no]
  have hst := Still.make h.gd.sr k
  have hff := h.gd.sr.mem (d.s.fr.getLastD 0) (by rw [hfr]; simp)
  have hne : ∀ q ∈ d.s.L, q.f ≠ d.s.fr.getLastD 0 := by
   intro q hq e
   have hnd := h.gd.sr.nd
   rw [hfr] at hnd
   exact (List.nodup_append.1 hnd).2.2 _ (List.mem_map.2 ⟨q, hq, rfl⟩) _ (by simp) e
  have hlw : ∀ q ∈ (makeS n d.s k).L, ∀ (i : Nat) (x : Slt), q.s[i]? = some x → x.kind = 2 → (0 ≤ x.to_ ∧ x.to_ < L.length) ∧ (makeS n d.s k).W[q.f.toNat * 8 + i]? = some (wordS x (atV L x.to_)) := by
   intro q hq i x hx h2
   rw [eL] at hq
   rcases List.mem_append.1 hq with hq | hq
   ·have := h.lw q hq i x hx h2
    refine ⟨this.1, ?_⟩
    have hi := (List.getElem?_eq_some_iff.1 hx).1
    rw [h.gd.sr.eight q hq] at hi
    have hq2 := h.gd.sr.inL hq
    have := hne q hq
    unfold makeS; rw [if_pos hb]
    simp only
    have hle := h.gd.sr.le
    rw [fill_at (by omega) h.gd.sr.len, if_neg (by omega)]
    exact (h.lw q hq i x hx h2).2
   simp only [List.mem_cons, List.not_mem_nil, or_false] at hq; subst hq
   exact absurd h2 (hnew i x hx)
  have hslot : ∀ (f i : Int) (x : Slt), slotP (makeS n d.s k).L f i = some x → x.kind = 2 → slotP d.s.L f i = some x := by
   intro f i x hx h2
   obtain ⟨q, e, h0, h7, hs⟩ := slotP_has hx
   rw [eL] at e
   cases e2 : pgAt d.s.L f with
   | some q2 =>
    rw [pgAt_app e2] at e; injection e with e; subst e
    unfold slotP; rw [if_pos ⟨h0, h7⟩, e2]; exact hs
   | none =>
    rw [pgAt_app_no e2] at e
    have := (pgAt_mem e).1
    simp only [List.mem_cons, List.not_mem_nil, or_false] at this; subst this
    exact absurd h2 (hnew _ x hs)
  have h1 : GdOk n a m L ⟨makeS n d.s k, d.T, d.l⟩ := by
   have := h.gd.made hk
   refine ⟨hmk, h.gd.map, h.gd.ap, h.gd.pos, h.gd.nd, fun x hx => ?_⟩
   obtain ⟨p, h2, h3⟩ := h.gd.ls x hx
   refine ⟨p, ?_, ?_⟩
   ·rw [make_of hb, h2, if_neg]
    ·rfl
    rintro ⟨h4, rfl⟩; exact hk h4 hx
   have := of_some (P := d.s.L) (g := x) (p := p) (by rw [h2]; simp)
   rw [eL, lev_app this]; exact h3
  have hprot : ∀ g, ¬ (k.role = 0 ∧ k.g = g) → protB ⟨makeS n d.s k, d.T, d.l⟩ g = protB d g := by
   intro g hg
   unfold protB looseB; simp only
   rw [make_of hb, if_neg hg, List.append_nil]
  split
  ·rename_i hr0
   have h2 := h1.forbid k.g
   have hw2 := forbid_not (n := n) hmk h.gd.map h.gd.pos k.g
   refine ⟨h2, ?_, ?_⟩
   ·intro q' hq' i y hy hy2
    have hq'2 : q' ∈ updP (makeS n d.s k).L (forbidU L (makeS n d.s k) k.g) := hq'
    obtain ⟨q, hq, hf', _, hs⟩ := mem_upd hq'2
    have hq2 := hmk.inL hq
    rw [hs, List.getElem?_mapIdx] at hy
    cases e : q.s[i]? with
    | none => rw [e] at hy; simp at hy
    | some x =>
     rw [e, Option.map_some] at hy
     injection hy with hy
     have hi := (List.getElem?_eq_some_iff.1 e).1
     rw [hmk.eight q hq] at hi
     obtain ⟨_, _, _, _, g3⟩ := hmk.words q hq i x e
     show _ ∧ (updW (makeS n d.s k).L (makeS n d.s k).W (forbidU L (makeS n d.s k) k.g))[_]? = _
     unfold updW
     have e1 : (q.f.toNat * 8 + i) / 8 = q.f.toNat := by omega
     have e2 : (q.f.toNat * 8 + i) % 8 = i := by omega
     have e3 : ((q.f.toNat : Nat) : Int) = q.f := by omega
     rw [hf', List.getElem?_mapIdx, e1, e2, e3, hmk.at_ hq]
     simp only [Option.isSome_some, if_true]
     cases hc : forbidU L (makeS n d.s k) k.g q.f i with
     | none =>
      rw [hc] at hy
      have hy : x = y := hy
      subst hy
      have := hlw q hq i x e hy2
      rw [this.2]
      exact ⟨this.1, rfl⟩
     | some z =>
      rw [hc] at hy
      have hy : z.1 = y := hy
      subst hy
      obtain ⟨x', hx', k1, k2, k3, k4, k5⟩ := forbidU_some hc
      obtain ⟨x2, h6, h7⟩ := hmk.slot hq hi
      rw [hx'] at h7; injection h7 with h7; subst h7
      rw [e] at h6; injection h6 with h6; subst h6
      have := hlw q hq i x e k1
      rw [g3]
      exact ⟨by rw [k4]; simp only; rw [← k2]; exact this.1, by rw [Option.map_some]; show some z.2 = _; rw [k5, k4]⟩
   intro f i x hx hx2 hw
   have hne : x.to_ ≠ k.g := by
    intro e
    rw [Bool.eq_false_iff, Ne, writB_iff (hmk.forbid h.gd.map h.gd.pos k.g)] at hw2
    exact hw2 ⟨f, i, x, hx, hx2, e, hw⟩
   have hx' : slotP (updS (makeS n d.s k) (forbidU L (makeS n d.s k) k.g)).L f i = some x := hx
   rw [slot_forbid] at hx'
   cases e : slotP (makeS n d.s k).L f i with
   | none => rw [e] at hx'; simp at hx'
   | some y =>
    rw [e, Option.map_some] at hx'
    injection hx' with hx'
    split at hx'
    ·subst hx'; simp [Rg.noW] at hw
    subst hx'
    have := h.pr f i y (hslot f i y e hx2) hx2 hw
    show protB ⟨updS _ _, _, d.l⟩ y.to_ = false
    have e5 : protB ⟨updS (makeS n d.s k) (forbidU L (makeS n d.s k) k.g), if writB (makeS n d.s k) k.g then [] else d.T, d.l⟩ y.to_ = protB ⟨makeS n d.s k, d.T, d.l⟩ y.to_ := by
     unfold protB looseB; simp only; rw [updS_L, of_upd]
    rw [e5, hprot _ (fun h => hne h.2.symm)]; exact this
  rename_i hr0
  refine ⟨h1, hlw, fun f i x hx hx2 hw => ?_⟩
  rw [hprot _ (fun h => hr0 h.1)]
  exact h.pr f i x (hslot f i x hx hx2) hx2 hw
 exact h
theorem FdOk.pre (h : FdOk n a m L d) (k : Ky) : FdOk n a m L (preG n L d k) := by
 unfold preG; split
 ·exact h.look _
 exact h
theorem FdOk.make (h : FdOk n a m L d) (k : Ky) : FdOk n a m L (makeG n L d k) := by
 unfold makeG
 split
 ·exact h
 exact (h.pre k).made (h.gd.pre k).2
theorem FdOk.drop (h : FdOk n a m L d) (p : Int) : FdOk n a m L (dropG d p) := by
 cases e : pgAt d.s.L p with
 | none =>
  have : dropG d p = d := by unfold dropG; rw [e]
  rw [this]; exact h
 | some q =>
  obtain ⟨hq, rfl⟩ := pgAt_mem e
  have hb : dropB d.s q.f = true := by unfold dropB; rw [e]; rfl
  have eL : (dropS d.s q.f).L = (wipeS d.s (goneC d.s.L q.f)).L.filter fun x => decide (x.f ≠ q.f) := by unfold dropS; rw [if_pos hb]
  have eW : (dropS d.s q.f).W = (wipeS d.s (goneC d.s.L q.f)).W := by unfold dropS; rw [if_pos hb]
  have es : (dropG d q.f).s = dropS d.s q.f := by unfold dropG; rw [e]
  have H := h.wipe (goneC d.s.L q.f) []
  refine ⟨h.gd.drop q.f, ?_, ?_⟩
  ·intro x hx i y hy h2
   rw [es] at hx ⊢
   rw [eL, List.mem_filter] at hx
   rw [eW]
   exact H.lw x hx.1 i y hy h2
  intro f i x hx h2 hw
  rw [es] at hx
  have hf : f ≠ q.f := by
   intro e2; rw [slot_drop hb, if_pos e2] at hx; simp at hx
  rw [slot_drop hb, if_neg hf] at hx
  cases e3 : slotP d.s.L f i with
  | none => rw [e3] at hx; simp at hx
  | some y =>
   rw [e3, Option.map_some] at hx
   injection hx with hx
   split at hx
   ·subst hx; simp [Slt.no] at h2
   subst hx
   have := h.pr f i y e3 h2 hw
   unfold protB at this ⊢
   rw [es, of_drop hb]
   rw [Bool.and_eq_false_iff] at this ⊢
   rcases this with h3 | h3
   ·left
    rw [Bool.not_eq_false', List.isEmpty_iff] at h3 ⊢
    rw [h3]; rfl
   by_cases hme : q.k.role = 0 ∧ y.to_ = q.k.g
   ·left
    rw [Bool.not_eq_false', List.isEmpty_iff]
    unfold looseB at h3
    rw [Bool.not_eq_false', List.contains_iff_mem] at h3
    obtain ⟨p', h4, _⟩ := h.gd.ls _ h3
    have hm : q.f ∈ ofP d.s.L y.to_ := of_mem.2 ⟨q, hq, rfl, hme.1, hme.2.symm⟩
    rw [h4] at hm ⊢
    simp at hm; subst hm; simp
   right
   rw [Bool.not_eq_false'] at h3 ⊢
   unfold looseB at h3 ⊢
   rw [List.contains_iff_mem] at h3 ⊢
   unfold dropG; rw [e]
   simp only
   split
   ·rename_i hr
    exact List.mem_filter.2 ⟨h3, by simpa using fun e => hme ⟨hr, e⟩⟩
   exact h3
end
section
variable (n : Nat) (L : List Int)
def victimF (d : Gd) (pins : List Int) : Option Pg := d.s.L.find? fun q => !pins.contains q.f
def getF_ (d : Gd) (k : Ky) : Gd × Option Int := (makeG n L d k, if makeGB n L d k then some (makeGV n L d k) else none)
def takeF (d : Gd) (pins : List Int) (k : Ky) : Gd × Option Int := match pgOf d.s.L k with
 | some q => (d, some q.f)
 | none => if d.s.fr.isEmpty then (match victimF d pins with
  | none => (d, none)
  | some q => getF_ n L (dropG d q.f) k) else getF_ n L d k
def lookAt (d : Gd) (p : Int) : Gd := match pgAt d.s.L p with
 | some q => if q.k.role = 0 then lookG n L d q.k.g else d
 | none => d
def kidsF (P : List Pg) (c : Int) : List Int := match pgAt P c with
 | some q => (q.s.filter fun x => decide (x.kind = 1)).map Slt.to_
 | none => []
def looksF (d : Gd) (c : Int) : Gd := match pgAt d.s.L c with
 | some q => if q.k.lev = 2 then (kidsF d.s.L c).foldl (lookAt n L) d else if q.k.lev = 1 ∧ q.k.role = 0 then lookG n L d q.k.g else d
 | none => d
def linkG (d : Gd) (root p i c : Int) (r : Rg) : Gd × List Int :=
 if slotP d.s.L p i = some ⟨1, c, r⟩ then (d, []) else
  (⟨childS n (zapG n (looksF n L d c) p i).s p i c r, (zapG n (looksF n L d c) p i).T, (zapG n (looksF n L d c) p i).l⟩, reachP (childS n (zapG n (looksF n L d c) p i).s p i c r).L root p i)
def layG (d : Gd) (root c i g : Int) (r : Rg) : Gd × List Int :=
 if slotP d.s.L c i = some ⟨2, g, r⟩ then (d, []) else
  (⟨leafS n (zapG n d c i).s c i g (atV L g) r, (zapG n d c i).T, (zapG n d c i).l⟩, reachP (leafS n (zapG n d c i).s c i g (atV L g) r).L root c i)
def lowK (P : Pa) (dirty : Bool) (f : Int) : Ky := ⟨f, 1, if P.large then (if dirty then 2 else 1) else 0⟩
def atF (P : Pa) (k : Nat) : Int × Int := P.ats.getD k (0, 0)
def entF (W : List Int) (P : Pa) (k : Nat) : Ent := entG n L W (atF P k).1 (atF P k).2
def leafR (W : List Int) (P : Pa) : Rg := if P.large then Rg.all else ofE (entF n L W P 2)
def leafW (d : Gd) (r : Rg) (g : Int) (dirty : Bool) : Rg := ⟨r.w && (dirty && !protB d g), r.u, r.x⟩
def fillG (d : Gd) (root page : Int) (P : Pa) (written : Bool) : Gd × List Int × Bool :=
 let e1 := entF n L d.s.W P 0
 let e2 := entF n L d.s.W P 1
 let r := leafR n L d.s.W P
 match takeF n L d [] ⟨root, 3, 0⟩ with
 | (d1, none) => (d1, [], false)
 | (d1, some a) => match takeF n L d1 [a] ⟨e1.f, 2, 0⟩ with
  | (d2, none) => (d2, [], false)
  | (d2, some b) => match takeF n L d2 [a, b] (lowK P (P.dirty || written) e2.f) with
   | (d3, none) => (d3, [], false)
   | (d3, some c) =>
    let l1 := linkG n L d3 root a (idxI page 3) b (ofE e1)
    let l2 := linkG n L l1.1 root b (idxI page 2) c (ofE e2)
    let l3 := layG n L l2.1 root c (idxI page 1) P.g (leafW l2.1 r P.g (P.dirty || written))
    (l3.1, l1.2 ++ (l2.2 ++ l3.2), true)
end
def keyP (P : List Pg) (f : Int) : Option Ky := (pgAt P f).map Pg.k
def LeR (x x' : Slt) : Prop := x'.r = x.r ∨ (x.kind = 2 ∧ x'.r = x.r.noW)
def LessS (P P' : List Pg) : Prop := ∀ f i x', slotP P' f i = some x' → x'.kind ≠ 0 → keyP P' f = keyP P f ∧ ∃ x, slotP P f i = some x ∧ x'.kind = x.kind ∧ x'.to_ = x.to_ ∧ LeR x x'
def wayK (P : List Pg) (root page : Int) : Option (Slt × Slt × Slt) := (pgOf P ⟨root, 3, 0⟩).bind fun t => wayS P t.f page
def Anew (root : Int) (P P' : List Pg) (out : List Int) : Prop := ∀ k : Nat, k < 512 → (k : Int) ∉ out → ∀ x', wayK P' root k = some x' → ∃ x, wayK P root k = some x ∧ wayG x' = wayG x ∧ under (wayR x') (wayR x) = true
section
variable {n a m : Nat} {L : List Int} {d : Gd} {s : Sr} {P P' P'' : List Pg}
theorem under_trans {a b c : Rg} (h : under a b = true) (k : under b c = true) : under a c = true := by
 rw [under_iff] at h k ⊢
 exact ⟨fun x => k.1 (h.1 x), fun x => k.2.1 (h.2.1 x), fun x => k.2.2 (h.2.2 x)⟩
theorem LeR.refl (x : Slt) : LeR x x := .inl rfl
theorem LeR.under {x x' : Slt} (h : LeR x x') : under x'.r x.r = true := by
 rcases h with h | ⟨_, h⟩
 ·rw [h]; exact under_refl _
 rw [h, under_iff]; simp [Rg.noW]
theorem LeR.trans {x x' x'' : Slt} (hk : x'.kind = x.kind) (h : LeR x x') (k : LeR x' x'') : LeR x x'' := by
 rcases h with h | ⟨h0, h⟩ <;> rcases k with k | ⟨k0, k⟩
 ·exact .inl (k.trans h)
 ·exact .inr ⟨hk ▸ k0, by rw [k, h]⟩
 ·exact .inr ⟨h0, by rw [k, h]⟩
 exact .inr ⟨h0, by rw [k, h]; rfl⟩
theorem LessS.refl (P : List Pg) : LessS P P := fun _ _ x' h _ => ⟨rfl, x', h, rfl, rfl, LeR.refl _⟩
theorem LessS.trans (h : LessS P P') (k : LessS P' P'') : LessS P P'' := fun f i x'' h2 h0 => by
 obtain ⟨k1, x', k2, k3, k4, k5⟩ := k f i x'' h2 h0
 obtain ⟨h1, x, h2, h3, h4, h5⟩ := h f i x' k2 (by rw [← k3]; exact h0)
 exact ⟨k1.trans h1, x, h2, k3.trans h3, k4.trans h4, LeR.trans h3 h5 k5⟩
theorem key_upd (P : List Pg) (u : Up) (f : Int) : keyP (updP P u) f = keyP P f := by
 unfold keyP; rw [pgAt_upd]; cases pgAt P f <;> rfl
theorem LessS.upd (s : Sr) (u : Up) (h : ∀ f i x y, slotP s.L f i = some x → u f i.toNat = some y → y.1.kind ≠ 0 → y.1.kind = x.kind ∧ y.1.to_ = x.to_ ∧ LeR x y.1) : LessS s.L (updS s u).L := by
 intro f i x' hx h0
 rw [updS_L] at hx ⊢
 rw [slot_upd] at hx
 refine ⟨key_upd _ _ _, ?_⟩
 cases e : slotP s.L f i with
 | none => rw [e] at hx; simp at hx
 | some x =>
  rw [e, Option.map_some] at hx
  injection hx with hx
  refine ⟨x, rfl, ?_⟩
  cases hc : u f i.toNat with
  | none =>
   rw [hc] at hx
   have hx : x = x' := hx
   subst hx; exact ⟨rfl, rfl, LeR.refl _⟩
  | some y =>
   rw [hc] at hx
   have hx : y.1 = x' := hx
   subst hx; exact h f i x y e hc h0
theorem LessS.wipe (s : Sr) (c : Int → Nat → Bool) : LessS s.L (wipeS s c).L := by
 refine LessS.upd s _ fun f i x y _ e h0 => ?_
 unfold wipeU at e
 split at e
 ·injection e with e; subst e; simp [Slt.no] at h0
 simp at e
theorem LessS.forbid (s : Sr) (g : Int) : LessS s.L (updS s (forbidU L s g)).L := by
 refine LessS.upd s _ fun f i x y hx e h0 => ?_
 obtain ⟨x2, h1, h2, h3, h4, h5, h6⟩ := forbidU_some e
 obtain ⟨_, _, hi0, _, _⟩ := slotP_has hx
 have e2 : ((i.toNat : Nat) : Int) = i := by omega
 rw [e2, hx] at h1; injection h1 with h1; subst h1
 rw [h5]
 exact ⟨h2.symm, h3.symm, .inr ⟨h2, rfl⟩⟩
theorem LessS.look (d : Gd) (g : Int) : LessS d.s.L (lookG n L d g).s.L := by
 unfold lookG
 split
 ·exact (LessS.forbid (L := L) d.s g).trans (LessS.wipe _ _)
 exact LessS.refl _
theorem LessS.drop (s : Sr) (p : Int) : LessS s.L (dropS s p).L := by
 by_cases hb : dropB s p = true
 ·intro f i x' hx h0
  rw [slot_drop hb] at hx
  split at hx
  ·simp at hx
  rename_i hf
  cases e : slotP s.L f i with
  | none => rw [e] at hx; simp at hx
  | some x =>
   rw [e, Option.map_some] at hx
   injection hx with hx
   split at hx
   ·subst hx; simp [Slt.no] at h0
   subst hx
   refine ⟨?_, x, rfl, rfl, rfl, LeR.refl _⟩
   unfold keyP dropS
   rw [if_pos hb]
   simp only
   rw [pgAt_filter, if_neg hf]
   exact key_upd s.L (wipeU (goneC s.L p)) f
 have : dropS s p = s := by unfold dropS; rw [if_neg hb]
 rw [this]; exact LessS.refl _
theorem LessS.make (_h : SrOk n a m s) (k : Ky) : LessS s.L (makeS n s k).L := by
 unfold makeS
 split
 ·intro f i x' hx h0
  obtain ⟨q, e, i0, i7, hs⟩ := slotP_has hx
  cases e2 : pgAt s.L f with
  | some q2 =>
   have e3 := pgAt_app (M := [⟨s.fr.getLastD 0, k, List.replicate 8 Slt.no⟩]) e2
   rw [e3] at e; injection e with e; subst e
   refine ⟨by unfold keyP; rw [e3, e2], x', ?_, rfl, rfl, LeR.refl _⟩
   unfold slotP; rw [if_pos ⟨i0, i7⟩, e2]; exact hs
  | none =>
   rw [pgAt_app_no e2] at e
   have := (pgAt_mem e).1
   simp only [List.mem_cons, List.not_mem_nil, or_false] at this; subst this
   have := List.eq_of_mem_replicate (List.mem_of_getElem? hs)
   subst this; simp [Slt.no] at h0
 exact LessS.refl _
theorem LessS.made (h : SrOk n a m d.s) (k : Ky) : LessS d.s.L (makeD n L d k).s.L := by
 unfold makeD
 split
 ·split
  ·exact (LessS.make h k).trans (LessS.forbid (L := L) (makeS n d.s k) k.g)
  exact LessS.make h k
 exact LessS.refl _
theorem LessS.makeG (h : GdOk n a m L d) (k : Ky) : LessS d.s.L (makeG n L d k).s.L := by
 unfold Go.Proofs.YtmbgepafpcbakaaGreatDoor.makeG
 split
 ·exact LessS.refl _
 refine LessS.trans (P' := (preG n L d k).s.L) ?_ (LessS.made (h.pre k).1.sr k)
 unfold preG; split
 ·exact LessS.look _ _
 exact LessS.refl _
theorem LessS.dropG (d : Gd) (p : Int) : LessS d.s.L (dropG d p).s.L := by
 unfold Go.Proofs.YtmbgepafpcbakaaGreatDoor.dropG
 split
 ·exact LessS.drop _ _
 exact LessS.refl _
theorem LessS.zap (h : SrOk n a m d.s) (p i : Int) : LessS d.s.L (zapG n d p i).s.L := by
 by_cases hi : 0 ≤ i ∧ i ≤ 7
 ·unfold zapG
  split
  ·rw [h.clear_wipe p i hi]; exact LessS.wipe _ _
  exact LessS.refl _
 rw [zap_no hi]; exact LessS.refl _
theorem LessS.way (hl : LessS P P') {t page : Int} {x' : Slt × Slt × Slt} (h : wayS P' t page = some x') : ∃ x, wayS P t page = some x ∧ wayG x' = wayG x ∧ under (wayR x') (wayR x) = true ∧ keyP P' t = keyP P t := by
 unfold wayS at h ⊢
 cases h3 : slotP P' t (idxI page 3) with
 | none => rw [h3] at h; simp at h
 | some x3 =>
  rw [h3, Option.bind_some] at h
  by_cases z3 : x3.kind = 1
  ·rw [if_pos z3] at h
   obtain ⟨hk, y3, s3, k3, t3, u3⟩ := hl _ _ _ h3 (by omega)
   rw [s3, Option.bind_some, if_pos (k3 ▸ z3), ← t3]
   cases h2 : slotP P' x3.to_ (idxI page 2) with
   | none => rw [h2] at h; simp at h
   | some x2 =>
    rw [h2, Option.bind_some] at h
    by_cases z2 : x2.kind = 1
    ·rw [if_pos z2] at h
     obtain ⟨_, y2, s2, k2, t2, u2⟩ := hl _ _ _ h2 (by omega)
     rw [s2, Option.bind_some, if_pos (k2 ▸ z2), ← t2]
     cases h1 : slotP P' x2.to_ (idxI page 1) with
     | none => rw [h1] at h; simp at h
     | some x1 =>
      rw [h1, Option.bind_some] at h
      by_cases z1 : x1.kind = 2
      ·rw [if_pos z1] at h
       obtain ⟨_, y1, s1, k1, t1, u1⟩ := hl _ _ _ h1 (by omega)
       rw [s1, Option.bind_some, if_pos (k1 ▸ z1)]
       injection h with h; subst h
       refine ⟨_, rfl, t1, ?_, hk⟩
       replace u1 := u1.under; replace u2 := u2.under; replace u3 := u3.under
       rw [under_iff] at u1 u2 u3 ⊢
       unfold wayR Rg.and
       simp only [Bool.and_eq_true]
       exact ⟨fun ⟨⟨a, b⟩, c⟩ => ⟨⟨u3.1 a, u2.1 b⟩, u1.1 c⟩, fun ⟨⟨a, b⟩, c⟩ => ⟨⟨u3.2.1 a, u2.2.1 b⟩, u1.2.1 c⟩, fun ⟨⟨a, b⟩, c⟩ => ⟨⟨u3.2.2 a, u2.2.2 b⟩, u1.2.2 c⟩⟩
      rw [if_neg z1] at h; simp at h
    rw [if_neg z2] at h; simp at h
  rw [if_neg z3] at h; simp at h
theorem Anew.refl (root : Int) (P : List Pg) : Anew root P P [] := fun _ _ _ x' h => ⟨x', h, rfl, under_refl _⟩
theorem Anew.trans {root : Int} {o o' : List Int} (h : Anew root P P' o) (k : Anew root P' P'' o') : Anew root P P'' (o ++ o') := fun j hj ho x'' hx => by
 rw [List.mem_append, not_or] at ho
 obtain ⟨x', h1, h2, h3⟩ := k j hj ho.2 x'' hx
 obtain ⟨x, k1, k2, k3⟩ := h j hj ho.1 x' h1
 exact ⟨x, k1, h2.trans k2, under_trans h3 k3⟩
theorem Anew.less (hk : (P.map Pg.k).Nodup) (hf : (P'.map Pg.f).Nodup) (hl : LessS P P') (root : Int) : Anew root P P' [] := fun j _ _ x' hx => by
 unfold wayK at hx ⊢
 cases e : pgOf P' ⟨root, 3, 0⟩ with
 | none => rw [e] at hx; simp at hx
 | some t =>
  rw [e, Option.bind_some] at hx
  obtain ⟨x, h1, h2, h3, h4⟩ := hl.way hx
  obtain ⟨ht, htk⟩ := pgOf_mem e
  have e2 : keyP P' t.f = some ⟨root, 3, 0⟩ := by unfold keyP; rw [pgAt_self hf ht, Option.map_some, htk]
  rw [e2] at h4
  unfold keyP at h4
  cases e3 : pgAt P t.f with
  | none => rw [e3] at h4; simp at h4
  | some q =>
   rw [e3, Option.map_some] at h4
   injection h4 with h4
   obtain ⟨hq, hqf⟩ := pgAt_mem e3
   have := pgOf_self hk hq
   rw [← h4] at this
   rw [this, Option.bind_some, hqf]
   exact ⟨x, h1, h2, h3⟩
theorem idx_nat {k : Nat} (hk : k < 512) : idxI (k : Int) 3 = ((k / 64 : Nat) : Int) ∧ idxI (k : Int) 2 = ((k / 8 % 8 : Nat) : Int) ∧ idxI (k : Int) 1 = ((k % 8 : Nat) : Int) := by
 unfold idxI
 refine ⟨?_, ?_, ?_⟩ <;> simp <;> omega
theorem way_set {root p : Int} {i : Nat} {x : Slt} {k : Nat} (hk : k < 512) (h8 : ∀ q ∈ P, q.s.length = 8) (hi : i < 8) (hn : passB (setP P p i x) root p i k = false) : wayK (setP P p i x) root k = wayK P root k := by
 have hof : pgOf (setP P p i x) ⟨root, 3, 0⟩ = (pgOf P ⟨root, 3, 0⟩).map fun q => if q.f = p then { q with s := q.s.set i x } else q := pgOf_map _ (fun q => by split <;> rfl) _
 unfold wayK
 unfold passB at hn
 rw [hof] at hn ⊢
 cases e : pgOf P ⟨root, 3, 0⟩ with
 | none => rfl
 | some t =>
  rw [e, Option.map_some] at hn
  rw [Option.map_some, Option.bind_some, Option.bind_some]
  have et : (if t.f = p then { t with s := t.s.set i x } else t : Pg).f = t.f := by split <;> rfl
  simp only [et] at hn ⊢
  obtain ⟨j3, j2, j1⟩ := idx_nat hk
  unfold wayS
  rw [j3, j2, j1]
  rw [Bool.or_eq_false_iff, decide_eq_false_iff_not] at hn
  obtain ⟨n3, hn⟩ := hn
  have e3 : slotP (setP P p i x) t.f ((k / 64 : Nat) : Int) = slotP P t.f ((k / 64 : Nat) : Int) := by
   rw [slot_setP _ _ _ _ _ h8 hi, if_neg]; intro h; exact n3 ⟨h.1.symm, h.2⟩
  rw [e3] at hn ⊢
  cases s3 : slotP P t.f ((k / 64 : Nat) : Int) with
  | none => rfl
  | some x3 =>
   rw [s3] at hn
   simp only [Option.bind_some] at hn ⊢
   by_cases z3 : x3.kind = 1
   ·rw [if_pos z3, if_pos z3]
    rw [decide_eq_true z3, Bool.true_and, Bool.or_eq_false_iff, decide_eq_false_iff_not] at hn
    obtain ⟨n2, hn⟩ := hn
    have e2 : slotP (setP P p i x) x3.to_ ((k / 8 % 8 : Nat) : Int) = slotP P x3.to_ ((k / 8 % 8 : Nat) : Int) := by
     rw [slot_setP _ _ _ _ _ h8 hi, if_neg]; intro h; exact n2 ⟨h.1.symm, h.2⟩
    rw [e2] at hn ⊢
    cases s2 : slotP P x3.to_ ((k / 8 % 8 : Nat) : Int) with
    | none => rfl
    | some x2 =>
     rw [s2] at hn
     simp only [Option.bind_some] at hn ⊢
     by_cases z2 : x2.kind = 1
     ·rw [if_pos z2, if_pos z2]
      rw [decide_eq_true z2, Bool.true_and, decide_eq_false_iff_not] at hn
      have e1 : slotP (setP P p i x) x2.to_ ((k % 8 : Nat) : Int) = slotP P x2.to_ ((k % 8 : Nat) : Int) := by
       rw [slot_setP _ _ _ _ _ h8 hi, if_neg]; intro h; exact hn ⟨h.1.symm, h.2⟩
      rw [e1]
     rw [if_neg z2, if_neg z2]
   rw [if_neg z3, if_neg z3]
theorem Anew.set {root p : Int} {i : Nat} {x : Slt} (h8 : ∀ q ∈ P, q.s.length = 8) (hi : i < 8) : Anew root P (setP P p i x) (reachP (setP P p i x) root p i) := fun k hk ho x' hx => by
 have hn : passB (setP P p i x) root p i k = false := by
  rw [Bool.eq_false_iff]
  intro h
  exact ho (reach_mem.2 ⟨k, hk, rfl, by omega, h⟩)
 rw [way_set hk h8 hi hn] at hx
 exact ⟨x', hx, rfl, under_refl _⟩
structure Kept (n a m : Nat) (L : List Int) (d d' : Gd) : Prop where
 ok : FdOk n a m L d'
 st : Still a m d.s.W d'.s.W
theorem Kept.refl (h : FdOk n a m L d) : Kept n a m L d d := ⟨h, Still.refl _ _ _⟩
theorem Kept.trans {d d' d'' : Gd} (h : Kept n a m L d d') (k : Kept n a m L d' d'') : Kept n a m L d d'' := ⟨k.ok, h.st.trans k.st⟩
theorem Kept.look (h : FdOk n a m L d) (g : Int) : Kept n a m L d (lookG n L d g) := ⟨h.look g, Still.look h.gd g⟩
theorem Kept.make (h : FdOk n a m L d) (k : Ky) : Kept n a m L d (makeG n L d k) := ⟨h.make k, Still.makes h.gd k⟩
theorem Kept.drop (h : FdOk n a m L d) (p : Int) : Kept n a m L d (dropG d p) := ⟨h.drop p, Still.dropG h.gd p⟩
theorem Kept.zap (h : FdOk n a m L d) (p i : Int) : Kept n a m L d (zapG n d p i) := ⟨h.zap' p i, Still.zap h.gd p i⟩
def shapeP (P : List Pg) : List (Int × Ky) := P.map fun q => (q.f, q.k)
theorem shape_upd (P : List Pg) (u : Up) : shapeP (updP P u) = shapeP P := by
 unfold shapeP updP; rw [List.map_map]; rfl
theorem shape_of {P P' : List Pg} (h : shapeP P' = shapeP P) (k : Ky) : (pgOf P' k).map Pg.f = (pgOf P k).map Pg.f := by
 have key : ∀ Q : List Pg, (pgOf Q k).map Pg.f = ((shapeP Q).find? fun x => decide (x.2 = k)).map (·.1) := by
  intro Q
  unfold pgOf shapeP
  rw [List.find?_map, Option.map_map]; rfl
 rw [key, key, h]
theorem shape_ofP {P P' : List Pg} (h : shapeP P' = shapeP P) (g : Int) : ofP P' g = ofP P g := by
 have key : ∀ Q : List Pg, ofP Q g = ((shapeP Q).filter fun x => decide (x.2.role = 0 ∧ x.2.g = g)).map (·.1) := by
  intro Q
  unfold ofP shapeP
  rw [List.filter_map, List.map_map]; rfl
 rw [key, key, h]
theorem shape_look (d : Gd) (g : Int) : shapeP (lookG n L d g).s.L = shapeP d.s.L ∧ (lookG n L d g).s.fr = d.s.fr := by
 unfold lookG
 split
 ·refine ⟨?_, rfl⟩
  show shapeP (updP (updP d.s.L _) _) = _
  rw [shape_upd, shape_upd]
 exact ⟨rfl, rfl⟩
theorem shape_pre (d : Gd) (k : Ky) : shapeP (preG n L d k).s.L = shapeP d.s.L ∧ (preG n L d k).s.fr = d.s.fr := by
 unfold preG; split
 ·exact shape_look d k.g
 exact ⟨rfl, rfl⟩
theorem shape_set (P : List Pg) (p : Int) (i : Nat) (x : Slt) : shapeP (setP P p i x) = shapeP P := by
 unfold shapeP setP
 rw [List.map_map]
 apply List.map_congr_left
 intro q _
 simp only [Function.comp]
 split <;> rfl
theorem pre_makeB {k : Ky} (hn : pgOf d.s.L k = none) : makeB (preG n L d k).s k = (k.right && !d.s.fr.isEmpty) := by
 have h := shape_pre (n := n) (L := L) d k
 have h2 := shape_of h.1 k
 rw [hn, Option.map_none, Option.map_eq_none_iff] at h2
 unfold makeB
 rw [h2, h.2]; rfl
theorem make_new (_h : FdOk n a m L d) {k : Ky} (hn : pgOf d.s.L k = none) (hr : k.right = true) (hf : d.s.fr.isEmpty = false) :
  makeGB n L d k = true ∧ makeGV n L d k = d.s.fr.getLastD 0 ∧ shapeP (makeG n L d k).s.L = shapeP d.s.L ++ [(d.s.fr.getLastD 0, k)] ∧ (makeG n L d k).s.fr = d.s.fr.dropLast := by
 have hm : makeB (preG n L d k).s k = true := by rw [pre_makeB hn, hr, hf]; rfl
 have hs := shape_pre (n := n) (L := L) d k
 refine ⟨by unfold makeGB; rw [hm]; simp, by unfold makeGV; rw [hn]; simp only; unfold makeV; rw [if_pos hm, hs.2], ?_, ?_⟩
 ·unfold makeG; rw [hn]
  simp only [Option.isSome_none, Bool.false_eq_true, if_false]
  unfold makeD; rw [if_pos hm]
  have e : shapeP (makeS n (preG n L d k).s k).L = shapeP d.s.L ++ [(d.s.fr.getLastD 0, k)] := by
   unfold makeS; rw [if_pos hm]
   unfold shapeP; simp only; rw [List.map_append]
   have := hs.1
   unfold shapeP at this
   rw [this, hs.2]; rfl
  split
  ·show shapeP (updP _ _) = _; rw [shape_upd]; exact e
  exact e
 unfold makeG; rw [hn]
 simp only [Option.isSome_none, Bool.false_eq_true, if_false]
 unfold makeD; rw [if_pos hm]
 have e : (makeS n (preG n L d k).s k).fr = d.s.fr.dropLast := by unfold makeS; rw [if_pos hm]; simp only; rw [hs.2]
 split
 ·exact e
 exact e
theorem shape_drop {q : Pg} (h : SrOk n a m d.s) (hq : q ∈ d.s.L) : shapeP (dropG d q.f).s.L = (shapeP d.s.L).filter (fun x => decide (x.1 ≠ q.f)) ∧ (dropG d q.f).s.fr = d.s.fr ++ [q.f] := by
 have e := h.at_ hq
 have hb : dropB d.s q.f = true := by unfold dropB; rw [e]; rfl
 have es : (dropG d q.f).s = dropS d.s q.f := by unfold dropG; rw [e]
 rw [es]
 unfold dropS; rw [if_pos hb]
 refine ⟨?_, rfl⟩
 have e2 := shape_upd d.s.L (wipeU (goneC d.s.L q.f))
 rw [← e2]
 show shapeP (List.filter _ (updP _ _)) = _
 unfold shapeP
 rw [List.filter_map]; rfl
theorem shape_mem {P : List Pg} {f : Int} {k : Ky} : (f, k) ∈ shapeP P ↔ ∃ q ∈ P, q.f = f ∧ q.k = k := by
 unfold shapeP; rw [List.mem_map]
 constructor
 ·rintro ⟨q, hq, e⟩; injection e with e1 e2; exact ⟨q, hq, e1, e2⟩
 rintro ⟨q, hq, rfl, rfl⟩; exact ⟨q, hq, rfl⟩
theorem nodup_len : ∀ {A B : List Int}, A.Nodup → (∀ x ∈ A, x ∈ B) → A.length ≤ B.length
 | [], _, _, _ => by simp
 | x :: A, B, hd, hs => by
  rw [List.nodup_cons] at hd
  have hx := hs x (by simp)
  have := nodup_len (B := B.erase x) hd.2 fun y hy => (List.mem_erase_of_ne (fun e : y = x => hd.1 (by rw [← e]; exact hy))).2 (hs y (by simp [hy]))
  rw [List.length_erase_of_mem hx] at this
  have := List.length_pos_of_mem hx
  simp; omega
theorem takeF_room (h : FdOk n a m L d) {pins : List Int} {k : Ky} (hr : k.right = true) (hl : pins.length < m) : (takeF n L d pins k).2.isSome = true := by
 unfold takeF
 cases e : pgOf d.s.L k with
 | some q => rfl
 | none =>
  simp only
  cases hfr : d.s.fr.isEmpty with
  | false =>
   simp only [Bool.false_eq_true, if_false]
   unfold getF_
   rw [(make_new h e hr hfr).1]; rfl
  | true =>
   simp only [if_true]
   have hcnt := h.gd.sr.cnt
   rw [List.isEmpty_iff] at hfr
   rw [hfr] at hcnt
   simp at hcnt
   cases ev : victimF d pins with
   | none =>
    exfalso
    unfold victimF at ev
    rw [List.find?_eq_none] at ev
    have hsub : ∀ x ∈ d.s.L.map Pg.f, x ∈ pins := by
     intro x hx
     obtain ⟨q, hq, rfl⟩ := List.mem_map.1 hx
     have := ev q hq
     simpa using this
    have := nodup_len h.gd.sr.ndL hsub
    rw [List.length_map] at this; omega
   | some q =>
    simp only
    unfold victimF at ev
    have hq := List.mem_of_find?_eq_some ev
    obtain ⟨hs, hf⟩ := shape_drop h.gd.sr hq
    have hno : pgOf (dropG d q.f).s.L k = none := by
     rw [pgOf_none]
     intro x hx hxk
     have : (x.f, x.k) ∈ shapeP (dropG d q.f).s.L := shape_mem.2 ⟨x, hx, rfl, rfl⟩
     rw [hs, List.mem_filter] at this
     obtain ⟨y, hy, _, hyk⟩ := shape_mem.1 this.1
     exact pgOf_none.1 e y hy (hyk.trans hxk)
    have hne : (dropG d q.f).s.fr.isEmpty = false := by rw [hf, hfr]; rfl
    unfold getF_
    rw [(make_new (h.drop q.f) hno hr hne).1]; rfl
theorem Kept.take (h : FdOk n a m L d) (pins : List Int) (k : Ky) : Kept n a m L d (takeF n L d pins k).1 := by
 unfold takeF
 split
 ·exact Kept.refl h
 split
 ·split
  ·exact Kept.refl h
  exact (Kept.drop h _).trans (Kept.make (h.drop _) k)
 exact Kept.make h k
theorem takeF_ok (h : FdOk n a m L d) {pins : List Int} {k : Ky} (hr : k.right = true) (hp : ∀ p ∈ pins, ∃ k', (p, k') ∈ shapeP d.s.L ∧ k' ≠ k) (hl : (takeF n L d pins k).2.isSome = true) :
  ∃ f, (takeF n L d pins k).2 = some f ∧ Kept n a m L d (takeF n L d pins k).1 ∧ (f, k) ∈ shapeP (takeF n L d pins k).1.s.L ∧ (∀ p ∈ pins, ∀ k', (p, k') ∈ shapeP d.s.L → (p, k') ∈ shapeP (takeF n L d pins k).1.s.L) ∧
   LessS d.s.L (takeF n L d pins k).1.s.L ∧ f ∉ pins := by
 unfold takeF at hl ⊢
 cases e : pgOf d.s.L k with
 | some q =>
  obtain ⟨hq, rfl⟩ := pgOf_mem e
  refine ⟨q.f, rfl, Kept.refl h, shape_mem.2 ⟨q, hq, rfl, rfl⟩, fun p _ k' hk' => hk', LessS.refl _, fun hm => ?_⟩
  obtain ⟨k', h1, h2⟩ := hp _ hm
  obtain ⟨q', hq', hf', hk'⟩ := shape_mem.1 h1
  have : q' = q := by have := h.gd.sr.at_ hq'; rw [hf', h.gd.sr.at_ hq] at this; injection this with this; exact this.symm
  subst this; exact h2 hk'.symm
 | none =>
  rw [e] at hl
  simp only at hl ⊢
  cases hfr : d.s.fr.isEmpty with
  | false =>
   simp only [Bool.false_eq_true, if_false]
   obtain ⟨h1, h2, h3, _⟩ := make_new h e hr hfr
   unfold getF_
   rw [h1]
   simp only [if_true]
   refine ⟨_, rfl, Kept.make h k, ?_, fun p _ k' hk' => by rw [h3]; simp [hk'], LessS.makeG h.gd k, ?_⟩
   ·rw [h3, h2]; simp
   rw [h2]; intro hm
   obtain ⟨k', h4, _⟩ := hp _ hm
   obtain ⟨q', hq', hf', _⟩ := shape_mem.1 h4
   have hnd := h.gd.sr.nd
   rw [last_app hfr] at hnd
   exact (List.nodup_append.1 hnd).2.2 _ (List.mem_map.2 ⟨q', hq', hf'⟩) _ (by simp) rfl
  | true =>
   rw [hfr] at hl
   simp only [if_true] at hl ⊢
   rw [List.isEmpty_iff] at hfr
   cases ev : victimF d pins with
   | none => rw [ev] at hl; simp at hl
   | some q =>
    simp only
    unfold victimF at ev
    have hq := List.mem_of_find?_eq_some ev
    have hnp : q.f ∉ pins := by have := List.find?_some ev; simpa using this
    obtain ⟨hs, hf⟩ := shape_drop h.gd.sr hq
    have hd := h.drop q.f
    have hno : pgOf (dropG d q.f).s.L k = none := by
     rw [pgOf_none]
     intro x hx hxk
     have : (x.f, x.k) ∈ shapeP (dropG d q.f).s.L := shape_mem.2 ⟨x, hx, rfl, rfl⟩
     rw [hs, List.mem_filter] at this
     obtain ⟨y, hy, _, hyk⟩ := shape_mem.1 this.1
     exact pgOf_none.1 e y hy (hyk.trans hxk)
    have hne : (dropG d q.f).s.fr.isEmpty = false := by rw [hf, hfr]; rfl
    obtain ⟨h1, h2, h3, _⟩ := make_new hd hno hr hne
    unfold getF_
    rw [h1]
    simp only [if_true]
    have hv : (dropG d q.f).s.fr.getLastD 0 = q.f := by rw [hf]; simp
    refine ⟨_, rfl, (Kept.drop h _).trans (Kept.make hd k), ?_, fun p hpp k' hk' => ?_, (LessS.dropG d _).trans (LessS.makeG hd.gd k), ?_⟩
    ·rw [h3, h2]; simp
    ·rw [h3, hs]
     refine List.mem_append_left _ (List.mem_filter.2 ⟨hk', ?_⟩)
     have : p ≠ q.f := fun e => hnp (e ▸ hpp)
     simpa using this
    rw [h2, hv]; exact hnp
end
section
variable {n a m : Nat} {L : List Int} {d : Gd} {s : Sr} {P P' P'' : List Pg}
def KeepC (P P' : List Pg) : Prop := ∀ f i x, x.kind = 1 → slotP P f i = some x → slotP P' f i = some x
theorem KeepC.refl (P : List Pg) : KeepC P P := fun _ _ _ _ h => h
theorem KeepC.trans (h : KeepC P P') (k : KeepC P' P'') : KeepC P P'' := fun f i x h1 h2 => k f i x h1 (h f i x h1 h2)
theorem KeepC.look (h : GdOk n a m L d) (g : Int) : KeepC d.s.L (lookG n L d g).s.L := by
 by_cases hl : looseB d g = true
 ·intro f i x h1 h2
  rw [slot_look h hl, h2, Option.map_some]
  have hne : ¬ (x.kind = 2 ∧ x.to_ = g) := by omega
  simp only [if_neg hne]
  rw [if_neg]
  rintro ⟨_, h3, _⟩; omega
 have : lookG n L d g = d := by unfold lookG; rw [if_neg hl]
 rw [this]; exact KeepC.refl _
structure LookK (n a m : Nat) (L : List Int) (d d' : Gd) : Prop where
 k : Kept n a m L d d'
 sh : shapeP d'.s.L = shapeP d.s.L
 ls : LessS d.s.L d'.s.L
 kc : KeepC d.s.L d'.s.L
theorem LookK.refl (h : FdOk n a m L d) : LookK n a m L d d := ⟨Kept.refl h, rfl, LessS.refl _, KeepC.refl _⟩
theorem LookK.trans {d d' d'' : Gd} (h : LookK n a m L d d') (k : LookK n a m L d' d'') : LookK n a m L d d'' := ⟨h.k.trans k.k, k.sh.trans h.sh, h.ls.trans k.ls, h.kc.trans k.kc⟩
theorem LookK.look (h : FdOk n a m L d) (g : Int) : LookK n a m L d (lookG n L d g) := ⟨Kept.look h g, (shape_look d g).1, LessS.look d g, KeepC.look h.gd g⟩
theorem LookK.at_ (h : FdOk n a m L d) (p : Int) : LookK n a m L d (lookAt n L d p) := by
 unfold lookAt
 split
 ·split
  ·exact LookK.look h _
  exact LookK.refl h
 exact LookK.refl h
theorem LookK.ats (l : List Int) {d : Gd} (h : FdOk n a m L d) : LookK n a m L d (l.foldl (lookAt n L) d) := by
 induction l generalizing d with
 | nil => exact LookK.refl h
 | cons p l ih => exact (LookK.at_ h p).trans (ih (LookK.at_ h p).k.ok)
theorem LookK.looks (h : FdOk n a m L d) (c : Int) : LookK n a m L d (looksF n L d c) := by
 unfold looksF
 split
 ·split
  ·exact LookK.ats _ h
  split
  ·exact LookK.look h _
  exact LookK.refl h
 exact LookK.refl h
theorem shape_zap (d : Gd) (p i : Int) : shapeP (zapG n d p i).s.L = shapeP d.s.L := by
 unfold zapG clearS
 split
 ·exact shape_set _ _ _ _
 rfl
theorem shape_has {P : List Pg} (hf : (P.map Pg.f).Nodup) {f : Int} {k : Ky} (h : (f, k) ∈ shapeP P) : ∃ q, pgAt P f = some q ∧ q ∈ P ∧ q.f = f ∧ q.k = k := by
 obtain ⟨q, hq, rfl, rfl⟩ := shape_mem.1 h
 exact ⟨q, pgAt_self hf hq, hq, rfl, rfl⟩
theorem set_less_anew {root p i : Int} {x : Slt} {P0 : List Pg} (hi : 0 ≤ i ∧ i ≤ 7) (h8 : ∀ q ∈ P, q.s.length = 8) (hk : (P0.map Pg.k).Nodup) (hf : (P.map Pg.f).Nodup) (hl : LessS P0 P) :
  Anew root P0 (setP P p i.toNat x) (reachP (setP P p i.toNat x) root p i) := by
 have h1 := Anew.less hk hf hl root
 have h2 := Anew.set (root := root) (p := p) (x := x) h8 (show i.toNat < 8 by omega)
 have e : ((i.toNat : Nat) : Int) = i := by omega
 rw [e] at h2
 have h3 := h1.trans h2
 rw [List.nil_append] at h3
 exact h3
theorem child_yes {p i c : Int} {r : Rg} (hb : childB s p i c = true) : (childS n s p i c r).L = setP s.L p i.toNat ⟨1, c, r⟩ := by unfold childS; rw [if_pos hb]; rfl
theorem leaf_yes {p i g f : Int} {r : Rg} (hb : leafB n s p i f = true) : (leafS n s p i g f r).L = setP s.L p i.toNat ⟨2, g, r⟩ := by unfold leafS; rw [if_pos hb]; rfl
theorem shape_lev {P : List Pg} (hf : (P.map Pg.f).Nodup) {f : Int} {k : Ky} (h : (f, k) ∈ shapeP P) : levP P f = k.lev ∧ (pgAt P f).isSome = true := by
 obtain ⟨q, e, _, _, hk⟩ := shape_has hf h
 unfold levP; rw [e, ← hk]; exact ⟨rfl, rfl⟩
theorem link_spec (h : FdOk n a m L d) {root p i c : Int} {r : Rg} {kp kc : Ky} (hp : (p, kp) ∈ shapeP d.s.L) (hc : (c, kc) ∈ shapeP d.s.L) (hl : kc.lev = kp.lev - 1) (hi : 0 ≤ i ∧ i ≤ 7) :
  Kept n a m L d (linkG n L d root p i c r).1 ∧ shapeP (linkG n L d root p i c r).1.s.L = shapeP d.s.L ∧ slotP (linkG n L d root p i c r).1.s.L p i = some ⟨1, c, r⟩ ∧
   (∀ f j x, ¬ (f = p ∧ j = i) → x.kind = 1 → slotP d.s.L f j = some x → slotP (linkG n L d root p i c r).1.s.L f j = some x) ∧ Anew root d.s.L (linkG n L d root p i c r).1.s.L (linkG n L d root p i c r).2 := by
 unfold linkG
 split
 ·rename_i e
  exact ⟨Kept.refl h, rfl, e, fun _ _ _ _ _ h => h, Anew.refl _ _⟩
 have H := LookK.looks h c
 generalize looksF n L d c = d1 at *
 have Z := Kept.zap H.k.ok p i
 have hz := zap_slot (n := n) H.k.ok.gd.sr p i hi
 have hs1 : shapeP (zapG n d1 p i).s.L = shapeP d.s.L := (shape_zap d1 p i).trans H.sh
 have hls : LessS d.s.L (zapG n d1 p i).s.L := H.ls.trans (LessS.zap H.k.ok.gd.sr p i)
 have hkc : ∀ f j x, ¬ (f = p ∧ j = i) → x.kind = 1 → slotP d.s.L f j = some x → slotP (zapG n d1 p i).s.L f j = some x := by
  intro f j x hne h1 h2
  rw [hz, H.kc f j x h1 h2, Option.map_some, if_neg hne]
 generalize zapG n d1 p i = d2 at *
 have sr := Z.ok.gd.sr
 rw [← hs1] at hp hc
 have hlp := shape_lev sr.ndL hp
 have hlc := shape_lev sr.ndL hc
 have hb : childB d2.s p i c = true := by
  unfold childB hasS
  rw [hlp.2, hlc.2, hlp.1, hlc.1, hl]; simp [hi]
 have eL := child_yes (n := n) (r := r) hb
 have K := Z.ok.child p i c r
 refine ⟨⟨K, (H.k.st.trans Z.st).trans ?_⟩, ?_, ?_, ?_, ?_⟩
 ·show Still a m d2.s.W (childS n d2.s p i c r).W
  unfold childS; rw [if_pos hb]
  exact Still.set sr _ _ (childB_has hb).1
 ·show shapeP (childS n d2.s p i c r).L = _
  rw [eL, shape_set, hs1]
 ·show slotP (childS n d2.s p i c r).L p i = _
  rw [eL, slot_setP _ _ _ _ _ sr.eight (show i.toNat < 8 by omega), if_pos ⟨rfl, by omega⟩]
  obtain ⟨q, e, hq, hf, _⟩ := shape_has sr.ndL hp
  obtain ⟨y, hy⟩ := slot_some sr hq i hi
  rw [hf] at hy; rw [hy]; rfl
 ·intro f j x hne h1 h2
  show slotP (childS n d2.s p i c r).L f j = _
  rw [eL, slot_setP _ _ _ _ _ sr.eight (show i.toNat < 8 by omega), if_neg (by intro hh; exact hne ⟨hh.1, by omega⟩)]
  exact hkc f j x hne h1 h2
 dsimp only
 rw [eL]
 have hA := set_less_anew (root := root) (p := p) (x := ⟨1, c, r⟩) hi sr.eight h.gd.sr.keys sr.ndL hls
 exact hA
theorem lay_spec (h : FdOk n a m L d) {root c i g : Int} {r : Rg} {kc : Ky} (hc : (c, kc) ∈ shapeP d.s.L) (hl : kc.lev = 1) (hi : 0 ≤ i ∧ i ≤ 7) (hg : 0 ≤ g ∧ g < L.length) (hw : r.w = true → protB d g = false) :
  Kept n a m L d (layG n L d root c i g r).1 ∧ shapeP (layG n L d root c i g r).1.s.L = shapeP d.s.L ∧ slotP (layG n L d root c i g r).1.s.L c i = some ⟨2, g, r⟩ ∧
   (∀ f j, ¬ (f = c ∧ j = i) → slotP (layG n L d root c i g r).1.s.L f j = slotP d.s.L f j) ∧ Anew root d.s.L (layG n L d root c i g r).1.s.L (layG n L d root c i g r).2 ∧ (layG n L d root c i g r).1.l = d.l := by
 unfold layG
 split
 ·rename_i e
  exact ⟨Kept.refl h, rfl, e, fun _ _ _ => rfl, Anew.refl _ _, rfl⟩
 have Z := Kept.zap h c i
 have hz := zap_slot (n := n) h.gd.sr c i hi
 have hs1 : shapeP (zapG n d c i).s.L = shapeP d.s.L := shape_zap d c i
 have hls : LessS d.s.L (zapG n d c i).s.L := LessS.zap h.gd.sr c i
 have hlo : (zapG n d c i).l = d.l := by unfold zapG; split <;> rfl
 have hpr : protB (zapG n d c i) g = protB d g := by unfold protB looseB; rw [hlo, shape_ofP hs1]
 generalize zapG n d c i = d2 at *
 have sr := Z.ok.gd.sr
 rw [← hs1] at hc
 have hlc := shape_lev sr.ndL hc
 have hr := atV_rng h.gd.map h.gd.pos g
 have hb : leafB n d2.s c i (atV L g) = true := by
  unfold leafB hasS
  rw [hlc.2, hlc.1, hl]; simp [hi, hr]
 have eL := leaf_yes (g := g) (r := r) hb
 have K := Z.ok.leaf c i g r hg (by rw [hpr]; exact hw)
 have hsl : ∀ f j, ¬ (f = c ∧ j = i) → slotP (leafS n d2.s c i g (atV L g) r).L f j = slotP d.s.L f j := by
  intro f j hne
  rw [eL, slot_setP _ _ _ _ _ sr.eight (show i.toNat < 8 by omega), if_neg (by intro hh; exact hne ⟨hh.1, by omega⟩), hz]
  cases slotP d.s.L f j with
  | none => rfl
  | some x => rw [Option.map_some, if_neg hne]
 refine ⟨⟨K, Z.st.trans ?_⟩, ?_, ?_, hsl, ?_, hlo⟩
 ·show Still a m d2.s.W (leafS n d2.s c i g (atV L g) r).W
  unfold leafS; rw [if_pos hb]
  unfold leafB at hb
  simp only [Bool.and_eq_true] at hb
  exact Still.set sr _ _ hb.1.1
 ·show shapeP (leafS n d2.s c i g (atV L g) r).L = _
  rw [eL, shape_set, hs1]
 ·show slotP (leafS n d2.s c i g (atV L g) r).L c i = _
  rw [eL, slot_setP _ _ _ _ _ sr.eight (show i.toNat < 8 by omega), if_pos ⟨rfl, by omega⟩]
  obtain ⟨q, e, hq, hf, _⟩ := shape_has sr.ndL hc
  obtain ⟨y, hy⟩ := slot_some sr hq i hi
  rw [hf] at hy; rw [hy]; rfl
 dsimp only
 rw [eL]
 have hA := set_less_anew (root := root) (p := c) (x := ⟨2, g, r⟩) hi sr.eight h.gd.sr.keys sr.ndL hls
 exact hA
structure Filled (n : Nat) (L : List Int) (d : Gd) (root page : Int) (P : Pa) (e1 e2 : Ent) (r : Rg) (dirty : Bool) (a b c : Int) : Prop where
 ka : (a, Ky.mk root 3 0) ∈ shapeP d.s.L
 kb : (b, Ky.mk e1.f 2 0) ∈ shapeP d.s.L
 kc : (c, lowK P dirty e2.f) ∈ shapeP d.s.L
 sa : slotP d.s.L a (idxI page 3) = some ⟨1, b, ofE e1⟩
 sb : slotP d.s.L b (idxI page 2) = some ⟨1, c, ofE e2⟩
 sc : slotP d.s.L c (idxI page 1) = some ⟨2, P.g, leafW d r P.g dirty⟩
theorem low_right (P : Pa) (t : Bool) (f : Int) : (lowK P t f).right = true := by
 rw [right_iff]
 unfold lowK
 cases P.large <;> cases t <;> simp
theorem fill_takes {root page : Int} {P : Pa} {written : Bool} (hok : (fillG n L d root page P written).2.2 = true) :
  (takeF n L d [] ⟨root, 3, 0⟩).2.isSome = true ∧ ∀ d1 x, takeF n L d [] ⟨root, 3, 0⟩ = (d1, some x) → (takeF n L d1 [x] ⟨(entF n L d.s.W P 0).f, 2, 0⟩).2.isSome = true ∧
   ∀ d2 y, takeF n L d1 [x] ⟨(entF n L d.s.W P 0).f, 2, 0⟩ = (d2, some y) → (takeF n L d2 [x, y] (lowK P (P.dirty || written) (entF n L d.s.W P 1).f)).2.isSome = true := by
 unfold fillG at hok
 simp only at hok
 cases e1 : takeF n L d [] ⟨root, 3, 0⟩ with
 | mk d1 o1 =>
  rw [e1] at hok
  cases o1 with
  | none => simp at hok
  | some x =>
   simp only at hok
   refine ⟨rfl, fun d1' x' e => ?_⟩
   injection e with e e'; injection e' with e'; subst e; subst e'
   cases e2 : takeF n L d1 [x] ⟨(entF n L d.s.W P 0).f, 2, 0⟩ with
   | mk d2 o2 =>
    rw [e2] at hok
    cases o2 with
    | none => simp at hok
    | some y =>
     simp only at hok
     refine ⟨rfl, fun d2' y' e => ?_⟩
     injection e with e e'; injection e' with e'; subst e; subst e'
     cases e3 : takeF n L d2 [x, y] (lowK P (P.dirty || written) (entF n L d.s.W P 1).f) with
     | mk d3 o3 =>
      rw [e3] at hok
      cases o3 with
      | none => simp at hok
      | some z => rfl
theorem fill_okT (h : FdOk n a m L d) (root page : Int) (P : Pa) (written : Bool) (hok : (fillG n L d root page P written).2.2 = true) (hg : 0 ≤ P.g ∧ P.g < L.length) :
  Kept n a m L d (fillG n L d root page P written).1 ∧ Anew root d.s.L (fillG n L d root page P written).1.s.L (fillG n L d root page P written).2.1 ∧
   ∃ x y z, Filled n L (fillG n L d root page P written).1 root page P (entF n L d.s.W P 0) (entF n L d.s.W P 1) (leafR n L d.s.W P) (P.dirty || written) x y z ∧ ∀ t, pgOf d.s.L ⟨root, 3, 0⟩ = some t → t.f = x := by
 obtain ⟨i1, i2⟩ := fill_takes hok
 unfold fillG
 simp only
 clear hok
 generalize entF n L d.s.W P 0 = e1 at *
 generalize entF n L d.s.W P 1 = e2 at *
 generalize leafR n L d.s.W P = r at *
 generalize (P.dirty || written) = dirty at *
 obtain ⟨fa, q1, k1, m1, p1, s1, n1⟩ := takeF_ok h (pins := []) (k := ⟨root, 3, 0⟩) (by rw [right_iff]; simp) (by simp) i1
 have q9 : ∀ t, pgOf d.s.L ⟨root, 3, 0⟩ = some t → t.f = fa := fun t ht => by unfold takeF at q1; rw [ht] at q1; simpa using q1
 generalize takeF n L d [] ⟨root, 3, 0⟩ = T1 at *
 obtain ⟨d1, o1⟩ := T1
 simp only at q1 k1 m1 p1 s1; subst q1
 obtain ⟨i2, i3⟩ := i2 d1 fa rfl
 simp only
 obtain ⟨fb, q2, k2, m2, p2, s2, n2⟩ := takeF_ok k1.ok (pins := [fa]) (k := ⟨e1.f, 2, 0⟩) (by rw [right_iff]; simp) (by intro p hp; simp at hp; subst hp; exact ⟨_, m1, by simp [Ky.ext_]⟩) i2
 generalize takeF n L d1 [fa] ⟨e1.f, 2, 0⟩ = T2 at *
 obtain ⟨d2, o2⟩ := T2
 simp only at q2 k2 m2 p2 s2; subst q2
 have i3 := i3 d2 fb rfl
 simp only
 have ma2 := p2 fa (by simp) _ m1
 obtain ⟨fc, q3, k3, m3, p3, s3, n3⟩ := takeF_ok k2.ok (pins := [fa, fb]) (k := lowK P dirty e2.f) (low_right _ _ _) (by
  intro p hp; simp at hp
  rcases hp with rfl | rfl
  ·exact ⟨_, ma2, by unfold lowK; simp [Ky.ext_]⟩
  exact ⟨_, m2, by unfold lowK; simp [Ky.ext_]⟩) i3
 generalize takeF n L d2 [fa, fb] (lowK P dirty e2.f) = T3 at *
 obtain ⟨d3, o3⟩ := T3
 simp only at q3 k3 m3 p3 s3; subst q3
 simp only
 have ma3 := p3 fa (by simp) _ ma2
 have mb3 := p3 fb (by simp) _ m2
 have K3 := (k1.trans k2).trans k3
 have A3 : Anew root d.s.L d3.s.L [] := Anew.less h.gd.sr.keys K3.ok.gd.sr.ndL ((s1.trans s2).trans s3) root
 simp only [List.mem_cons, List.not_mem_nil, or_false, not_or] at n2 n3
 clear k1 k2 s1 s2 s3 p1 p2 p3 m1 m2 ma2 n1 i1 i2 i3
 obtain ⟨k4, h4, s4, c4, A4⟩ := link_spec K3.ok (root := root) (i := idxI page 3) (r := ofE e1) ma3 mb3 (by simp) (idxI_rng _ _)
 generalize linkG n L d3 root fa (idxI page 3) fb (ofE e1) = T4 at *
 rw [← h4] at ma3 mb3 m3
 obtain ⟨k5, h5, s5, c5, A5⟩ := link_spec k4.ok (root := root) (i := idxI page 2) (r := ofE e2) mb3 m3 (by unfold lowK; simp) (idxI_rng _ _)
 generalize linkG n L T4.1 root fb (idxI page 2) fc (ofE e2) = T5 at *
 rw [← h5] at ma3 mb3 m3
 have s4' := c5 fa (idxI page 3) _ (fun e => n2 e.1.symm) rfl s4
 have hlow : (lowK P dirty e2.f).lev = 1 := rfl
 obtain ⟨k6, h6, s6, c6, A6, l6⟩ := lay_spec k5.ok (root := root) (i := idxI page 1) (g := P.g) (r := leafW T5.1 r P.g dirty) m3 hlow (idxI_rng _ _) hg (by
  unfold leafW; simp only [Bool.and_eq_true, Bool.not_eq_true']; exact fun h => h.2.2)
 generalize hw : leafW T5.1 r P.g dirty = rw5 at *
 generalize layG n L T5.1 root fc (idxI page 1) P.g rw5 = T6 at *
 have hpr : protB T6.1 P.g = protB T5.1 P.g := by unfold protB looseB; rw [l6, shape_ofP h6]
 rw [← h6] at ma3 mb3 m3
 refine ⟨((K3.trans k4).trans k5).trans k6, ?_, fa, fb, fc, ⟨ma3, mb3, m3, ?_, ?_, ?_⟩, q9⟩
 ·have := A3.trans (A4.trans (A5.trans A6))
  rw [List.nil_append] at this
  exact this
 ·rw [c6 _ _ (fun e => n3.1 e.1.symm)]; exact s4'
 ·rw [c6 _ _ (fun e => n3.2 e.1.symm)]; exact s5
 rw [s6, ← hw]; unfold leafW; rw [hpr]
theorem fill_ok (h : FdOk n a m L d) (root page : Int) (P : Pa) (written : Bool) (hok : (fillG n L d root page P written).2.2 = true) (hg : 0 ≤ P.g ∧ P.g < L.length) :
  Kept n a m L d (fillG n L d root page P written).1 ∧ Anew root d.s.L (fillG n L d root page P written).1.s.L (fillG n L d root page P written).2.1 ∧
   ∃ x y z, Filled n L (fillG n L d root page P written).1 root page P (entF n L d.s.W P 0) (entF n L d.s.W P 1) (leafR n L d.s.W P) (P.dirty || written) x y z := by
 obtain ⟨k, h2, x, y, z, h3, _⟩ := fill_okT h root page P written hok hg
 exact ⟨k, h2, x, y, z, h3⟩
theorem fill_room (h : FdOk n a m L d) (hm : 3 ≤ m) (root page : Int) (P : Pa) (written : Bool) : (fillG n L d root page P written).2.2 = true := by
 unfold fillG
 simp only
 generalize entF n L d.s.W P 0 = e1
 generalize entF n L d.s.W P 1 = e2
 have r1 := takeF_room h (pins := []) (k := ⟨root, 3, 0⟩) (by rw [right_iff]; simp) (by simp; omega)
 have k1 := Kept.take h [] ⟨root, 3, 0⟩
 generalize takeF n L d [] ⟨root, 3, 0⟩ = T1 at *
 obtain ⟨d1, o1⟩ := T1
 cases o1 with
 | none => simp at r1
 | some x =>
  simp only at k1 ⊢
  have r2 := takeF_room k1.ok (pins := [x]) (k := ⟨e1.f, 2, 0⟩) (by rw [right_iff]; simp) (by simp; omega)
  have k2 := Kept.take k1.ok [x] ⟨e1.f, 2, 0⟩
  generalize takeF n L d1 [x] ⟨e1.f, 2, 0⟩ = T2 at *
  obtain ⟨d2, o2⟩ := T2
  cases o2 with
  | none => simp at r2
  | some y =>
   simp only at k2 ⊢
   have r3 := takeF_room k2.ok (pins := [x, y]) (k := lowK P (P.dirty || written) e2.f) (low_right _ _ _) (by simp; omega)
   generalize takeF n L d2 [x, y] (lowK P (P.dirty || written) e2.f) = T3 at *
   obtain ⟨d3, o3⟩ := T3
   cases o3 with
   | none => simp at r3
   | some z => rfl
theorem Filled.way {root page : Int} {P : Pa} {e1 e2 : Ent} {r : Rg} {dirty : Bool} {x y z : Int} (h : FdOk n a m L d) (F : Filled n L d root page P e1 e2 r dirty x y z) :
  (∃ t, pgOf d.s.L ⟨root, 3, 0⟩ = some t ∧ t.f = x ∧ t ∈ d.s.L) ∧ wayK d.s.L root page = some (⟨1, y, ofE e1⟩, ⟨1, z, ofE e2⟩, ⟨2, P.g, leafW d r P.g dirty⟩) := by
 obtain ⟨q, hq, hf, hk⟩ := shape_mem.1 F.ka
 have e := h.gd.sr.of_ hq
 rw [hk] at e
 refine ⟨⟨q, e, hf, hq⟩, ?_⟩
 unfold wayK
 rw [e, Option.bind_some, hf]
 unfold wayS
 rw [F.sa, Option.bind_some, if_pos rfl, F.sb, Option.bind_some, if_pos rfl, F.sc, Option.bind_some, if_pos rfl]
theorem takeF_there {f : Int} {k : Ky} (h : SrOk n a m d.s) (hk : (f, k) ∈ shapeP d.s.L) (pins : List Int) : takeF n L d pins k = (d, some f) := by
 obtain ⟨q, hq, hf, rfl⟩ := shape_mem.1 hk
 unfold takeF
 rw [h.of_ hq, ← hf]
theorem fill_twice {root page : Int} {P : Pa} {written : Bool} {x y z : Int} (h : FdOk n a m L d) (F : Filled n L d root page P (entF n L d.s.W P 0) (entF n L d.s.W P 1) (leafR n L d.s.W P) (P.dirty || written) x y z) :
  fillG n L d root page P written = (d, [], true) := by
 unfold fillG
 simp only
 rw [takeF_there h.gd.sr F.ka]
 simp only
 rw [takeF_there h.gd.sr F.kb]
 simp only
 rw [takeF_there h.gd.sr F.kc]
 simp only
 have e1 : linkG n L d root x (idxI page 3) y (ofE (entF n L d.s.W P 0)) = (d, []) := by unfold linkG; rw [if_pos F.sa]
 rw [e1]
 simp only
 have e2 : linkG n L d root y (idxI page 2) z (ofE (entF n L d.s.W P 1)) = (d, []) := by unfold linkG; rw [if_pos F.sb]
 rw [e2]
 simp only
 have e3 : layG n L d root z (idxI page 1) P.g (leafW d (leafR n L d.s.W P) P.g (P.dirty || written)) = (d, []) := by unfold layG; rw [if_pos F.sc]
 rw [e3]; rfl
theorem Still.entF {W W' : List Int} (h : Still a m W W') (hi : InH n L) (ha : ∀ h ∈ L, ¬ ((a : Int) ≤ h ∧ h < a + m)) (P : Pa) (k : Nat) : entF n L W' P k = entF n L W P k := by
 unfold Go.Proofs.YtmbgepafpcbakaaGreatDoor.entF; rw [h.ent hi ha]
theorem Still.leafR {W W' : List Int} (h : Still a m W W') (hi : InH n L) (ha : ∀ h ∈ L, ¬ ((a : Int) ≤ h ∧ h < a + m)) (P : Pa) : leafR n L W' P = leafR n L W P := by
 unfold Go.Proofs.YtmbgepafpcbakaaGreatDoor.leafR; rw [h.entF hi ha]
theorem fill_again (h : FdOk n a m L d) (root page : Int) (P : Pa) (written : Bool) (hok : (fillG n L d root page P written).2.2 = true) (hg : 0 ≤ P.g ∧ P.g < L.length) :
  fillG n L (fillG n L d root page P written).1 root page P written = ((fillG n L d root page P written).1, [], true) := by
 obtain ⟨k, _, x, y, z, F⟩ := fill_ok h root page P written hok hg
 have e : ∀ j, entF n L (fillG n L d root page P written).1.s.W P j = entF n L d.s.W P j := fun j => k.st.entF h.gd.map h.gd.ap P j
 have e2 := k.st.leafR h.gd.map h.gd.ap P
 refine fill_twice (x := x) (y := y) (z := z) k.ok ?_
 rw [e, e, e2]; exact F
theorem takeF_len (h : FdOk n a m L d) {pins : List Int} {k : Ky} (hr : k.right = true) (_hp : ∀ p ∈ pins, ∃ k', (p, k') ∈ shapeP d.s.L ∧ k' ≠ k) (hl : pins.length < m) (hn : pgOf d.s.L k = none) :
  (takeF n L d pins k).1.s.L.length = min m (d.s.L.length + 1) ∧ (∀ f k', (f, k') ∈ shapeP (takeF n L d pins k).1.s.L → k' = k ∨ (f, k') ∈ shapeP d.s.L) := by
 have hcnt := h.gd.sr.cnt
 have hlen : ∀ P : List Pg, (shapeP P).length = P.length := fun P => by unfold shapeP; simp
 unfold takeF
 rw [hn]
 simp only
 cases hfr : d.s.fr.isEmpty with
 | false =>
  simp only [Bool.false_eq_true, if_false]
  obtain ⟨_, _, h3, _⟩ := make_new h hn hr hfr
  unfold getF_
  simp only
  have hpos : 0 < d.s.fr.length := by cases e : d.s.fr with
   | nil => rw [e] at hfr; simp at hfr
   | cons x t => simp
  refine ⟨by rw [← hlen, h3, List.length_append, hlen]; simp; omega, fun f k' hm => ?_⟩
  rw [h3, List.mem_append] at hm
  rcases hm with hm | hm
  ·exact .inr hm
  simp at hm; exact .inl hm.2
 | true =>
  simp only [if_true]
  rw [List.isEmpty_iff] at hfr
  rw [hfr] at hcnt
  simp at hcnt
  cases ev : victimF d pins with
  | none =>
   exfalso
   unfold victimF at ev
   rw [List.find?_eq_none] at ev
   have hsub : ∀ x ∈ d.s.L.map Pg.f, x ∈ pins := by
    intro x hx
    obtain ⟨q, hq, rfl⟩ := List.mem_map.1 hx
    have := ev q hq
    simpa using this
   have := nodup_len h.gd.sr.ndL hsub
   rw [List.length_map] at this; omega
  | some q =>
   simp only
   unfold victimF at ev
   have hq := List.mem_of_find?_eq_some ev
   obtain ⟨hs, hf⟩ := shape_drop h.gd.sr hq
   have hd := h.drop q.f
   have hno : pgOf (dropG d q.f).s.L k = none := by
    rw [pgOf_none]
    intro x hx hxk
    have : (x.f, x.k) ∈ shapeP (dropG d q.f).s.L := shape_mem.2 ⟨x, hx, rfl, rfl⟩
    rw [hs, List.mem_filter] at this
    obtain ⟨y, hy, _, hyk⟩ := shape_mem.1 this.1
    exact pgOf_none.1 hn y hy (hyk.trans hxk)
   have hne : (dropG d q.f).s.fr.isEmpty = false := by rw [hf, hfr]; rfl
   obtain ⟨_, _, h3, _⟩ := make_new hd hno hr hne
   unfold getF_
   simp only
   have hdl := hd.gd.sr.cnt
   rw [hf, hfr] at hdl
   simp at hdl
   refine ⟨by rw [← hlen, h3, List.length_append, hlen]; simp; omega, fun f k' hm => ?_⟩
   rw [h3, List.mem_append] at hm
   rcases hm with hm | hm
   ·rw [hs, List.mem_filter] at hm; exact .inr hm.1
   simp at hm; exact .inl hm.2
end
end Go.Proofs.YtmbgepafpcbakaaGreatDoor
