/-
 Plain facts on how shadow pages are kept as tables say. No program is walked here.
-/
import Derived.Test.YtgjfidjhbkaobaaGreatGS1K
import Derived.Test.YtgjfidjhbkaobaaGreatG7K
import Derived.Test.YtgjfidjhbkaobaaGreatG9aK
namespace Go.Proofs.YtgjfidjhbkaobaaGreat
open Go.RowKit
structure Gd where
 s : Sr
 T : List Ht
 l : List Int
theorem Gd.ext_ {a b : Gd} (h1 : a.s = b.s) (h2 : a.T = b.T) (h3 : a.l = b.l) : a = b := by
 cases a; cases b; simp at h1 h2 h3; simp [h1, h2, h3]
def looseB (d : Gd) (g : Int) : Bool := d.l.contains g
def protB (d : Gd) (g : Int) : Bool := !(ofP d.s.L g).isEmpty && !looseB d g
def tightG (d : Gd) (g : Int) : Gd := ⟨d.s, d.T, d.l.filter fun x => decide (x ≠ g)⟩
def entG (n : Nat) (L W : List Int) (g i : Int) : Ent := getE (getG n W L g i).toNat
def agreeB (x : Slt) (e : Ent) : Bool := e.p && (e.a && (!e.bad && (!e.s && (e.f == x.to_ && (e.u == x.r.u && (e.n != x.r.x && (!x.r.w || (e.w && e.d))))))))
def Rg.noW (r : Rg) : Rg := ⟨false, r.u, r.x⟩
section
variable (n : Nat) (L : List Int)
def zapG (d : Gd) (p i : Int) : Gd := if clearB d.s p i then ⟨clearS n d.s p i, [], d.l⟩ else d
def wordG (d : Gd) (g i : Int) : Gd := (ofP d.s.L g).foldl (fun d p => zapG n d p i) d
def forbidU (s : Sr) (g : Int) : Up := fun f i => match slotP s.L f i with
 | some x => if x.kind = 2 ∧ x.to_ = g ∧ x.r.w = true then some (⟨2, g, x.r.noW⟩, wordS ⟨2, g, x.r.noW⟩ (atV L g)) else none
 | none => none
def writB (s : Sr) (g : Int) : Bool := s.L.any fun q => q.s.any fun x => decide (x.kind = 2 ∧ x.to_ = g ∧ x.r.w = true)
def forbidG (d : Gd) (g : Int) : Gd := ⟨updS d.s (forbidU L d.s g), if writB d.s g then [] else d.T, d.l⟩
def lookC (s : Sr) (g : Int) (f : Int) (i : Nat) : Bool := (ofP s.L g).contains f && (match slotP s.L f i with
 | some x => decide (x.kind = 2) && !agreeB x (entG n L s.W g i)
 | none => false)
def lookG (d : Gd) (g : Int) : Gd := if looseB d g then ⟨wipeS (forbidG L (tightG d g) g).s (lookC n L (forbidG L (tightG d g) g).s g), [], (tightG d g).l⟩ else d
def looksG (d : Gd) : Gd := d.l.foldl (lookG n L) d
def loosenB (d : Gd) (g : Int) : Bool := !looseB d g && (match ofP d.s.L g with
 | [p] => decide (levP d.s.L p = 1) && (match toldP 1 p d.s.L with
  | [q] => decide ((toldP 1 q.1 d.s.L).length = 1)
  | _ => false)
 | _ => false)
def loosenG (d : Gd) (g : Int) : Gd := if loosenB d g then ⟨d.s, d.T, d.l ++ [g]⟩ else d
def makeD (d : Gd) (k : Ky) : Gd := if makeB d.s k then (if k.role = 0 then forbidG L ⟨makeS n d.s k, d.T, d.l⟩ k.g else ⟨makeS n d.s k, d.T, d.l⟩) else d
def preG (d : Gd) (k : Ky) : Gd := if k.role = 0 then lookG n L d k.g else d
def makeG (d : Gd) (k : Ky) : Gd := if (pgOf d.s.L k).isSome then d else makeD n L (preG n L d k) k
def makeGB (d : Gd) (k : Ky) : Bool := (pgOf d.s.L k).isSome || makeB (preG n L d k).s k
def makeGV (d : Gd) (k : Ky) : Int := match pgOf d.s.L k with
 | some q => q.f
 | none => makeV (preG n L d k).s k
def dropG (d : Gd) (p : Int) : Gd := match pgAt d.s.L p with
 | some q => ⟨dropS d.s p, [], if q.k.role = 0 then d.l.filter fun x => decide (x ≠ q.k.g) else d.l⟩
 | none => d
end
def passB (L : List Pg) (root p i : Int) (page : Nat) : Bool := match pgOf L ⟨root, 3, 0⟩ with
 | none => false
 | some t => decide (p = t.f ∧ ((page / 64 : Nat) : Int) = i) || (match slotP L t.f ((page / 64 : Nat) : Int) with
  | none => false
  | some x => decide (x.kind = 1) && (decide (p = x.to_ ∧ ((page / 8 % 8 : Nat) : Int) = i) || (match slotP L x.to_ ((page / 8 % 8 : Nat) : Int) with
   | none => false
   | some y => decide (y.kind = 1) && decide (p = y.to_ ∧ ((page % 8 : Nat) : Int) = i))))
def reachP (L : List Pg) (root p i : Int) : List Int := ((List.range 512).filter fun k => decide (0 ≤ i ∧ i < 8) && passB L root p i k).map fun k : Nat => (k : Int)
structure GdOk (n a m : Nat) (L : List Int) (d : Gd) : Prop where
 sr : SrOk n a m d.s
 map : InH n L
 ap : ∀ h ∈ L, ¬ ((a : Int) ≤ h ∧ h < a + m)
 pos : 0 < n
 nd : d.l.Nodup
 ls : ∀ g ∈ d.l, ∃ p, ofP d.s.L g = [p] ∧ levP d.s.L p = 1
def Still (a m : Nat) (W W' : List Int) : Prop := W'.length = W.length ∧ ∀ j : Nat, ¬ (a ≤ j / 8 ∧ j / 8 < a + m) → W'.getD j 0 = W.getD j 0
section
variable {n a m : Nat} {L : List Int} {d : Gd} {s : Sr}
theorem Still.upd (h : SrOk n a m s) (u : Up) : Still a m s.W (updS s u).W := by
 refine ⟨by rw [updS_W]; unfold updW; rw [List.length_mapIdx], fun j hj => ?_⟩
 rw [updS_W, List.getD_eq_getElem?_getD, List.getD_eq_getElem?_getD]
 unfold updW
 rw [List.getElem?_mapIdx]
 have : pgAt s.L ((j / 8 : Nat) : Int) = none := by
  cases e : pgAt s.L ((j / 8 : Nat) : Int) with
  | none => rfl
  | some q =>
   obtain ⟨hq, hf⟩ := pgAt_mem e
   have := h.inL hq
   exfalso; apply hj; omega
 rw [this]; cases s.W[j]? <;> rfl
theorem Still.get {W W' : List Int} (h : Still a m W W') (_hi : InH n L) (ha : ∀ h ∈ L, ¬ ((a : Int) ≤ h ∧ h < a + m)) (g i : Int) : getG n W' L g i = getG n W L g i := by
 unfold getG
 split
 ·rename_i hg
  unfold atB at hg; rw [decide_eq_true_eq] at hg
  unfold getW
  split
  ·rename_i hw
   refine h.2 _ ?_
   unfold hasW at hw; rw [decide_eq_true_eq] at hw
   have hm : atV L g ∈ L := by
    unfold atV; rw [if_pos (by unfold atB; rw [decide_eq_true_eq]; exact hg), List.getD_eq_getElem?_getD, List.getElem?_eq_getElem (show g.toNat < L.length by omega)]
    exact List.getElem_mem _
   have := ha _ hm
   omega
  rfl
 rfl
theorem Still.ent {W W' : List Int} (h : Still a m W W') (hi : InH n L) (ha : ∀ h ∈ L, ¬ ((a : Int) ≤ h ∧ h < a + m)) (g i : Int) : entG n L W' g i = entG n L W g i := by
 unfold entG; rw [h.get hi ha]
theorem writB_iff (h : SrOk n a m s) {g : Int} : writB s g = true ↔ ∃ f i x, slotP s.L f i = some x ∧ x.kind = 2 ∧ x.to_ = g ∧ x.r.w = true := by
 unfold writB
 rw [List.any_eq_true]
 constructor
 ·rintro ⟨q, hq, hx⟩
  rw [List.any_eq_true] at hx
  obtain ⟨x, hx, hd⟩ := hx
  rw [decide_eq_true_eq] at hd
  obtain ⟨i, hi, rfl⟩ := List.getElem_of_mem hx
  have h8 := h.eight q hq
  obtain ⟨y, h1, h2⟩ := h.slot hq (i := i) (by omega)
  rw [List.getElem?_eq_getElem hi] at h1
  injection h1 with h1; subst h1
  exact ⟨_, _, _, h2, hd⟩
 rintro ⟨f, i, x, hx, hd⟩
 obtain ⟨q, e, _, _, h3⟩ := slotP_has hx
 refine ⟨q, (pgAt_mem e).1, ?_⟩
 rw [List.any_eq_true]
 exact ⟨x, List.mem_of_getElem? h3, by rw [decide_eq_true_eq]; exact hd⟩
theorem forbidU_some {g : Int} {f : Int} {i : Nat} {y : Slt × Int} (h : forbidU L s g f i = some y) : ∃ x, slotP s.L f i = some x ∧ x.kind = 2 ∧ x.to_ = g ∧ x.r.w = true ∧ y.1 = ⟨2, g, x.r.noW⟩ ∧ y.2 = wordS ⟨2, g, x.r.noW⟩ (atV L g) := by
 unfold forbidU at h
 split at h
 ·rename_i x e
  split at h
  ·rename_i hc
   injection h with h; subst h
   exact ⟨x, e, hc.1, hc.2.1, hc.2.2, rfl, rfl⟩
  simp at h
 simp at h
theorem atV_rng (hi : InH n L) (hp : 0 < n) (g : Int) : 0 ≤ atV L g ∧ atV L g < n := by
 unfold atV
 split
 ·rename_i hg
  unfold atB at hg; rw [decide_eq_true_eq] at hg
  rw [List.getD_eq_getElem?_getD, List.getElem?_eq_getElem (show g.toNat < L.length by omega)]
  exact hi _ (List.getElem_mem _)
 omega
theorem SrOk.forbid (h : SrOk n a m s) (hi : InH n L) (hp : 0 < n) (g : Int) : SrOk n a m (updS s (forbidU L s g)) := by
 refine h.upd _ fun q hq i hi8 y v e => ?_
 obtain ⟨x, hx, h1, h2, h3, h4, h5⟩ := forbidU_some e
 simp only at h4 h5
 obtain ⟨x', h6, h7⟩ := h.slot hq hi8
 rw [hx] at h7; injection h7 with h7; subst h7
 have hr := atV_rng hi hp g
 have := h.n256
 refine ⟨?_, atV L g, hr.1, by omega, fun e => by rw [h4] at e; simp at e, by rw [h5, h4]⟩
 rcases h.kinds q hq x (List.mem_of_getElem? h6) with h | ⟨h, _⟩ | ⟨_, h⟩
 ·omega
 ·omega
 exact .inr (.inr ⟨by rw [h4], h⟩)
theorem GdOk.forbid (h : GdOk n a m L d) (g : Int) : GdOk n a m L (forbidG L d g) := by
 refine ⟨h.sr.forbid h.map h.pos g, h.map, h.ap, h.pos, h.nd, fun x hx => ?_⟩
 obtain ⟨p, h1, h2⟩ := h.ls x hx
 refine ⟨p, ?_, ?_⟩
 ·show ofP (updS d.s _).L x = _; rw [updS_L, of_upd]; exact h1
 show levP (updS d.s _).L p = _; rw [updS_L, lev_upd]; exact h2
theorem GdOk.tight (h : GdOk n a m L d) (g : Int) : GdOk n a m L (tightG d g) :=
 ⟨h.sr, h.map, h.ap, h.pos, h.nd.filter _, fun x hx => h.ls x (List.mem_filter.1 hx).1⟩
theorem GdOk.wipe (h : GdOk n a m L d) (c : Int → Nat → Bool) (T : List Ht) : GdOk n a m L ⟨wipeS d.s c, T, d.l⟩ := by
 refine ⟨h.sr.wipe c, h.map, h.ap, h.pos, h.nd, fun x hx => ?_⟩
 obtain ⟨p, h1, h2⟩ := h.ls x hx
 refine ⟨p, ?_, ?_⟩
 ·show ofP (wipeS d.s c).L x = _; unfold wipeS; rw [updS_L, of_upd]; exact h1
 show levP (wipeS d.s c).L p = _; unfold wipeS; rw [updS_L, lev_upd]; exact h2
theorem GdOk.tlb (h : GdOk n a m L d) (T : List Ht) : GdOk n a m L ⟨d.s, T, d.l⟩ := ⟨h.sr, h.map, h.ap, h.pos, h.nd, h.ls⟩
theorem GdOk.look (h : GdOk n a m L d) (g : Int) : GdOk n a m L (lookG n L d g) := by
 unfold lookG
 split
 ·exact ((h.tight g).forbid g).wipe _ []
 exact h
theorem look_loose (g : Int) : (lookG n L d g).l = d.l.filter fun x => decide (x ≠ g) := by
 unfold lookG
 split
 ·rfl
 rename_i hb
 unfold looseB at hb
 rw [eq_comm, List.filter_eq_self]
 intro x hx
 rw [decide_eq_true_eq]
 rintro rfl
 exact hb (by simpa using hx)
theorem GdOk.setS (h : GdOk n a m L d) {s' : Sr} (hs : SrOk n a m s') (ho : ∀ g, ofP s'.L g = ofP d.s.L g) (hl : ∀ p, levP s'.L p = levP d.s.L p) (T : List Ht) : GdOk n a m L ⟨s', T, d.l⟩ :=
 ⟨hs, h.map, h.ap, h.pos, h.nd, fun x hx => by
  obtain ⟨p, h1, h2⟩ := h.ls x hx
  exact ⟨p, (ho x).trans h1, (hl p).trans h2⟩⟩
theorem of_setP (P : List Pg) (p : Int) (i : Nat) (x : Slt) (g : Int) : ofP (setP P p i x) g = ofP P g := by
 unfold ofP setP
 induction P with
 | nil => rfl
 | cons q P ih =>
  rw [List.map_cons, List.filter_cons, List.filter_cons]
  by_cases hq : q.f = p
  ·simp only [if_pos hq]
   split
   ·rw [List.map_cons, List.map_cons, ih]
   exact ih
  simp only [if_neg hq]
  split
  ·rw [List.map_cons, List.map_cons, ih]
  exact ih
theorem clear_of (p i g : Int) : ofP (clearS n s p i).L g = ofP s.L g := by
 unfold clearS; split
 ·rw [setS_L, of_setP]
 rfl
theorem clear_lev (p i f : Int) : levP (clearS n s p i).L f = levP s.L f := by
 unfold clearS; split
 ·rw [setS_L, lev_setP]
 rfl
theorem GdOk.zap (h : GdOk n a m L d) (p i : Int) : GdOk n a m L (zapG n d p i) := by
 unfold zapG
 split
 ·exact h.setS (h.sr.clear p i) (fun g => clear_of p i g) (fun f => clear_lev p i f) []
 exact h
theorem loosen_has {g : Int} (hb : loosenB d g = true) : g ∉ d.l ∧ ∃ p, ofP d.s.L g = [p] ∧ levP d.s.L p = 1 ∧ ∃ q, toldP 1 p d.s.L = [q] ∧ (toldP 1 q.1 d.s.L).length = 1 := by
 unfold loosenB looseB at hb
 simp only [Bool.and_eq_true, Bool.not_eq_true'] at hb
 refine ⟨by have := hb.1; rw [Bool.eq_false_iff, Ne, List.contains_iff_mem] at this; exact this, ?_⟩
 have h2 := hb.2
 split at h2
 ·rename_i p e
  rw [Bool.and_eq_true, decide_eq_true_eq] at h2
  obtain ⟨h2, h3⟩ := h2
  split at h3
  ·rename_i q e2
   rw [decide_eq_true_eq] at h3
   exact ⟨p, e, h2, q, e2, h3⟩
  simp at h3
 simp at h2
theorem GdOk.loosen (h : GdOk n a m L d) (g : Int) : GdOk n a m L (loosenG d g) := by
 unfold loosenG
 split
 ·rename_i hb
  obtain ⟨h1, p, h2, h3, _⟩ := loosen_has hb
  refine ⟨h.sr, h.map, h.ap, h.pos, ?_, fun x hx => ?_⟩
  ·rw [List.nodup_append]; refine ⟨h.nd, by simp, ?_⟩
   intro x hx y hy e
   simp at hy; subst hy; subst e; exact h1 hx
  rcases List.mem_append.1 hx with hx | hx
  ·exact h.ls x hx
  simp at hx; subst hx; exact ⟨p, h2, h3⟩
 exact h
theorem of_app (P Q : List Pg) (g : Int) : ofP (P ++ Q) g = ofP P g ++ ofP Q g := by
 unfold ofP; rw [List.filter_append, List.map_append]
theorem make_of {k : Ky} (hb : makeB s k = true) (g : Int) : ofP (makeS n s k).L g = ofP s.L g ++ if k.role = 0 ∧ k.g = g then [s.fr.getLastD 0] else [] := by
 unfold makeS; rw [if_pos hb]
 simp only [of_app]
 congr 1
 unfold ofP
 by_cases h : k.role = 0 ∧ k.g = g
 ·simp [h]
 simp [h]
theorem lev_app {P Q : List Pg} {p : Int} (h : (pgAt P p).isSome = true) : levP (P ++ Q) p = levP P p := by
 unfold levP
 cases e : pgAt P p with
 | none => rw [e] at h; simp at h
 | some q => rw [pgAt_app e]
theorem of_mem {P : List Pg} {g p : Int} : p ∈ ofP P g ↔ ∃ q ∈ P, q.f = p ∧ q.k.role = 0 ∧ q.k.g = g := by
 unfold ofP
 rw [List.mem_map]
 constructor
 ·rintro ⟨q, hq, rfl⟩
  rw [List.mem_filter, decide_eq_true_eq] at hq
  exact ⟨q, hq.1, rfl, hq.2⟩
 rintro ⟨q, hq, rfl, h⟩
 exact ⟨q, List.mem_filter.2 ⟨hq, by rw [decide_eq_true_eq]; exact h⟩, rfl⟩
theorem of_some {P : List Pg} {g p : Int} (h : p ∈ ofP P g) : (pgAt P p).isSome = true := by
 obtain ⟨q, hq, rfl, _⟩ := of_mem.1 h
 cases e : pgAt P q.f with
 | none => exact absurd rfl (pgAt_none.1 e q hq)
 | some _ => rfl
theorem GdOk.made (h : GdOk n a m L d) {k : Ky} (hk : k.role = 0 → k.g ∉ d.l) : GdOk n a m L (makeD n L d k) := by
 unfold makeD
 split
 ·rename_i hb
  have h1 : GdOk n a m L ⟨makeS n d.s k, d.T, d.l⟩ := by
   refine ⟨h.sr.make k, h.map, h.ap, h.pos, h.nd, fun x hx => ?_⟩
   obtain ⟨p, h2, h3⟩ := h.ls x hx
   refine ⟨p, ?_, ?_⟩
   ·rw [make_of hb, h2, if_neg]
    ·rfl
    rintro ⟨h4, rfl⟩; exact hk h4 hx
   have := of_some (P := d.s.L) (g := x) (p := p) (by rw [h2]; simp)
   unfold makeS; rw [if_pos hb]
   simp only
   rw [lev_app this]; exact h3
  split
  ·exact h1.forbid _
  exact h1
 exact h
theorem GdOk.pre (h : GdOk n a m L d) (k : Ky) : GdOk n a m L (preG n L d k) ∧ (k.role = 0 → k.g ∉ (preG n L d k).l) := by
 unfold preG
 split
 ·refine ⟨h.look _, fun _ => ?_⟩
  rw [look_loose]; simp
 rename_i hr; exact ⟨h, fun e => absurd e hr⟩
theorem of_drop {p : Int} (hb : dropB s p = true) (g : Int) : ofP (dropS s p).L g = (ofP s.L g).filter fun f => decide (f ≠ p) := by
 unfold dropS; rw [if_pos hb]
 simp only
 have e := of_upd s.L (wipeU (goneC s.L p)) g
 rw [← e]
 show ofP (List.filter _ (updP _ _)) g = _
 unfold ofP
 rw [List.filter_filter, List.filter_map, List.filter_filter]
 congr 1
 apply List.filter_congr
 intro q _
 rw [Bool.and_comm]; rfl
theorem lev_drop {p f : Int} (hb : dropB s p = true) (hf : f ≠ p) : levP (dropS s p).L f = levP s.L f := by
 unfold dropS; rw [if_pos hb]
 simp only
 unfold levP
 rw [pgAt_filter, if_neg hf]
 have := lev_upd s.L (wipeU (goneC s.L p)) f
 unfold levP at this
 exact this
theorem GdOk.drop (h : GdOk n a m L d) (p : Int) : GdOk n a m L (dropG d p) := by
 unfold dropG
 split
 ·rename_i q e
  have hb : dropB d.s p = true := by unfold dropB; rw [e]; rfl
  obtain ⟨hq, hf⟩ := pgAt_mem e
  refine ⟨h.sr.drop p, h.map, h.ap, h.pos, ?_, fun x hx => ?_⟩
  ·simp only; split
   ·exact h.nd.filter _
   exact h.nd
  simp only at hx ⊢
  have hx' : x ∈ d.l ∧ (q.k.role = 0 → x ≠ q.k.g) := by
   split at hx
   ·rw [List.mem_filter, decide_eq_true_eq] at hx; exact ⟨hx.1, fun _ => hx.2⟩
   rename_i hr; exact ⟨hx, fun e => absurd e hr⟩
  obtain ⟨p', h1, h2⟩ := h.ls x hx'.1
  have hne : p' ≠ p := by
   rintro rfl
   obtain ⟨q', hq', hf', hr', hg'⟩ := of_mem.1 (show p' ∈ ofP d.s.L x by rw [h1]; simp)
   have : q' = q := by have := h.sr.at_ hq'; rw [hf', e] at this; injection this with this; exact this.symm
   subst this
   exact hx'.2 hr' hg'.symm
  refine ⟨p', ?_, ?_⟩
  ·rw [of_drop hb, h1]; simp [hne]
  rw [lev_drop hb hne]; exact h2
 exact h
theorem prot_loose {g : Int} : protB d g = (decide (0 < (ofP d.s.L g).length) && !looseB d g) := by
 unfold protB
 congr 1
 cases ofP d.s.L g <;> simp
theorem reach_mem {P : List Pg} {root p i x : Int} : x ∈ reachP P root p i ↔ ∃ k : Nat, k < 512 ∧ x = k ∧ (0 ≤ i ∧ i < 8) ∧ passB P root p i k = true := by
 unfold reachP
 rw [List.mem_map]
 constructor
 ·rintro ⟨k, hk, rfl⟩
  rw [List.mem_filter, List.mem_range, Bool.and_eq_true, decide_eq_true_eq] at hk
  exact ⟨k, hk.1, rfl, hk.2.1, hk.2.2⟩
 rintro ⟨k, hk, rfl, h1, h2⟩
 exact ⟨k, by rw [List.mem_filter, List.mem_range, Bool.and_eq_true, decide_eq_true_eq]; exact ⟨hk, h1, h2⟩, rfl⟩
end
end Go.Proofs.YtgjfidjhbkaobaaGreat
