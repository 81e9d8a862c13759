/-
  Plain facts on how shadow pages are kept as tables say. No program is walked here.
-/
import Derived.Test.YtgjfidjhbkaobaaGS1
import Derived.Test.YtgjfidjhbkaobaaG7
import Derived.Test.YtgjfidjhbkaobaaG9a
namespace Go.Proofs.Ytgjfidjhbkaobaa
open Go.RowKit

/-- a guard: its store (with all words of the host), what the TLB knows, the loose frames -/
structure Gd where
  s : Sr
  T : List Ht
  l : List Int
theorem Gd.ext_ {a b : Gd} (h1 : a.s = b.s) (h2 : a.T = b.T) (h3 : a.l = b.l) : a = b := by
  cases a; cases b; simp at h1 h2 h3; simp [h1, h2, h3]
def looseB (d : Gd) (g : Int) : Bool := d.l.contains g
def protB (d : Gd) (g : Int) : Bool := !(ofP d.s.L g).isEmpty && !looseB d g
def tightG (d : Gd) (g : Int) : Gd := ⟨d.s, d.T, d.l.filter fun x => decide (x ≠ g)⟩
/-- the word's entry of a guest's frame -/
def entG (n : Nat) (L W : List Int) (g i : Int) : Ent := getE (getG n W L g i).toNat
def agreeB (x : Slt) (e : Ent) : Bool := e.p && (e.a && (!e.bad && (!e.s && (e.f == x.to_ && (e.u == x.r.u && (e.n != x.r.x && (!x.r.w || (e.w && e.d))))))))
def Rg.noW (r : Rg) : Rg := ⟨false, r.u, r.x⟩

section
variable (n : Nat) (L : List Int)
def zapG (d : Gd) (p i : Int) : Gd := if clearB d.s p i then ⟨clearS n d.s p i, [], d.l⟩ else d
def wordG (d : Gd) (g i : Int) : Gd := (ofP d.s.L g).foldl (fun d p => zapG n d p i) d
/-- leaves to g without W -/
def forbidU (s : Sr) (g : Int) : Up := fun f i => match slotP s.L f i with
  | some x => if x.kind = 2 ∧ x.to_ = g ∧ x.r.w = true then some (⟨2, g, x.r.noW⟩, wordS ⟨2, g, x.r.noW⟩ (atV L g)) else none
  | none => none
def writB (s : Sr) (g : Int) : Bool := s.L.any fun q => q.s.any fun x => decide (x.kind = 2 ∧ x.to_ = g ∧ x.r.w = true)
def forbidG (d : Gd) (g : Int) : Gd := ⟨updS d.s (forbidU L d.s g), if writB d.s g then [] else d.T, d.l⟩
/-- leaves of a table's page that do not agree -/
def lookC (s : Sr) (g : Int) (f : Int) (i : Nat) : Bool := (ofP s.L g).contains f && (match slotP s.L f i with
  | some x => decide (x.kind = 2) && !agreeB x (entG n L s.W g i)
  | none => false)
def lookG (d : Gd) (g : Int) : Gd := if looseB d g then ⟨wipeS (forbidG L (tightG d g) g).s (lookC n L (forbidG L (tightG d g) g).s g), [], (tightG d g).l⟩ else d
def looksG (d : Gd) : Gd := d.l.foldl (lookG n L) d
def loosenB (d : Gd) (g : Int) : Bool := !looseB d g && (match ofP d.s.L g with
  | [p] => decide (levP d.s.L p = 1) && (match toldP 1 p d.s.L with
    | [q] => decide ((toldP 1 q.1 d.s.L).length = 1)
    | _ => false)
  | _ => false)
def loosenG (d : Gd) (g : Int) : Gd := if loosenB d g then ⟨d.s, d.T, d.l ++ [g]⟩ else d
/-- a Make, once the frame has been looked through -/
def makeD (d : Gd) (k : Ky) : Gd := if makeB d.s k then (if k.role = 0 then forbidG L ⟨makeS n d.s k, d.T, d.l⟩ k.g else ⟨makeS n d.s k, d.T, d.l⟩) else d
def preG (d : Gd) (k : Ky) : Gd := if k.role = 0 then lookG n L d k.g else d
def makeG (d : Gd) (k : Ky) : Gd := if (pgOf d.s.L k).isSome then d else makeD n L (preG n L d k) k
def makeGB (d : Gd) (k : Ky) : Bool := (pgOf d.s.L k).isSome || makeB (preG n L d k).s k
def makeGV (d : Gd) (k : Ky) : Int := match pgOf d.s.L k with
  | some q => q.f
  | none => makeV (preG n L d k).s k
def dropG (d : Gd) (p : Int) : Gd := match pgAt d.s.L p with
  | some q => ⟨dropS d.s p, [], if q.k.role = 0 then d.l.filter fun x => decide (x ≠ q.k.g) else d.l⟩
  | none => d
end
/-- the way of a page: the top's slot, its child's, and that one's -/
def passB (L : List Pg) (root p i : Int) (page : Nat) : Bool := match pgOf L ⟨root, 3, 0⟩ with
  | none => false
  | some t => decide (p = t.f ∧ ((page / 64 : Nat) : Int) = i) || (match slotP L t.f ((page / 64 : Nat) : Int) with
    | none => false
    | some x => decide (x.kind = 1) && (decide (p = x.to_ ∧ ((page / 8 % 8 : Nat) : Int) = i) || (match slotP L x.to_ ((page / 8 % 8 : Nat) : Int) with
      | none => false
      | some y => decide (y.kind = 1) && decide (p = y.to_ ∧ ((page % 8 : Nat) : Int) = i))))
def reachP (L : List Pg) (root p i : Int) : List Int := ((List.range 512).filter fun k => decide (0 ≤ i ∧ i < 8) && passB L root p i k).map fun k : Nat => (k : Int)

/-- a guard is as it must be -/
structure GdOk (n a m : Nat) (L : List Int) (d : Gd) : Prop where
  sr : SrOk n a m d.s
  map : InH n L
  ap : ∀ h ∈ L, ¬ ((a : Int) ≤ h ∧ h < a + m)
  pos : 0 < n
  nd : d.l.Nodup
  ls : ∀ g ∈ d.l, ∃ p, ofP d.s.L g = [p] ∧ levP d.s.L p = 1

/-- only words of pages have turned -/
def Still (a m : Nat) (W W' : List Int) : Prop := W'.length = W.length ∧ ∀ j : Nat, ¬ (a ≤ j / 8 ∧ j / 8 < a + m) → W'.getD j 0 = W.getD j 0
theorem Still.refl (a m : Nat) (W : List Int) : Still a m W W := ⟨rfl, fun _ _ => rfl⟩
theorem Still.trans {a m : Nat} {W W' W'' : List Int} (h : Still a m W W') (k : Still a m W' W'') : Still a m W W'' := ⟨k.1.trans h.1, fun j hj => (k.2 j hj).trans (h.2 j hj)⟩

section
variable {n a m : Nat} {L : List Int} {d : Gd} {s : Sr}
theorem Still.upd (h : SrOk n a m s) (u : Up) : Still a m s.W (updS s u).W := by
  refine ⟨by rw [updS_W]; unfold updW; rw [List.length_mapIdx], fun j hj => ?_⟩
  rw [updS_W, List.getD_eq_getElem?_getD, List.getD_eq_getElem?_getD]
  unfold updW
  rw [List.getElem?_mapIdx]
  have : pgAt s.L ((j / 8 : Nat) : Int) = none := by
    cases e : pgAt s.L ((j / 8 : Nat) : Int) with
    | none => rfl
    | some q =>
      obtain ⟨hq, hf⟩ := pgAt_mem e
      have := h.inL hq
      exfalso; apply hj; omega
  rw [this]; cases s.W[j]? <;> rfl
theorem Still.make (h : SrOk n a m s) (k : Ky) : Still a m s.W (makeS n s k).W := by
  unfold makeS
  split
  · rename_i hb
    obtain ⟨_, _, hfr⟩ := makeB_has hb
    have hf := h.mem (s.fr.getLastD 0) (by rw [hfr]; simp)
    refine ⟨fillW_len _ _ _ _, fun j hj => ?_⟩
    have := h.le
    simp only
    rw [List.getD_eq_getElem?_getD, List.getD_eq_getElem?_getD, fill_at (by omega) h.len, if_neg (by omega)]
  · exact Still.refl _ _ _
theorem Still.drop (h : SrOk n a m s) (p : Int) : Still a m s.W (dropS s p).W := by
  unfold dropS
  split
  · exact Still.upd h _
  · exact Still.refl _ _ _
theorem Still.set (h : SrOk n a m s) {p i : Int} (x : Slt) (f : Int) (hb : hasS s p i = true) : Still a m s.W (setS n s p i x f).W := by
  rw [h.set_upd x f hb]; exact Still.upd h _
theorem Still.clear (h : SrOk n a m s) (p i : Int) : Still a m s.W (clearS n s p i).W := by
  unfold clearS
  split
  · rename_i hb
    unfold clearB at hb
    cases e : slotP s.L p i with
    | none => rw [e] at hb; simp at hb
    | some x => exact Still.set h _ _ (slot_hasS e)
  · exact Still.refl _ _ _
/-- the guest's words are as they were -/
theorem Still.get {W W' : List Int} (h : Still a m W W') (_hi : InH n L) (ha : ∀ h ∈ L, ¬ ((a : Int) ≤ h ∧ h < a + m)) (g i : Int) : getG n W' L g i = getG n W L g i := by
  unfold getG
  split
  · rename_i hg
    unfold atB at hg; rw [decide_eq_true_eq] at hg
    unfold getW
    split
    · rename_i hw
      refine h.2 _ ?_
      unfold hasW at hw; rw [decide_eq_true_eq] at hw
      have hm : atV L g ∈ L := by
        unfold atV; rw [if_pos (by unfold atB; rw [decide_eq_true_eq]; exact hg), List.getD_eq_getElem?_getD, List.getElem?_eq_getElem (show g.toNat < L.length by omega)]
        exact List.getElem_mem _
      have := ha _ hm
      omega
    · rfl
  · rfl
theorem Still.ent {W W' : List Int} (h : Still a m W W') (hi : InH n L) (ha : ∀ h ∈ L, ¬ ((a : Int) ≤ h ∧ h < a + m)) (g i : Int) : entG n L W' g i = entG n L W g i := by
  unfold entG; rw [h.get hi ha]
theorem Still.all {W W' : List Int} (h : Still a m W W') (hi : InH n L) (ha : ∀ h ∈ L, ¬ ((a : Int) ≤ h ∧ h < a + m)) : allG W' L = allG W L := by
  refine list_getD_ext (by rw [allG_len, allG_len]) fun k hk => ?_
  rw [allG_len] at hk
  rw [allG_get _ hk, allG_get _ hk]
  refine h.2 _ ?_
  have e := posG_div hi hk
  have hm : L.getD (k / 8) 0 ∈ L := by
    rw [List.getD_eq_getElem?_getD, List.getElem?_eq_getElem (show k / 8 < L.length by omega)]; exact List.getElem_mem _
  have := ha _ hm
  rw [← e] at this
  omega

/-! ### a frame is forbidden -/
theorem writB_iff (h : SrOk n a m s) {g : Int} : writB s g = true ↔ ∃ f i x, slotP s.L f i = some x ∧ x.kind = 2 ∧ x.to_ = g ∧ x.r.w = true := by
  unfold writB
  rw [List.any_eq_true]
  constructor
  · rintro ⟨q, hq, hx⟩
    rw [List.any_eq_true] at hx
    obtain ⟨x, hx, hd⟩ := hx
    rw [decide_eq_true_eq] at hd
    obtain ⟨i, hi, rfl⟩ := List.getElem_of_mem hx
    have h8 := h.eight q hq
    obtain ⟨y, h1, h2⟩ := h.slot hq (i := i) (by omega)
    rw [List.getElem?_eq_getElem hi] at h1
    injection h1 with h1; subst h1
    exact ⟨_, _, _, h2, hd⟩
  · rintro ⟨f, i, x, hx, hd⟩
    obtain ⟨q, e, _, _, h3⟩ := slotP_has hx
    refine ⟨q, (pgAt_mem e).1, ?_⟩
    rw [List.any_eq_true]
    exact ⟨x, List.mem_of_getElem? h3, by rw [decide_eq_true_eq]; exact hd⟩
theorem forbidU_some {g : Int} {f : Int} {i : Nat} {y : Slt × Int} (h : forbidU L s g f i = some y) : ∃ x, slotP s.L f i = some x ∧ x.kind = 2 ∧ x.to_ = g ∧ x.r.w = true ∧ y.1 = ⟨2, g, x.r.noW⟩ ∧ y.2 = wordS ⟨2, g, x.r.noW⟩ (atV L g) := by
  unfold forbidU at h
  split at h
  · rename_i x e
    split at h
    · rename_i hc
      injection h with h; subst h
      exact ⟨x, e, hc.1, hc.2.1, hc.2.2, rfl, rfl⟩
    · simp at h
  · simp at h
theorem atV_rng (hi : InH n L) (hp : 0 < n) (g : Int) : 0 ≤ atV L g ∧ atV L g < n := by
  unfold atV
  split
  · rename_i hg
    unfold atB at hg; rw [decide_eq_true_eq] at hg
    rw [List.getD_eq_getElem?_getD, List.getElem?_eq_getElem (show g.toNat < L.length by omega)]
    exact hi _ (List.getElem_mem _)
  · omega
theorem SrOk.forbid (h : SrOk n a m s) (hi : InH n L) (hp : 0 < n) (g : Int) : SrOk n a m (updS s (forbidU L s g)) := by
  refine h.upd _ fun q hq i hi8 y v e => ?_
  obtain ⟨x, hx, h1, h2, h3, h4, h5⟩ := forbidU_some e
  simp only at h4 h5
  obtain ⟨x', h6, h7⟩ := h.slot hq hi8
  rw [hx] at h7; injection h7 with h7; subst h7
  have hr := atV_rng hi hp g
  have := h.n256
  refine ⟨?_, atV L g, hr.1, by omega, fun e => by rw [h4] at e; simp at e, by rw [h5, h4]⟩
  rcases h.kinds q hq x (List.mem_of_getElem? h6) with h | ⟨h, _⟩ | ⟨_, h⟩
  · omega
  · omega
  · exact .inr (.inr ⟨by rw [h4], h⟩)
theorem slot_forbid (g f i : Int) : slotP (updS s (forbidU L s g)).L f i = (slotP s.L f i).map fun x => if x.kind = 2 ∧ x.to_ = g ∧ x.r.w = true then ⟨2, g, x.r.noW⟩ else x := by
  rw [updS_L, slot_upd]
  cases e : slotP s.L f i with
  | none => rfl
  | some x =>
    obtain ⟨_, _, h0, _, _⟩ := slotP_has e
    have e2 : ((i.toNat : Nat) : Int) = i := by omega
    rw [Option.map_some, Option.map_some]
    unfold forbidU
    rw [e2, e]
    simp only
    split <;> rfl
theorem GdOk.forbid (h : GdOk n a m L d) (g : Int) : GdOk n a m L (forbidG L d g) := by
  refine ⟨h.sr.forbid h.map h.pos g, h.map, h.ap, h.pos, h.nd, fun x hx => ?_⟩
  obtain ⟨p, h1, h2⟩ := h.ls x hx
  refine ⟨p, ?_, ?_⟩
  · show ofP (updS d.s _).L x = _; rw [updS_L, of_upd]; exact h1
  · show levP (updS d.s _).L p = _; rw [updS_L, lev_upd]; exact h2
theorem forbid_not (h : SrOk n a m s) (hi : InH n L) (hp : 0 < n) (g : Int) : writB (updS s (forbidU L s g)) g = false := by
  rw [Bool.eq_false_iff, Ne, writB_iff (h.forbid hi hp g)]
  rintro ⟨f, i, x, hx, h1, h2, h3⟩
  rw [slot_forbid] at hx
  cases e : slotP s.L f i with
  | none => rw [e] at hx; simp at hx
  | some y =>
    rw [e, Option.map_some] at hx
    injection hx with hx
    split at hx
    · subst hx; simp [Rg.noW] at h3
    · rename_i hc; subst hx; exact hc ⟨h1, h2, h3⟩
theorem GdOk.tight (h : GdOk n a m L d) (g : Int) : GdOk n a m L (tightG d g) :=
  ⟨h.sr, h.map, h.ap, h.pos, h.nd.filter _, fun x hx => h.ls x (List.mem_filter.1 hx).1⟩
theorem GdOk.wipe (h : GdOk n a m L d) (c : Int → Nat → Bool) (T : List Ht) : GdOk n a m L ⟨wipeS d.s c, T, d.l⟩ := by
  refine ⟨h.sr.wipe c, h.map, h.ap, h.pos, h.nd, fun x hx => ?_⟩
  obtain ⟨p, h1, h2⟩ := h.ls x hx
  refine ⟨p, ?_, ?_⟩
  · show ofP (wipeS d.s c).L x = _; unfold wipeS; rw [updS_L, of_upd]; exact h1
  · show levP (wipeS d.s c).L p = _; unfold wipeS; rw [updS_L, lev_upd]; exact h2
theorem GdOk.tlb (h : GdOk n a m L d) (T : List Ht) : GdOk n a m L ⟨d.s, T, d.l⟩ := ⟨h.sr, h.map, h.ap, h.pos, h.nd, h.ls⟩
theorem GdOk.look (h : GdOk n a m L d) (g : Int) : GdOk n a m L (lookG n L d g) := by
  unfold lookG
  split
  · exact ((h.tight g).forbid g).wipe _ []
  · exact h
theorem look_loose (g : Int) : (lookG n L d g).l = d.l.filter fun x => decide (x ≠ g) := by
  unfold lookG
  split
  · rfl
  · rename_i hb
    unfold looseB at hb
    rw [eq_comm, List.filter_eq_self]
    intro x hx
    rw [decide_eq_true_eq]
    rintro rfl
    exact hb (by simpa using hx)
theorem look_of (g x : Int) : ofP (lookG n L d g).s.L x = ofP d.s.L x := by
  unfold lookG
  split
  · unfold wipeS forbidG tightG
    simp only [updS_L, of_upd]
  · rfl
theorem Still.look (h : GdOk n a m L d) (g : Int) : Still a m d.s.W (lookG n L d g).s.W := by
  unfold lookG
  split
  · exact (Still.upd h.sr _).trans (Still.upd ((h.tight g).forbid g).sr _)
  · exact Still.refl _ _ _
theorem GdOk.setS (h : GdOk n a m L d) {s' : Sr} (hs : SrOk n a m s') (ho : ∀ g, ofP s'.L g = ofP d.s.L g) (hl : ∀ p, levP s'.L p = levP d.s.L p) (T : List Ht) : GdOk n a m L ⟨s', T, d.l⟩ :=
  ⟨hs, h.map, h.ap, h.pos, h.nd, fun x hx => by
    obtain ⟨p, h1, h2⟩ := h.ls x hx
    exact ⟨p, (ho x).trans h1, (hl p).trans h2⟩⟩
theorem of_setP (P : List Pg) (p : Int) (i : Nat) (x : Slt) (g : Int) : ofP (setP P p i x) g = ofP P g := by
  unfold ofP setP
  induction P with
  | nil => rfl
  | cons q P ih =>
    rw [List.map_cons, List.filter_cons, List.filter_cons]
    by_cases hq : q.f = p
    · simp only [if_pos hq]
      split
      · rw [List.map_cons, List.map_cons, ih]
      · exact ih
    · simp only [if_neg hq]
      split
      · rw [List.map_cons, List.map_cons, ih]
      · exact ih
theorem clear_of (p i g : Int) : ofP (clearS n s p i).L g = ofP s.L g := by
  unfold clearS; split
  · rw [setS_L, of_setP]
  · rfl
theorem clear_lev (p i f : Int) : levP (clearS n s p i).L f = levP s.L f := by
  unfold clearS; split
  · rw [setS_L, lev_setP]
  · rfl
theorem GdOk.zap (h : GdOk n a m L d) (p i : Int) : GdOk n a m L (zapG n d p i) := by
  unfold zapG
  split
  · exact h.setS (h.sr.clear p i) (fun g => clear_of p i g) (fun f => clear_lev p i f) []
  · exact h
theorem GdOk.zaps (l : List Int) {d : Gd} (h : GdOk n a m L d) (i : Int) : GdOk n a m L (l.foldl (fun d p => zapG n d p i) d) := by
  induction l generalizing d with
  | nil => exact h
  | cons p l ih => exact ih (h.zap p i)
theorem GdOk.word (h : GdOk n a m L d) (g i : Int) : GdOk n a m L (wordG n d g i) := h.zaps _ i
theorem GdOk.looks (l : List Int) {d : Gd} (h : GdOk n a m L d) : GdOk n a m L (l.foldl (lookG n L) d) := by
  induction l generalizing d with
  | nil => exact h
  | cons p l ih => exact ih (h.look p)
theorem looks_l (l : List Int) {d : Gd} : (l.foldl (lookG n L) d).l = d.l.filter fun x => decide (x ∉ l) := by
  induction l generalizing d with
  | nil => exact (List.filter_eq_self.2 (by simp)).symm
  | cons p l ih =>
    rw [List.foldl_cons, ih, look_loose, List.filter_filter]
    apply List.filter_congr
    intro x _
    by_cases h1 : x = p <;> by_cases h2 : x ∈ l <;> simp [h1, h2]
theorem all_none : (looksG n L d).l = [] := by
  unfold looksG; rw [looks_l, List.filter_eq_nil_iff]
  intro x hx; simpa using hx
theorem loosen_has {g : Int} (hb : loosenB d g = true) : g ∉ d.l ∧ ∃ p, ofP d.s.L g = [p] ∧ levP d.s.L p = 1 ∧ ∃ q, toldP 1 p d.s.L = [q] ∧ (toldP 1 q.1 d.s.L).length = 1 := by
  unfold loosenB looseB at hb
  simp only [Bool.and_eq_true, Bool.not_eq_true'] at hb
  refine ⟨by have := hb.1; rw [Bool.eq_false_iff, Ne, List.contains_iff_mem] at this; exact this, ?_⟩
  have h2 := hb.2
  split at h2
  · rename_i p e
    rw [Bool.and_eq_true, decide_eq_true_eq] at h2
    obtain ⟨h2, h3⟩ := h2
    split at h3
    · rename_i q e2
      rw [decide_eq_true_eq] at h3
      exact ⟨p, e, h2, q, e2, h3⟩
    · simp at h3
  · simp at h2
theorem GdOk.loosen (h : GdOk n a m L d) (g : Int) : GdOk n a m L (loosenG d g) := by
  unfold loosenG
  split
  · rename_i hb
    obtain ⟨h1, p, h2, h3, _⟩ := loosen_has hb
    refine ⟨h.sr, h.map, h.ap, h.pos, ?_, fun x hx => ?_⟩
    · rw [List.nodup_append]; refine ⟨h.nd, by simp, ?_⟩
      intro x hx y hy e
      simp at hy; subst hy; subst e; exact h1 hx
    · rcases List.mem_append.1 hx with hx | hx
      · exact h.ls x hx
      · simp at hx; subst hx; exact ⟨p, h2, h3⟩
  · exact h
theorem of_app (P Q : List Pg) (g : Int) : ofP (P ++ Q) g = ofP P g ++ ofP Q g := by
  unfold ofP; rw [List.filter_append, List.map_append]
/-- a page is made: tables of other frames keep theirs -/
theorem make_of {k : Ky} (hb : makeB s k = true) (g : Int) : ofP (makeS n s k).L g = ofP s.L g ++ if k.role = 0 ∧ k.g = g then [s.fr.getLastD 0] else [] := by
  unfold makeS; rw [if_pos hb]
  simp only [of_app]
  congr 1
  unfold ofP
  by_cases h : k.role = 0 ∧ k.g = g
  · simp [h]
  · simp [h]
theorem lev_app {P Q : List Pg} {p : Int} (h : (pgAt P p).isSome = true) : levP (P ++ Q) p = levP P p := by
  unfold levP
  cases e : pgAt P p with
  | none => rw [e] at h; simp at h
  | some q => rw [pgAt_app e]
theorem of_mem {P : List Pg} {g p : Int} : p ∈ ofP P g ↔ ∃ q ∈ P, q.f = p ∧ q.k.role = 0 ∧ q.k.g = g := by
  unfold ofP
  rw [List.mem_map]
  constructor
  · rintro ⟨q, hq, rfl⟩
    rw [List.mem_filter, decide_eq_true_eq] at hq
    exact ⟨q, hq.1, rfl, hq.2⟩
  · rintro ⟨q, hq, rfl, h⟩
    exact ⟨q, List.mem_filter.2 ⟨hq, by rw [decide_eq_true_eq]; exact h⟩, rfl⟩
theorem of_some {P : List Pg} {g p : Int} (h : p ∈ ofP P g) : (pgAt P p).isSome = true := by
  obtain ⟨q, hq, rfl, _⟩ := of_mem.1 h
  cases e : pgAt P q.f with
  | none => exact absurd rfl (pgAt_none.1 e q hq)
  | some _ => rfl
theorem GdOk.made (h : GdOk n a m L d) {k : Ky} (hk : k.role = 0 → k.g ∉ d.l) : GdOk n a m L (makeD n L d k) := by
  unfold makeD
  split
  · rename_i hb
    have h1 : GdOk n a m L ⟨makeS n d.s k, d.T, d.l⟩ := by
      refine ⟨h.sr.make k, h.map, h.ap, h.pos, h.nd, fun x hx => ?_⟩
      obtain ⟨p, h2, h3⟩ := h.ls x hx
      refine ⟨p, ?_, ?_⟩
      · rw [make_of hb, h2, if_neg]
        · rfl
        · rintro ⟨h4, rfl⟩; exact hk h4 hx
      · have := of_some (P := d.s.L) (g := x) (p := p) (by rw [h2]; simp)
        unfold makeS; rw [if_pos hb]
        simp only
        rw [lev_app this]; exact h3
    split
    · exact h1.forbid _
    · exact h1
  · exact h
theorem GdOk.pre (h : GdOk n a m L d) (k : Ky) : GdOk n a m L (preG n L d k) ∧ (k.role = 0 → k.g ∉ (preG n L d k).l) := by
  unfold preG
  split
  · refine ⟨h.look _, fun _ => ?_⟩
    rw [look_loose]; simp
  · rename_i hr; exact ⟨h, fun e => absurd e hr⟩
theorem GdOk.make (h : GdOk n a m L d) (k : Ky) : GdOk n a m L (makeG n L d k) := by
  unfold makeG
  split
  · exact h
  · exact (h.pre k).1.made (h.pre k).2
theorem of_drop {p : Int} (hb : dropB s p = true) (g : Int) : ofP (dropS s p).L g = (ofP s.L g).filter fun f => decide (f ≠ p) := by
  unfold dropS; rw [if_pos hb]
  simp only
  have e := of_upd s.L (wipeU (goneC s.L p)) g
  rw [← e]
  show ofP (List.filter _ (updP _ _)) g = _
  unfold ofP
  rw [List.filter_filter, List.filter_map, List.filter_filter]
  congr 1
  apply List.filter_congr
  intro q _
  rw [Bool.and_comm]; rfl
theorem lev_drop {p f : Int} (hb : dropB s p = true) (hf : f ≠ p) : levP (dropS s p).L f = levP s.L f := by
  unfold dropS; rw [if_pos hb]
  simp only
  unfold levP
  rw [pgAt_filter, if_neg hf]
  have := lev_upd s.L (wipeU (goneC s.L p)) f
  unfold levP at this
  exact this
theorem GdOk.drop (h : GdOk n a m L d) (p : Int) : GdOk n a m L (dropG d p) := by
  unfold dropG
  split
  · rename_i q e
    have hb : dropB d.s p = true := by unfold dropB; rw [e]; rfl
    obtain ⟨hq, hf⟩ := pgAt_mem e
    refine ⟨h.sr.drop p, h.map, h.ap, h.pos, ?_, fun x hx => ?_⟩
    · simp only; split
      · exact h.nd.filter _
      · exact h.nd
    · simp only at hx ⊢
      have hx' : x ∈ d.l ∧ (q.k.role = 0 → x ≠ q.k.g) := by
        split at hx
        · rw [List.mem_filter, decide_eq_true_eq] at hx; exact ⟨hx.1, fun _ => hx.2⟩
        · rename_i hr; exact ⟨hx, fun e => absurd e hr⟩
      obtain ⟨p', h1, h2⟩ := h.ls x hx'.1
      have hne : p' ≠ p := by
        rintro rfl
        obtain ⟨q', hq', hf', hr', hg'⟩ := of_mem.1 (show p' ∈ ofP d.s.L x by rw [h1]; simp)
        have : q' = q := by have := h.sr.at_ hq'; rw [hf', e] at this; injection this with this; exact this.symm
        subst this
        exact hx'.2 hr' hg'.symm
      refine ⟨p', ?_, ?_⟩
      · rw [of_drop hb, h1]; simp [hne]
      · rw [lev_drop hb hne]; exact h2
  · exact h
/-! ### the guest's memory stays as it is -/
theorem Still.zap (h : GdOk n a m L d) (p i : Int) : Still a m d.s.W (zapG n d p i).s.W := by
  unfold zapG; split
  · exact Still.clear h.sr p i
  · exact Still.refl _ _ _
theorem Still.zaps (l : List Int) {d : Gd} (h : GdOk n a m L d) (i : Int) : Still a m d.s.W (l.foldl (fun d p => zapG n d p i) d).s.W := by
  induction l generalizing d with
  | nil => exact Still.refl _ _ _
  | cons p l ih => exact (Still.zap h p i).trans (ih (h.zap p i))
theorem Still.looks (l : List Int) {d : Gd} (h : GdOk n a m L d) : Still a m d.s.W (l.foldl (lookG n L) d).s.W := by
  induction l generalizing d with
  | nil => exact Still.refl _ _ _
  | cons p l ih => exact (Still.look h p).trans (ih (h.look p))
theorem Still.made (h : GdOk n a m L d) (k : Ky) : Still a m d.s.W (makeD n L d k).s.W := by
  unfold makeD
  split
  · split
    · exact (Still.make h.sr k).trans (Still.upd (h.sr.make k) _)
    · exact Still.make h.sr k
  · exact Still.refl _ _ _
theorem Still.makes (h : GdOk n a m L d) (k : Ky) : Still a m d.s.W (makeG n L d k).s.W := by
  unfold makeG
  split
  · exact Still.refl _ _ _
  · refine Still.trans (W' := (preG n L d k).s.W) ?_ (Still.made (h.pre k).1 k)
    unfold preG; split
    · exact Still.look h _
    · exact Still.refl _ _ _
theorem Still.dropG (h : GdOk n a m L d) (p : Int) : Still a m d.s.W (dropG d p).s.W := by
  unfold Go.Proofs.Ytgjfidjhbkaobaa.dropG; split
  · exact Still.drop h.sr p
  · exact Still.refl _ _ _

/-! ### what the laws ask -/
theorem writ_make (k : Ky) (g : Int) : writB (makeS n s k) g = writB s g := by
  unfold makeS
  split
  · unfold writB
    rw [List.any_append]
    simp [Slt.no, List.replicate]
  · rfl
theorem slot_look (h : GdOk n a m L d) {g : Int} (hl : looseB d g = true) (f i : Int) : slotP (lookG n L d g).s.L f i = (slotP d.s.L f i).map fun x =>
    let y := if x.kind = 2 ∧ x.to_ = g then ⟨2, g, x.r.noW⟩ else x
    if f ∈ ofP d.s.L g ∧ y.kind = 2 ∧ agreeB y (entG n L d.s.W g i) = false then Slt.no else y := by
  unfold lookG
  rw [if_pos hl]
  simp only
  rw [slot_wipe]
  unfold forbidG
  simp only
  rw [slot_forbid]
  show Option.map _ (Option.map _ (slotP d.s.L f i)) = _
  cases e : slotP d.s.L f i with
  | none => rfl
  | some x =>
    obtain ⟨_, _, h0, _, _⟩ := slotP_has e
    have e2 : ((i.toNat : Nat) : Int) = i := by omega
    simp only [Option.map_some]
    congr 1
    have hy : (if x.kind = 2 ∧ x.to_ = g ∧ x.r.w = true then (⟨2, g, x.r.noW⟩ : Slt) else x) = if x.kind = 2 ∧ x.to_ = g then ⟨2, g, x.r.noW⟩ else x := by
      by_cases h1 : x.kind = 2 ∧ x.to_ = g
      · by_cases h2 : x.r.w = true
        · rw [if_pos ⟨h1.1, h1.2, h2⟩, if_pos h1]
        · rw [if_neg (fun h => h2 h.2.2), if_pos h1]
          rw [Slt.ext_]
          refine ⟨h1.1, h1.2, ?_⟩
          simp at h2
          unfold Rg.noW; exact Rg.ext_ h2 rfl rfl
      · rw [if_neg (fun h => h1 ⟨h.1, h.2.1⟩), if_neg h1]
    rw [hy]
    generalize (if x.kind = 2 ∧ x.to_ = g then (⟨2, g, x.r.noW⟩ : Slt) else x) = y at hy ⊢
    have hs : slotP (updS (tightG d g).s (forbidU L (tightG d g).s g)).L f i = some y := by
      rw [slot_forbid]; show Option.map _ (slotP d.s.L f i) = _; rw [e, Option.map_some, hy]
    have hent : entG n L (updS (tightG d g).s (forbidU L (tightG d g).s g)).W g i = entG n L d.s.W g i := (Still.upd h.sr (forbidU L (tightG d g).s g)).ent h.map h.ap g i
    have hc : lookC n L (updS (tightG d g).s (forbidU L (tightG d g).s g)) g f i.toNat = decide (f ∈ ofP d.s.L g ∧ y.kind = 2 ∧ agreeB y (entG n L d.s.W g i) = false) := by
      unfold lookC
      rw [e2, hs, hent, updS_L, of_upd]
      show ((ofP d.s.L g).contains f && _) = _
      rw [Bool.eq_iff_iff]; simp
    rw [hc]
    simp only [decide_eq_true_eq]
theorem look_not (h : GdOk n a m L d) {g : Int} (hl : looseB d g = true) : writB (lookG n L d g).s g = false ∧ (lookG n L d g).T = [] ∧ looseB (lookG n L d g) g = false := by
  refine ⟨?_, by unfold lookG; rw [if_pos hl], by unfold looseB; rw [look_loose]; simp⟩
  rw [Bool.eq_false_iff, Ne, writB_iff (h.look g).sr]
  rintro ⟨f, i, x, hx, h1, h2, h3⟩
  rw [slot_look h hl] at hx
  cases e : slotP d.s.L f i with
  | none => rw [e] at hx; simp at hx
  | some y =>
    rw [e, Option.map_some] at hx
    injection hx with hx
    simp only at hx
    generalize hz : (if y.kind = 2 ∧ y.to_ = g then (⟨2, g, y.r.noW⟩ : Slt) else y) = z at hx
    split at hx
    · subst hx; simp [Slt.no] at h1
    · subst hx
      split at hz
      · subst hz; simp [Rg.noW] at h3
      · rename_i hc; subst hz; exact hc ⟨h1, h2⟩
theorem make_forbids (h : GdOk n a m L d) {k : Ky} (hn : pgOf d.s.L k = none) (hm : makeGB n L d k = true) (hr : k.role = 0) : writB (makeG n L d k).s k.g = false ∧ ((writB d.s k.g = true ∨ looseB d k.g = true) → (makeG n L d k).T = []) := by
  unfold makeGB at hm
  rw [hn] at hm
  simp only [Option.isSome_none, Bool.false_or] at hm
  have e : makeG n L d k = forbidG L ⟨makeS n (preG n L d k).s k, (preG n L d k).T, (preG n L d k).l⟩ k.g := by
    unfold makeG; rw [hn]
    simp only [Option.isSome_none, Bool.false_eq_true, if_false]
    unfold makeD; rw [if_pos hm, if_pos hr]
  have hp := (h.pre k).1
  rw [e]
  refine ⟨forbid_not (hp.sr.make k) h.map h.pos _, fun hw => ?_⟩
  unfold forbidG
  simp only
  rw [writ_make]
  split
  · rfl
  · rename_i hno
    have ep : preG n L d k = lookG n L d k.g := by unfold preG; rw [if_pos hr]
    rw [ep] at hno ⊢
    by_cases hl : looseB d k.g = true
    · exact (look_not h hl).2.1
    · rcases hw with hw | hw
      · exfalso; apply hno
        have : lookG n L d k.g = d := by unfold lookG; rw [if_neg hl]
        rw [this]; exact hw
      · exact absurd hw hl
theorem loosen_loose (d : Gd) (g x : Int) : looseB (loosenG d g) x = (looseB d x || (loosenB d g && x == g)) := by
  unfold loosenG
  cases hb : loosenB d g with
  | false => simp
  | true =>
    simp only [if_true, Bool.true_and]
    unfold looseB
    rw [Bool.eq_iff_iff]; simp
theorem prot_loose {g : Int} : protB d g = (decide (0 < (ofP d.s.L g).length) && !looseB d g) := by
  unfold protB
  congr 1
  cases ofP d.s.L g <;> simp
/-- one way of a page -/
theorem reach_mem {P : List Pg} {root p i x : Int} : x ∈ reachP P root p i ↔ ∃ k : Nat, k < 512 ∧ x = k ∧ (0 ≤ i ∧ i < 8) ∧ passB P root p i k = true := by
  unfold reachP
  rw [List.mem_map]
  constructor
  · rintro ⟨k, hk, rfl⟩
    rw [List.mem_filter, List.mem_range, Bool.and_eq_true, decide_eq_true_eq] at hk
    exact ⟨k, hk.1, rfl, hk.2.1, hk.2.2⟩
  · rintro ⟨k, hk, rfl, h1, h2⟩
    exact ⟨k, by rw [List.mem_filter, List.mem_range, Bool.and_eq_true, decide_eq_true_eq]; exact ⟨hk, h1, h2⟩, rfl⟩
theorem reach_up (P : List Pg) (root p i : Int) : (reachP P root p i).Pairwise (· < ·) := by
  unfold reachP
  rw [List.pairwise_map]
  exact (List.Pairwise.filter _ List.pairwise_lt_range).imp fun h => by omega
/-! words -/
theorem zap_slot (h : SrOk n a m d.s) (p i : Int) (hi : 0 ≤ i ∧ i ≤ 7) (f j : Int) : slotP (zapG n d p i).s.L f j = (slotP d.s.L f j).map fun x => if f = p ∧ j = i then Slt.no else x := by
  have e : (zapG n d p i).s = clearS n d.s p i := by
    unfold zapG; split
    · rfl
    · rename_i hb; unfold clearS; rw [if_neg hb]
  rw [e, h.clear_wipe p i hi, slot_wipe]
  cases e2 : slotP d.s.L f j with
  | none => rfl
  | some x =>
    obtain ⟨_, _, h0, _, _⟩ := slotP_has e2
    rw [Option.map_some, Option.map_some]
    have : decide (f = p ∧ j.toNat = i.toNat) = decide (f = p ∧ j = i) := by
      apply decide_eq_decide.2
      constructor
      · rintro ⟨h1, h2⟩; exact ⟨h1, by omega⟩
      · rintro ⟨h1, h2⟩; exact ⟨h1, by omega⟩
    simp only [this, decide_eq_true_eq]
theorem zap_T (p i : Int) : (zapG n d p i).T = if clearB d.s p i then [] else d.T := by
  unfold zapG; split <;> rfl
theorem zap_clear {p i : Int} : clearB d.s p i = match slotP d.s.L p i with
    | some x => decide (x.kind ≠ 0)
    | none => false := rfl
theorem zap_of (p i g : Int) : ofP (zapG n d p i).s.L g = ofP d.s.L g := by
  unfold zapG; split
  · exact clear_of p i g
  · rfl
theorem zaps_slot (i : Int) (hi : 0 ≤ i ∧ i ≤ 7) (f j : Int) : ∀ (l : List Int) {d : Gd}, GdOk n a m L d → slotP (l.foldl (fun d p => zapG n d p i) d).s.L f j = (slotP d.s.L f j).map fun x => if f ∈ l ∧ j = i then Slt.no else x
  | [], d, _ => by
    show slotP d.s.L f j = _
    cases slotP d.s.L f j <;> simp
  | p :: l, d, h => by
    rw [List.foldl_cons, zaps_slot i hi f j l (h.zap p i), zap_slot h.sr p i hi]
    cases slotP d.s.L f j with
    | none => rfl
    | some x =>
      simp only [Option.map_some]
      congr 1
      by_cases h1 : f = p <;> by_cases h2 : j = i <;> by_cases h3 : f ∈ l <;> simp [h1, h2, h3]
theorem word_slot (h : GdOk n a m L d) (g i : Int) (hi : 0 ≤ i ∧ i ≤ 7) (f j : Int) : slotP (wordG n d g i).s.L f j = (slotP d.s.L f j).map fun x => if f ∈ ofP d.s.L g ∧ j = i then Slt.no else x :=
  zaps_slot i hi f j _ h
theorem zaps_T (i : Int) (hi : 0 ≤ i ∧ i ≤ 7) : ∀ (l : List Int) {d : Gd}, GdOk n a m L d → (l.foldl (fun d p => zapG n d p i) d).T = if ∃ p ∈ l, clearB d.s p i = true then [] else d.T
  | [], d, _ => by simp
  | p :: l, d, h => by
    rw [List.foldl_cons, zaps_T i hi l (h.zap p i), zap_T]
    have hc : ∀ q, clearB (zapG n d p i).s q i = (clearB d.s q i && decide (q ≠ p)) := by
      intro q
      unfold clearB
      rw [zap_slot h.sr p i hi]
      cases slotP d.s.L q i with
      | none => rfl
      | some x => by_cases e : q = p <;> simp [e, Slt.no]
    simp only [hc]
    by_cases h1 : clearB d.s p i = true
    · rw [if_pos h1, if_pos (⟨p, by simp, h1⟩ : ∃ q ∈ p :: l, clearB d.s q i = true)]; split <;> rfl
    · rw [if_neg h1]
      have : (∃ q ∈ l, (clearB d.s q i && decide (q ≠ p)) = true) ↔ ∃ q ∈ p :: l, clearB d.s q i = true := by
        constructor
        · rintro ⟨q, hq, h2⟩; rw [Bool.and_eq_true] at h2; exact ⟨q, by simp [hq], h2.1⟩
        · rintro ⟨q, hq, h2⟩
          have hne : q ≠ p := fun e => h1 (e ▸ h2)
          rcases List.mem_cons.1 hq with rfl | hq
          · exact absurd rfl hne
          · exact ⟨q, hq, by rw [h2]; simp [hne]⟩
      simp only [this]
/-! drops -/
theorem drop_left {q : Pg} (h : GdOk n a m L d) (hq : q ∈ d.s.L) (hr : q.k.role = 0) : (ofP (dropG d q.f).s.L q.k.g).length + 1 = (ofP d.s.L q.k.g).length ∧ looseB (dropG d q.f) q.k.g = false := by
  have e := h.sr.at_ hq
  have hb : dropB d.s q.f = true := by unfold dropB; rw [e]; rfl
  have hs : (dropG d q.f).s = dropS d.s q.f := by unfold dropG; rw [e]
  have hl : (dropG d q.f).l = d.l.filter fun x => decide (x ≠ q.k.g) := by unfold dropG; rw [e]; simp [hr]
  constructor
  · rw [hs, of_drop hb]
    have hnd : (ofP d.s.L q.k.g).Nodup := by
      unfold ofP; exact (h.sr.ndL).sublist (List.Sublist.map _ List.filter_sublist)
    have hm : q.f ∈ ofP d.s.L q.k.g := of_mem.2 ⟨q, hq, rfl, hr, rfl⟩
    have : (ofP d.s.L q.k.g).filter (fun f => decide (f ≠ q.f)) = (ofP d.s.L q.k.g).erase q.f := by
      rw [hnd.erase_eq_filter]; apply List.filter_congr; intro x _; by_cases e : x = q.f <;> simp [e]
    rw [this, List.length_erase_of_mem hm]
    have := List.length_pos_of_mem hm
    omega
  · unfold looseB; rw [hl]; simp
theorem drop_many {q : Pg} (h : GdOk n a m L d) (hq : q ∈ d.s.L) : (dropG d q.f).s.L.length + 1 = d.s.L.length ∧ (dropG d q.f).T = [] ∧ pgAt (dropG d q.f).s.L q.f = none := by
  have e := h.sr.at_ hq
  have hb : dropB d.s q.f = true := by unfold dropB; rw [e]; rfl
  have hs : (dropG d q.f).s = dropS d.s q.f := by unfold dropG; rw [e]
  refine ⟨?_, by unfold dropG; rw [e], ?_⟩
  · rw [hs]
    have h1 := (h.sr.drop q.f).cnt
    have h2 := h.sr.cnt
    have h3 : (dropS d.s q.f).fr = d.s.fr ++ [q.f] := by unfold dropS; rw [if_pos hb]
    rw [h3] at h1
    simp at h1; omega
  · rw [hs]
    unfold dropS; rw [if_pos hb]
    simp only
    rw [pgAt_filter, if_pos rfl]
end

end Go.Proofs.Ytgjfidjhbkaobaa
