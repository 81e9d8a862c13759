/-
 FillR, FillO, FillN in one text.
-/
import Derived.Test.YtmbgepafpcbakaaGreatDoorGPlK
import Derived.Test.YtmbgepafpcbakaaGreatDoorG8bK
import Derived.Test.YtmbgepafpcbakaaGreatDoorGGaK
namespace Go.Proofs.YtmbgepafpcbakaaGreatDoor
open Go.RowKit
def setWd (d : Gd) (W : List Int) : Gd := ⟨⟨d.s.L, d.s.fr, W⟩, d.T, d.l⟩
section
variable {n a m : Nat} {L W : List Int} {d : Gd} {page r : Int}
theorem setG_page (ha : ∀ h ∈ L, ¬ ((a : Int) ≤ h ∧ h < a + m)) (g i v : Int) {f j : Nat} (hf : a ≤ f ∧ f < a + m) (hj : j < 8) : (setG n W L g i v)[f * 8 + j]? = W[f * 8 + j]? := by
 unfold setG
 split
 ·rename_i hB
  unfold atB at hB; rw [decide_eq_true_eq] at hB
  unfold setW
  split
  ·rename_i hW
   unfold hasW at hW; rw [decide_eq_true_eq] at hW
   have hm : atV L g ∈ L := by
    unfold atV; rw [if_pos (by unfold atB; rw [decide_eq_true_eq]; exact hB), List.getD_eq_getElem?_getD, List.getElem?_eq_getElem (show g.toNat < L.length by omega)]
    exact List.getElem_mem _
   have := ha _ hm
   rw [List.getElem?_set, if_neg (by omega)]
  rfl
 rfl
theorem FdOk.words (h : FdOk n a m L d) {W' : List Int} (hl : W'.length = d.s.W.length) (hw : ∀ f j : Nat, a ≤ f ∧ f < a + m → j < 8 → W'[f * 8 + j]? = d.s.W[f * 8 + j]?) : FdOk n a m L (setWd d W') := by
 have key : ∀ q ∈ d.s.L, ∀ (i : Nat) (x : Slt), q.s[i]? = some x → W'[q.f.toNat * 8 + i]? = d.s.W[q.f.toNat * 8 + i]? := by
  intro q hq i x hx
  have hq2 := h.gd.sr.inL hq
  have hi := (List.getElem?_eq_some_iff.1 hx).1
  rw [h.gd.sr.eight q hq] at hi
  exact hw _ _ (by omega) hi
 refine ⟨⟨?_, h.gd.map, h.gd.ap, h.gd.pos, h.gd.nd, h.gd.ls⟩, fun q hq i x hx h2 => ?_, h.pr⟩
 ·exact ⟨h.gd.sr.le, h.gd.sr.n256, hl.trans h.gd.sr.len, h.gd.sr.nd, h.gd.sr.mem, h.gd.sr.cnt, h.gd.sr.keys, h.gd.sr.right, h.gd.sr.eight, h.gd.sr.kinds, fun q hq i x hx => by
   obtain ⟨g, g0, g1, g2, g3⟩ := h.gd.sr.words q hq i x hx
   exact ⟨g, g0, g1, g2, (key q hq i x hx).trans g3⟩⟩
 have := h.lw q hq i x hx h2
 exact ⟨this.1, (key q hq i x hx).trans this.2⟩
theorem FdOk.setG (h : FdOk n a m L d) (g i v : Int) : FdOk n a m L (setWd d (setG n d.s.W L g i v)) :=
 h.words (setG_len _ _ _ _ _ _) fun _ _ hf hj => setG_page h.gd.ap g i v hf hj
theorem path_r {Q : Pa} (h : pathP (rdG n W L) page r = .ok Q) : Q.r = ((ofE (entF n L W Q 0)).and (ofE (entF n L W Q 1))).and (leafR n L W Q) := by
 have hrd : ∀ {g i v}, rdG n W L g i = some v → entG n L W g i = getE v := fun {g i v} e => by
  have := rdG_some e
  unfold entG; rw [this.2]
 rcases path_shape h with ⟨v3, v2, c, rfl⟩ | ⟨v3, v2, v1, c, rfl⟩
 ·have f3 : entF n L W (pathA page r v3 v2) 0 = getE v3 := hrd c.r3
  have f2 : entF n L W (pathA page r v3 v2) 1 = getE v2 := hrd c.r2
  rw [f3, f2]
  unfold leafR pathA Rg.and Rg.all
  simp
 have f3 : entF n L W (pathB page r v3 v2 v1) 0 = getE v3 := hrd c.r3
 have f2 : entF n L W (pathB page r v3 v2 v1) 1 = getE v2 := hrd c.r2
 have f1 : entF n L W (pathB page r v3 v2 v1) 2 = getE v1 := hrd c.r1
 unfold leafR
 rw [f3, f2, f1]
 unfold pathB Rg.and Rg.all
 simp
theorem path_ln {Q : Pa} (h : pathP (rdG n W L) page r = .ok Q) : Q.ats.length = (if Q.large then 2 else 3) ∧ 0 ≤ Q.g := by
 rcases path_shape h with ⟨v3, v2, c, rfl⟩ | ⟨v3, v2, v1, c, rfl⟩
 ·refine ⟨rfl, ?_⟩
  have h1 : 0 ≤ (getE v2).f := by unfold getE; simp only; omega
  have := (idxI_rng page 1).1
  show 0 ≤ (getE v2).f + idxI page 1
  omega
 exact ⟨rfl, by show 0 ≤ (getE v1).f; unfold getE; simp only; omega⟩
theorem path_next {Q : Pa} (h : pathP (rdG n W L) page r = .ok Q) : (atF Q 1).1 = (entF n L W Q 0).f := by
 have hrd : ∀ {g i v}, rdG n W L g i = some v → entG n L W g i = getE v := fun {g i v} e => by
  have := rdG_some e
  unfold entG; rw [this.2]
 rcases path_shape h with ⟨v3, v2, c, rfl⟩ | ⟨v3, v2, v1, c, rfl⟩
 ·have f3 : entF n L W (pathA page r v3 v2) 0 = getE v3 := hrd c.r3
  rw [f3]; rfl
 have f3 : entF n L W (pathB page r v3 v2 v1) 0 = getE v3 := hrd c.r3
 rw [f3]; rfl
end
structure Fst where
 what : Int
 root : Int
 page : Int
 kind : Int
 user : Bool
 g : Int
 i : Int
 v : Int
 nn : Int
def Fst.cs (o : Fst) : Array Value := #[.int .i64 o.what, .int .i64 o.root, .int .i64 o.page, .int .i64 o.kind, .bool o.user, .int .i64 o.g, .int .i64 o.i, .int .u64 o.v, .int .i64 o.nn]
def fopE : Enc Fst := ⟨fun o => o.cs.toList, 9, by decide, fun _ => rfl, fun o u hu => by
 simp only [Fst.cs, List.mem_cons, List.not_mem_nil, or_false] at hu
 rcases hu with rfl | rfl | rfl | rfl | rfl | rfl | rfl | rfl | rfl <;> rfl⟩
theorem fopE_cells {w : World} {A : Option Addr} {n : Nat} {L : List Fst} (h : SlG fopE w A n L) {k : Nat} (hk : k < n) : ∃ b off o, A = some ⟨b, off, none⟩ ∧ L[k]? = some o ∧
  w.cell? ⟨b, off + k * 9, none⟩ = some (.int .i64 o.what) ∧ w.cell? ⟨b, off + k * 9 + 1, none⟩ = some (.int .i64 o.root) ∧ w.cell? ⟨b, off + k * 9 + 2, none⟩ = some (.int .i64 o.page) ∧ w.cell? ⟨b, off + k * 9 + 3, none⟩ = some (.int .i64 o.kind) ∧
  w.cell? ⟨b, off + k * 9 + 4, none⟩ = some (.bool o.user) ∧ w.cell? ⟨b, off + k * 9 + 5, none⟩ = some (.int .i64 o.g) ∧ w.cell? ⟨b, off + k * 9 + 6, none⟩ = some (.int .i64 o.i) ∧
  w.cell? ⟨b, off + k * 9 + 7, none⟩ = some (.int .u64 o.v) ∧ w.cell? ⟨b, off + k * 9 + 8, none⟩ = some (.int .i64 o.nn) := by
 obtain ⟨b, off, x, e, _, hx, hat⟩ := h.get hk
 exact ⟨b, off, x, e, hx, hat 0 _ rfl, hat 1 _ rfl, hat 2 _ rfl, hat 3 _ rfl, hat 4 _ rfl, hat 5 _ rfl, hat 6 _ rfl, hat 7 _ rfl, hat 8 _ rfl⟩
def Fst.Wf (o : Fst) : Prop := i64B o.g ∧ 0 ≤ o.v ∧ o.v < 18446744073709551616
structure FopsIn (w : World) (A : Option Addr) (n : Nat) (L : List Fst) : Prop where
 sl : SlG fopE w A n L
 wf : ∀ o ∈ L, o.Wf
theorem FopsIn.new {w w' : World} {A : Option Addr} {n : Nat} {L : List Fst} (h : FopsIn w A n L) (hc : Chg [] w w') : FopsIn w' A n L := ⟨h.sl.new hc, h.wf⟩
theorem FopsIn.at_ {w : World} {A : Option Addr} {n : Nat} {L : List Fst} (h : FopsIn w A n L) {k : Nat} {o : Fst} (ho : L[k]? = some o) : o.Wf := h.wf o (List.mem_of_getElem? ho)
def walkO (d : Gd) (root page kind : Int) (user : Bool) : Pa × Int × Int := walkP 40 d.s.W gl16 root page kind user
def fillO (d : Gd) (root page kind : Int) (user : Bool) : Gd × List Int × Bool × Int :=
 if (walkO d root page kind user).2.1 = 0 then ((fillG 40 gl16 d root page (walkO d root page kind user).1 (decide (kind = 1))).1, (fillG 40 gl16 d root page (walkO d root page kind user).1 (decide (kind = 1))).2.1, (fillG 40 gl16 d root page (walkO d root page kind user).1 (decide (kind = 1))).2.2, 0)
 else (d, [], false, (walkO d root page kind user).2.1)
def nthF (d : Gd) (nn : Int) : Option Int := if 0 < d.s.L.length ∧ 0 ≤ nn then some ((d.s.L.map Pg.f).getD (nn % d.s.L.length).toNat 0) else none
def dropO (d : Gd) (nn : Int) : Gd × List Int × Bool × Int := match nthF d nn with
 | some p => (dropG d p, [], dropB d.s p, 0)
 | none => (d, [], true, 0)
def doF (d : Gd) (o : Fst) : Gd × List Int × Bool × Int :=
 if o.what = 4 then (loosenG d o.g, [], loosenB d o.g, 0) else if o.what = 5 then (⟨setGd 40 gl16 d.s o.g o.i o.v, d.T, d.l⟩, [], hasG 40 gl16 o.g o.i, 0) else if o.what = 6 then (looksG 40 gl16 d, [], true, 0)
 else if o.what = 7 then dropO d o.nn else if o.what = 8 then (wordG 40 d o.g o.i, [], true, 0) else if o.what = 9 then (lookG 40 gl16 d o.g, [], looseB d o.g, 0) else fillO d o.root o.page o.kind o.user
def opsF (d : Gd) (l : List Fst) : Gd := l.foldl (fun d o => (doF d o).1) d
theorem opsF_take {d : Gd} {l : List Fst} {k : Nat} {o : Fst} (h : l[k]? = some o) : opsF d (l.take (k + 1)) = (doF (opsF d (l.take k)) o).1 := by
 obtain ⟨h1, h2⟩ := List.getElem?_eq_some_iff.1 h
 rw [List.take_succ_eq_append_getElem h1, h2]
 unfold opsF; rw [List.foldl_append]; rfl
abbrev FdO (d : Gd) : Prop := FdOk 40 4 8 gl16 d
theorem gl16_len : gl16.length = 16 := by decide
theorem atV_gl {g : Int} (h : 0 ≤ g ∧ g < 16) : atV gl16 g = 24 + g := by
 obtain ⟨k, rfl⟩ : ∃ k : Nat, g = k := ⟨g.toNat, by omega⟩
 have hk : k < 16 := by omega
 have hB : atB gl16.length (k : Int) = true := by unfold atB; rw [decide_eq_true_eq, gl16_len]; omega
 unfold atV; rw [if_pos hB]
 rw [List.getD_eq_getElem?_getD, Int.toNat_natCast]
 unfold gl16
 rw [List.getElem?_map, List.getElem?_range hk]; rfl
theorem FdO.start (W : List Int) (hW : W.length = 8 * 40) : FdO (gd0 W) := by
 refine ⟨⟨SrOk.new (by omega) (by omega) hW, gl16_in, gl16_ap, by decide, List.nodup_nil, by intro g hg; cases hg⟩, (fun q hq => by cases hq), ?_⟩
 intro f i x hx
 unfold slotP gd0 at hx
 split at hx
 ·have hx : Option.bind (pgAt [] f) _ = some x := hx
  simp [pgAt] at hx
 cases hx
theorem walk_got {d : Gd} {root page kind c : Int} {user : Bool} {P : Pa} (h : walkO d root page kind user = (P, 0, c)) : pathP (rdG 40 d.s.W gl16) page root = .ok P ∧ 0 ≤ P.g ∧ P.g < 16 ∧ P.ats.length = (if P.large then 2 else 3) ∧
  P.r = ((ofE (entF 40 gl16 d.s.W P 0)).and (ofE (entF 40 gl16 d.s.W P 1))).and (leafR 40 gl16 d.s.W P) ∧ (atF P 1).1 = (entF 40 gl16 d.s.W P 0).f := by
 obtain ⟨_, h2, _, h4⟩ := done_of h
 obtain ⟨h5, h6⟩ := path_ln h2
 rw [gl16_len] at h4
 exact ⟨h2, h6, h4, h5, path_r h2, path_next h2⟩
theorem walkO_split (d : Gd) (root page kind : Int) (user : Bool) : ∃ P h c, walkO d root page kind user = (P, h, c) := ⟨_, _, _, rfl⟩
theorem FdO.fillO {d : Gd} (h : FdO d) (root page kind : Int) (user : Bool) : FdO (fillO d root page kind user).1 := by
 unfold Go.Proofs.YtmbgepafpcbakaaGreatDoor.fillO
 split
 ·rename_i e
  obtain ⟨P, hh, c, e2⟩ := walkO_split d root page kind user
  rw [e2] at e ⊢
  have e : hh = 0 := e
  subst e
  obtain ⟨_, h1, h2, _⟩ := walk_got e2
  exact (fill_ok h root page P _ (fill_room h (by omega) _ _ _ _) ⟨h1, by rw [gl16_len]; exact h2⟩).1.ok
 exact h
theorem FdO.doF {d : Gd} (h : FdO d) (o : Fst) : FdO (doF d o).1 := by
 unfold Go.Proofs.YtmbgepafpcbakaaGreatDoor.doF
 split
 ·exact h.loosen _
 split
 ·exact h.setG _ _ _
 split
 ·exact h.looks _
 split
 ·unfold dropO
  split
  ·exact h.drop _
  exact h
 split
 ·exact h.wordG _ _
 split
 ·exact h.look _
 exact h.fillO _ _ _ _
theorem FdO.opsF (l : List Fst) {d : Gd} (h : FdO d) : FdO (opsF d l) := by
 unfold Go.Proofs.YtmbgepafpcbakaaGreatDoor.opsF
 induction l generalizing d with
 | nil => exact h
 | cons o l ih => exact ih (h.doF o)
theorem FdO.take (l : List Fst) (k : Nat) {d : Gd} (h : FdO d) : FdO (Go.Proofs.YtmbgepafpcbakaaGreatDoor.opsF d (l.take k)) := FdO.opsF _ h
theorem setsG_len (W : List Int) (l : List Pu) : (setsG W l).length = W.length := by
 unfold setsG
 induction l generalizing W with
 | nil => rfl
 | cons x l ih => rw [List.foldl_cons, ih, setG_len]
theorem FdO.made (l : List Pu) : FdO (gd0 (madeG l)) := FdO.start _ (by unfold madeG; rw [setsG_len, zeros_len])
structure PathO (W : List Int) (P : Pa) : Prop where
 g0 : 0 ≤ P.g
 g1 : P.g < 16
 r : P.r = ((ofE (entF 40 gl16 W P 0)).and (ofE (entF 40 gl16 W P 1))).and (leafR 40 gl16 W P)
theorem PathO.still {W W' : List Int} {P : Pa} (h : PathO W P) (k : Still 4 8 W W') : PathO W' P :=
 ⟨h.g0, h.g1, by rw [k.entF gl16_in gl16_ap, k.entF gl16_in gl16_ap, k.leafR gl16_in gl16_ap]; exact h.r⟩
theorem walk_path {d : Gd} {root page kind c : Int} {user : Bool} {P : Pa} (h : walkO d root page kind user = (P, 0, c)) : PathO d.s.W P := by
 obtain ⟨_, h1, h2, _, h3, _⟩ := walk_got h
 exact ⟨h1, h2, h3⟩
theorem fill_seen {d : Gd} (h : FdO d) {root page : Int} {P : Pa} (hp : PathO d.s.W P) (t : Bool) :
  FdO (fillG 40 gl16 d root page P t).1 ∧ Still 4 8 d.s.W (fillG 40 gl16 d root page P t).1.s.W ∧ (fillG 40 gl16 d root page P t).2.2 = true ∧ fillG 40 gl16 (fillG 40 gl16 d root page P t).1 root page P t = ((fillG 40 gl16 d root page P t).1, [], true) ∧
   Anew root d.s.L (fillG 40 gl16 d root page P t).1.s.L (fillG 40 gl16 d root page P t).2.1 ∧
   ∃ q, pgOf (fillG 40 gl16 d root page P t).1.s.L ⟨root, 3, 0⟩ = some q ∧ (∀ q0, pgOf d.s.L ⟨root, 3, 0⟩ = some q0 → q0.f = q.f) ∧
    walkH 40 (fillG 40 gl16 d root page P t).1.s.W q.f page = some (24 + P.g, ⟨P.r.w && ((P.dirty || t) && !protB (fillG 40 gl16 d root page P t).1 P.g), P.r.u, P.r.x⟩) := by
 have hg : 0 ≤ P.g ∧ P.g < gl16.length := ⟨hp.g0, by rw [gl16_len]; exact hp.g1⟩
 have hr := fill_room h (by omega) root page P t
 have ha := fill_again h root page P t hr hg
 obtain ⟨k, hA, x, y, z, F, ht⟩ := fill_okT h root page P t hr hg
 obtain ⟨⟨q, e, hf, hq⟩, hw⟩ := F.way k.ok
 have hkey : q.k = ⟨root, 3, 0⟩ := by
  unfold pgOf at e
  have := List.find?_some e
  simpa using this
 refine ⟨k.ok, k.st, hr, ha, hA, q, e, fun q0 e0 => by rw [hf]; exact ht q0 e0, ?_⟩
 have hs := k.ok.walk hq (by rw [hkey]) page
 unfold wayK at hw
 rw [e, Option.bind_some] at hw
 rw [hs, hw, Option.map_some]
 congr 1
 rw [Prod.mk.injEq]
 refine ⟨atV_gl ⟨hp.g0, hp.g1⟩, ?_⟩
 rw [hp.r]
 unfold wayR leafW Rg.and
 simp only [Bool.and_assoc]
def viewF (d : Gd) (root page : Int) : Option (Int × Rg) := (pgOf d.s.L ⟨root, 3, 0⟩).bind fun t => walkH 40 d.s.W t.f page
theorem pgOf_has {P : List Pg} {k : Ky} {q : Pg} (h : pgOf P k = some q) : q ∈ P ∧ q.k = k := by
 unfold pgOf at h
 exact ⟨List.mem_of_find?_eq_some h, by have := List.find?_some h; simpa using this⟩
theorem view_way {d : Gd} (h : FdO d) (root page : Int) : viewF d root page = (wayK d.s.L root page).map fun x => (atV gl16 (wayG x), wayR x) := by
 unfold viewF wayK
 cases e : pgOf d.s.L ⟨root, 3, 0⟩ with
 | none => rfl
 | some t =>
  obtain ⟨h1, h2⟩ := pgOf_has e
  exact h.walk h1 (by rw [h2]) page
theorem anew_view {d d' : Gd} (h : FdO d) (h' : FdO d') {root : Int} {out : List Int} (hA : Anew root d.s.L d'.s.L out) {k : Nat} (hk : k < 512) (ho : (k : Int) ∉ out) {x : Int} {r : Rg} (hv : viewF d' root k = some (x, r)) :
  ∃ r0, viewF d root k = some (x, r0) ∧ under r r0 = true := by
 rw [view_way h'] at hv
 cases e : wayK d'.s.L root k with
 | none => rw [e] at hv; cases hv
 | some y =>
  rw [e, Option.map_some] at hv
  injection hv with hv
  rw [Prod.mk.injEq] at hv
  obtain ⟨z, h1, h2, h3⟩ := hA k hk ho y e
  refine ⟨wayR z, ?_, by rw [← hv.2]; exact h3⟩
  rw [view_way h, h1, Option.map_some, ← hv.1, h2]
theorem of_key {P : List Pg} {k : Ky} (h : ∀ f, (f, k) ∉ shapeP P) : pgOf P k = none := by
 unfold pgOf
 rw [List.find?_eq_none]
 intro q hq he
 exact h q.f (shape_mem.2 ⟨q, hq, rfl, by simpa using he⟩)
def preK (s : Sr) : Ky := ⟨100 + s.fr.length, 3, 0⟩
def preN (W : List Int) : Nat → Gd
 | 0 => gd0 W
 | j + 1 => ⟨makeS 40 (preN W j).s (preK (preN W j).s), [], []⟩
structure PreO (d : Gd) (j : Nat) : Prop where
 sr : SrOk 40 4 8 d.s
 T : d.T = []
 l : d.l = []
 len : d.s.L.length = j
 no : ∀ q ∈ d.s.L, ∀ x ∈ q.s, x = Slt.no
 ks : ∀ q ∈ d.s.L, q.k.lev = 3 ∧ 100 + (d.s.fr.length : Int) < q.k.g
theorem PreO.ok {d : Gd} {j : Nat} (h : PreO d j) : FdO d := by
 refine ⟨⟨h.sr, gl16_in, gl16_ap, by decide, by rw [h.l]; exact List.nodup_nil, by rw [h.l]; intro g hg; cases hg⟩, ?_, ?_⟩
 ·intro q hq i x hx h2
  rw [h.no q hq x (List.mem_of_getElem? hx)] at h2
  cases h2
 intro f i x hx h2
 obtain ⟨q, e, _, _, hs⟩ := slotP_has hx
 rw [h.no q (pgAt_mem e).1 x (List.mem_of_getElem? hs)] at h2
 cases h2
theorem pre_step {W : List Int} {j : Nat} (hj : j < 8) (h : PreO (preN W j) j) : makeB (preN W j).s (preK (preN W j).s) = true ∧ PreO (preN W (j + 1)) (j + 1) := by
 have hcnt := h.sr.cnt
 have hln := h.len
 have hfr : (preN W j).s.fr.isEmpty = false := by
  cases e : (preN W j).s.fr with
  | nil => rw [e] at hcnt; simp at hcnt; omega
  | cons _ _ => rfl
 have hno : pgOf (preN W j).s.L (preK (preN W j).s) = none := by
  unfold pgOf
  rw [List.find?_eq_none]
  intro q hq he
  have e : q.k = preK (preN W j).s := by simpa using he
  have := (h.ks q hq).2
  rw [e] at this
  unfold preK at this
  simp only at this
  omega
 have hb : makeB (preN W j).s (preK (preN W j).s) = true := by
  unfold makeB
  rw [hno, hfr]
  have : (preK (preN W j).s).right = true := by rw [right_iff]; unfold preK; simp
  rw [this]; rfl
 refine ⟨hb, ?_⟩
 have hS := h.sr.make (preK (preN W j).s)
 show PreO ⟨makeS 40 (preN W j).s (preK (preN W j).s), [], []⟩ (j + 1)
 have hm : makeS 40 (preN W j).s (preK (preN W j).s) = ⟨(preN W j).s.L ++ [⟨(preN W j).s.fr.getLastD 0, preK (preN W j).s, List.replicate 8 Slt.no⟩], (preN W j).s.fr.dropLast, fillW 40 (preN W j).s.W ((preN W j).s.fr.getLastD 0) (zeros 8)⟩ := by
  unfold makeS; rw [if_pos hb]
 refine ⟨hS, rfl, rfl, ?_, ?_, ?_⟩
 ·show (makeS 40 (preN W j).s _).L.length = _
  rw [hm]; simp [hln]
 ·show ∀ q ∈ (makeS 40 (preN W j).s _).L, _
  rw [hm]
  intro q hq x hx
  rcases List.mem_append.1 hq with hq | hq
  ·exact h.no q hq x hx
  simp only [List.mem_cons, List.not_mem_nil, or_false] at hq
  subst hq
  exact (List.mem_replicate.1 hx).2
 show ∀ q ∈ (makeS 40 (preN W j).s _).L, _ ∧ 100 + (((makeS 40 (preN W j).s _).fr.length : Nat) : Int) < _
 rw [hm]
 intro q hq
 simp only [List.length_dropLast]
 rcases List.mem_append.1 hq with hq | hq
 ·have := h.ks q hq
  exact ⟨this.1, by omega⟩
 simp only [List.mem_cons, List.not_mem_nil, or_false] at hq
 subst hq
 refine ⟨rfl, ?_⟩
 unfold preK
 simp only
 omega
theorem pre_ok (W : List Int) (hW : W.length = 8 * 40) : ∀ j, j ≤ 8 → PreO (preN W j) j
 | 0, _ => ⟨SrOk.new (by omega) (by omega) hW, rfl, rfl, rfl, (fun q hq => by cases hq), (fun q hq => by cases hq)⟩
 | j + 1, h => (pre_step (by omega) (pre_ok W hW j (by omega))).2
theorem pre_left {W : List Int} (hW : W.length = 8 * 40) {j : Nat} (h : j ≤ 8) : (preN W j).s.fr.length = 8 - j := by
 have := pre_ok W hW j h
 have h1 := this.sr.cnt; have h2 := this.len
 omega
theorem shape_len (P : List Pg) : (shapeP P).length = P.length := by unfold shapeP; simp
theorem link_shape {d : Gd} (h : FdO d) (root p i c : Int) (r : Rg) : shapeP (linkG 40 gl16 d root p i c r).1.s.L = shapeP d.s.L := by
 unfold linkG
 split
 ·rfl
 show shapeP (childS 40 _ p i c r).L = _
 have h1 : shapeP (childS 40 (zapG 40 (looksF 40 gl16 d c) p i).s p i c r).L = shapeP (zapG 40 (looksF 40 gl16 d c) p i).s.L := by
  unfold childS
  split
  ·exact shape_set _ _ _ _
  rfl
 rw [h1, shape_zap, (LookK.looks h c).sh]
theorem lay_shape (d : Gd) (root c i g : Int) (r : Rg) : shapeP (layG 40 gl16 d root c i g r).1.s.L = shapeP d.s.L := by
 unfold layG
 split
 ·rfl
 show shapeP (leafS 40 _ c i g _ r).L = _
 have h1 : shapeP (leafS 40 (zapG 40 d c i).s c i g (atV gl16 g) r).L = shapeP (zapG 40 d c i).s.L := by
  unfold leafS
  split
  ·exact shape_set _ _ _ _
  rfl
 rw [h1, shape_zap]
theorem fill_three {d : Gd} {j : Nat} (h : PreO d j) (hj : j ≤ 8) {page : Int} {P : Pa} (t : Bool) (hp : PathO d.s.W P) :
  (fillG 40 gl16 d 1 page P t).1.s.L.length = min 8 (j + 3) ∧ (pgOf (fillG 40 gl16 d 1 page P t).1.s.L ⟨(entF 40 gl16 d.s.W P 0).f, 2, 0⟩).isSome = true := by
 have hfd := h.ok
 have hg : 0 ≤ P.g ∧ P.g < gl16.length := ⟨hp.g0, by rw [gl16_len]; exact hp.g1⟩
 have hr := fill_room hfd (by omega) 1 page P t
 obtain ⟨k, _, x, y, z, F, _⟩ := fill_okT hfd 1 page P t hr hg
 have h2 : (pgOf (fillG 40 gl16 d 1 page P t).1.s.L ⟨(entF 40 gl16 d.s.W P 0).f, 2, 0⟩).isSome = true := by
  obtain ⟨q, hq, _, hk⟩ := shape_mem.1 F.kb
  rw [← hk, k.ok.gd.sr.of_ hq]; rfl
 refine ⟨?_, h2⟩
 clear h2 F k
 have hks : ∀ f k', (f, k') ∈ shapeP d.s.L → k'.lev = 3 ∧ 100 < k'.g := fun f k' hm => by
  obtain ⟨q, hq, _, rfl⟩ := shape_mem.1 hm
  have := h.ks q hq
  exact ⟨this.1, by omega⟩
 obtain ⟨i1, i2⟩ := fill_takes hr
 unfold fillG
 simp only
 clear hr
 generalize entF 40 gl16 d.s.W P 0 = e1 at *
 generalize entF 40 gl16 d.s.W P 1 = e2 at *
 generalize leafR 40 gl16 d.s.W P = r at *
 generalize (P.dirty || t) = dirty at *
 have n1 : pgOf d.s.L ⟨1, 3, 0⟩ = none := of_key fun f hm => by have := hks _ _ hm; simp at this
 obtain ⟨c1, s1⟩ := takeF_len hfd (pins := []) (k := ⟨1, 3, 0⟩) (by rw [right_iff]; simp) (by simp) (by simp) n1
 obtain ⟨fa, q1, k1, m1, p1, _⟩ := takeF_ok hfd (pins := []) (k := ⟨1, 3, 0⟩) (by rw [right_iff]; simp) (by simp) i1
 generalize takeF 40 gl16 d [] ⟨1, 3, 0⟩ = T1 at *
 obtain ⟨d1, o1⟩ := T1
 simp only at q1 k1 m1 p1 c1 s1; subst q1
 obtain ⟨i2, i3⟩ := i2 d1 fa rfl
 simp only
 have n2 : pgOf d1.s.L ⟨e1.f, 2, 0⟩ = none := of_key fun f hm => by
  rcases s1 _ _ hm with e | e
  ·simp [Ky.ext_] at e
  have := (hks _ _ e).1; simp at this
 have hp2 : ∀ p ∈ [fa], ∃ k', (p, k') ∈ shapeP d1.s.L ∧ k' ≠ Ky.mk e1.f 2 0 := by
  intro p hp; simp at hp; subst hp; exact ⟨_, m1, by simp [Ky.ext_]⟩
 obtain ⟨c2, s2⟩ := takeF_len k1.ok (pins := [fa]) (k := ⟨e1.f, 2, 0⟩) (by rw [right_iff]; simp) hp2 (by simp) n2
 obtain ⟨fb, q2, k2, m2, p2, _⟩ := takeF_ok k1.ok (pins := [fa]) (k := ⟨e1.f, 2, 0⟩) (by rw [right_iff]; simp) hp2 i2
 generalize takeF 40 gl16 d1 [fa] ⟨e1.f, 2, 0⟩ = T2 at *
 obtain ⟨d2, o2⟩ := T2
 simp only at q2 k2 m2 p2 c2 s2; subst q2
 have i3 := i3 d2 fb rfl
 simp only
 have ma2 := p2 fa (by simp) _ m1
 have n3 : pgOf d2.s.L (lowK P dirty e2.f) = none := of_key fun f hm => by
  rcases s2 _ _ hm with e | e
  ·unfold lowK at e; simp [Ky.ext_] at e
  rcases s1 _ _ e with e | e
  ·unfold lowK at e; simp [Ky.ext_] at e
  have := (hks _ _ e).1; unfold lowK at this; simp at this
 have hp3 : ∀ p ∈ [fa, fb], ∃ k', (p, k') ∈ shapeP d2.s.L ∧ k' ≠ lowK P dirty e2.f := by
  intro p hp; simp at hp
  rcases hp with rfl | rfl
  ·exact ⟨_, ma2, by unfold lowK; simp [Ky.ext_]⟩
  exact ⟨_, m2, by unfold lowK; simp [Ky.ext_]⟩
 obtain ⟨c3, _⟩ := takeF_len k2.ok (pins := [fa, fb]) (k := lowK P dirty e2.f) (low_right _ _ _) hp3 (by simp) n3
 obtain ⟨fc, q3, k3, m3, p3, _⟩ := takeF_ok k2.ok (pins := [fa, fb]) (k := lowK P dirty e2.f) (low_right _ _ _) hp3 i3
 generalize takeF 40 gl16 d2 [fa, fb] (lowK P dirty e2.f) = T3 at *
 obtain ⟨d3, o3⟩ := T3
 simp only at q3 k3 m3 p3 c3; subst q3
 simp only
 have ok3 := ((k1.trans k2).trans k3).ok
 have k4 := link_shape ok3 1 fa (idxI page 3) fb (ofE e1)
 have ok4 : FdO (linkG 40 gl16 d3 1 fa (idxI page 3) fb (ofE e1)).1 := (link_spec ok3 (root := 1) (i := idxI page 3) (r := ofE e1) (p3 fa (by simp) _ ma2) (p3 fb (by simp) _ m2) (by simp) (idxI_rng _ _)).1.ok
 have k5 := link_shape ok4 1 fb (idxI page 2) fc (ofE e2)
 have k6 := lay_shape (linkG 40 gl16 (linkG 40 gl16 d3 1 fa (idxI page 3) fb (ofE e1)).1 1 fb (idxI page 2) fc (ofE e2)).1 1 fc (idxI page 1) P.g (leafW (linkG 40 gl16 (linkG 40 gl16 d3 1 fa (idxI page 3) fb (ofE e1)).1 1 fb (idxI page 2) fc (ofE e2)).1 r P.g dirty)
 have hl := congrArg List.length (k6.trans (k5.trans k4))
 rw [shape_len, shape_len] at hl
 rw [hl, c3, c2, c1, h.len]
 omega
end Go.Proofs.YtmbgepafpcbakaaGreatDoor
