/-
 FdB, FlP, FlQ in one text.
-/
import Derived.Test.YtmbgepafpcbakaaGreatDoorGPlK
import Derived.Test.YtmbgepafpcbakaaGreatDoorGS1K
import Derived.Test.YtmbgepafpcbakaaGreatDoorGGaK
namespace Go.Proofs.YtmbgepafpcbakaaGreatDoor
open Go.RowKit
def pinF (pins : List Int) : Option Int → List Int
 | some p => pins ++ [p]
 | none => pins
section
variable {n a m : Nat} {L : List Int} {d : Gd} {P P' : List Pg} {pins : List Int}
theorem victim_none (h : ∀ i, i < d.s.L.length → pins.contains ((d.s.L.map Pg.f).getD i 0) = true) : victimF d pins = none := by
 unfold victimF
 rw [List.find?_eq_none]
 intro q hq
 obtain ⟨i, hi, rfl⟩ := List.getElem_of_mem hq
 have := h i hi
 rw [List.getD_eq_getElem?_getD, List.getElem?_map, List.getElem?_eq_getElem hi, Option.map_some, Option.getD_some] at this
 rw [this]; simp
theorem find_row {α : Type} (f : α → Bool) : ∀ (l : List α) (j : Nat) (x : α), l[j]? = some x → f x = true → (∀ i y, i < j → l[i]? = some y → f y = false) → l.find? f = some x
 | [], _, _, h, _, _ => by simp at h
 | y :: l, 0, x, h, hf, _ => by
  simp only [qZ, Option.some.injEq] at h
  subst h; rw [List.find?_cons_of_pos hf]
 | y :: l, j + 1, x, h, hf, hn => by
  have h0 := hn 0 y (by omega) rfl
  rw [List.find?_cons_of_neg (by simp [h0])]
  exact find_row f l j x (by simpa using h) hf fun i z hi hz => hn (i + 1) z (by omega) (by simpa using hz)
theorem victim_some {j : Nat} {q : Pg} (hj : d.s.L[j]? = some q) (h : ∀ i, i < j → pins.contains ((d.s.L.map Pg.f).getD i 0) = true) (hn : pins.contains q.f = false) : victimF d pins = some q := by
 unfold victimF
 refine find_row _ _ j q hj (by rw [hn]; rfl) fun i y hi hy => ?_
 have := h i hi
 rw [List.getD_eq_getElem?_getD, List.getElem?_map, hy, Option.map_some, Option.getD_some] at this
 rw [this]; rfl
theorem take_there {k : Ky} {q : Pg} (h : pgOf d.s.L k = some q) : takeF n L d pins k = (d, some q.f) := by unfold takeF; rw [h]
theorem take_room {k : Ky} (h : pgOf d.s.L k = none) (hf : d.s.fr.length ≠ 0) : takeF n L d pins k = getF_ n L d k := by
 have : d.s.fr.isEmpty = false := by cases e : d.s.fr with | nil => rw [e] at hf; simp at hf | cons _ _ => rfl
 unfold takeF; rw [h]; simp only [this, Bool.false_eq_true, if_false]
theorem take_full {k : Ky} (h : pgOf d.s.L k = none) (hf : d.s.fr.length = 0) : takeF n L d pins k = match victimF d pins with | none => (d, none) | some q => getF_ n L (dropG d q.f) k := by
 have : d.s.fr.isEmpty = true := by rw [List.eq_nil_of_length_eq_zero hf]; rfl
 unfold takeF; rw [h]; simp only [this, if_true]
 cases victimF d pins <;> rfl
theorem kid_same (hk : KeepC P P') (hl : LessS P P') (f i : Int) : ((slotV P' f i).kind == 1) = ((slotV P f i).kind == 1) ∧ ((slotV P f i).kind = 1 → (slotV P' f i).to_ = (slotV P f i).to_) := by
 have h1 : (slotV P f i).kind = 1 → slotV P' f i = slotV P f i := fun h => by
  unfold slotV at h ⊢
  cases e : slotP P f i with
  | none => rw [e] at h; simp [Slt.no] at h
  | some x => rw [e, Option.getD_some] at h; rw [hk f i x h e]
 have h2 : (slotV P' f i).kind = 1 → (slotV P f i).kind = 1 := fun h => by
  unfold slotV at h ⊢
  cases e : slotP P' f i with
  | none => rw [e] at h; simp [Slt.no] at h
  | some x' =>
   rw [e, Option.getD_some] at h
   obtain ⟨_, x, hx, h3, _⟩ := hl f i x' e (by omega)
   rw [hx, Option.getD_some]; omega
 refine ⟨Bool.eq_iff_iff.2 ?_, fun h => by rw [h1 h]⟩
 simp only [beq_iff_eq]
 exact ⟨h2, fun h => by rw [h1 h]; exact h⟩
def lookR (n : Nat) (L : List Int) (d : Gd) (c : Int) (j : Nat) : Gd := (List.range j).foldl (fun e (i : Nat) => if (slotV d.s.L c (i : Int)).kind = 1 then lookAt n L e (slotV d.s.L c (i : Int)).to_ else e) d
theorem lookR_succ (d : Gd) (c : Int) (j : Nat) : lookR n L d c (j + 1) = if (slotV d.s.L c (j : Int)).kind = 1 then lookAt n L (lookR n L d c j) (slotV d.s.L c (j : Int)).to_ else lookR n L d c j := by
 unfold lookR; rw [List.range_succ, List.foldl_append]; rfl
theorem KeepC.at_ (h : GdOk n a m L d) (p : Int) : KeepC d.s.L (lookAt n L d p).s.L ∧ LessS d.s.L (lookAt n L d p).s.L ∧ GdOk n a m L (lookAt n L d p) := by
 unfold lookAt
 split
 ·split
  ·exact ⟨KeepC.look h _, LessS.look d _, h.look _⟩
  exact ⟨KeepC.refl _, LessS.refl _, h⟩
 exact ⟨KeepC.refl _, LessS.refl _, h⟩
theorem lookR_keep (h : GdOk n a m L d) (c : Int) : ∀ j : Nat, KeepC d.s.L (lookR n L d c j).s.L ∧ LessS d.s.L (lookR n L d c j).s.L ∧ GdOk n a m L (lookR n L d c j)
 | 0 => ⟨KeepC.refl _, LessS.refl _, h⟩
 | j + 1 => by
  obtain ⟨h1, h2, h3⟩ := lookR_keep h c j
  rw [lookR_succ]
  split
  ·obtain ⟨k1, k2, k3⟩ := KeepC.at_ h3 (slotV d.s.L c (j : Int)).to_
   exact ⟨h1.trans k1, h2.trans k2, k3⟩
  exact ⟨h1, h2, h3⟩
theorem kids_run (h : SrOk n a m d.s) {c : Int} {q : Pg} (hq : pgAt d.s.L c = some q) : (kidsF d.s.L c).foldl (lookAt n L) d = lookR n L d c 8 := by
 obtain ⟨hm, hf⟩ := pgAt_mem hq
 have h8 := h.eight q hm
 have hs : q.s = (List.range 8).map fun (j : Nat) => slotV d.s.L c (j : Int) := by
  apply List.ext_getElem (by simp [h8])
  intro i h1 _
  obtain ⟨x, h2, h3⟩ := h.slot hm (i := i) (by omega)
  rw [hf] at h3
  rw [List.getElem?_eq_getElem h1] at h2
  injection h2 with h2
  simp only [List.getElem_map, List.getElem_range]
  unfold slotV; rw [h3, h2]; rfl
 unfold kidsF lookR
 rw [hq]
 simp only
 rw [hs, List.filter_map, List.map_map, List.foldl_map, List.foldl_filter]
 simp only [Function.comp_apply, decide_eq_true_eq]
end
def roomF (d : Gd) (pins : List Int) : Option Gd := if d.s.fr.length = 0 then (match victimF d pins with | none => none | some q => some (dropG d q.f)) else some d
section
variable {n a m : Nat} {L : List Int} {d : Gd} {pins : List Int} {k : Ky}
theorem take_none (h : pgOf d.s.L k = none) (hr : roomF d pins = none) : takeF n L d pins k = (d, none) := by
 unfold roomF at hr
 split at hr
 ·rename_i hf
  rw [take_full h hf]
  cases e : victimF d pins with
  | none => rfl
  | some q => rw [e] at hr; cases hr
 cases hr
theorem take_some {d' : Gd} (h : pgOf d.s.L k = none) (hr : roomF d pins = some d') : takeF n L d pins k = getF_ n L d' k := by
 unfold roomF at hr
 split at hr
 ·rename_i hf
  rw [take_full h hf]
  cases e : victimF d pins with
  | none => rw [e] at hr; cases hr
  | some q => rw [e] at hr; injection hr with hr; rw [← hr]
 rename_i hf
 injection hr with hr
 rw [take_room h hf, hr]
theorem room_free (hf : d.s.fr.length ≠ 0) : roomF d pins = some d := by unfold roomF; rw [if_neg hf]
theorem room_full (hf : d.s.fr.length = 0) (h : SrOk n a m d.s) : (roomF d pins = none ∧ fstI (fun x => !pins.contains x) (d.s.L.map Pg.f) = -1) ∨
  ∃ (j : Nat) (f : Int), roomF d pins = some (dropG d f) ∧ fstI (fun x => !pins.contains x) (d.s.L.map Pg.f) = j ∧ j < d.s.L.length ∧ (d.s.L.map Pg.f)[j]? = some f ∧ dropB d.s f = true ∧ i64B f := by
 have hlen : (d.s.L.map Pg.f).length = d.s.L.length := List.length_map _
 by_cases hall : ∀ j, j < d.s.L.length → pins.contains ((d.s.L.map Pg.f).getD j 0) = true
 ·left
  refine ⟨?_, fstI_miss fun j hj => by rw [hlen] at hj; show (!pins.contains _) = false; rw [hall j hj]; rfl⟩
  unfold roomF; rw [if_pos hf, victim_none hall]
 right
 obtain ⟨j, hj⟩ := Classical.not_forall.1 hall
 rw [Classical.not_imp] at hj
 obtain ⟨k, hk, hmin⟩ : ∃ k, (k < d.s.L.length ∧ pins.contains ((d.s.L.map Pg.f).getD k 0) ≠ true) ∧ ∀ i, i < k → ¬ (i < d.s.L.length ∧ pins.contains ((d.s.L.map Pg.f).getD i 0) ≠ true) := by
  induction j using Nat.strongRecOn with
  | _ j ih =>
   by_cases hx : ∃ i, i < j ∧ (i < d.s.L.length ∧ pins.contains ((d.s.L.map Pg.f).getD i 0) ≠ true)
   ·obtain ⟨i, h1, h2⟩ := hx
    exact ih i h1 h2
   exact ⟨j, hj, fun i hi hn => hx ⟨i, hi, hn⟩⟩
 have hlt := hk.1
 have hq : d.s.L[k]? = some d.s.L[k] := List.getElem?_eq_getElem hlt
 have hx : (d.s.L.map Pg.f)[k]? = some d.s.L[k].f := by rw [List.getElem?_map, hq]; rfl
 have hd : (d.s.L.map Pg.f).getD k 0 = d.s.L[k].f := by rw [List.getD_eq_getElem?_getD, hx]; rfl
 have hb : ∀ i, i < k → pins.contains ((d.s.L.map Pg.f).getD i 0) = true := fun i hi => by
  have := hmin i hi
  by_cases e : pins.contains ((d.s.L.map Pg.f).getD i 0) = true
  ·exact e
  exact absurd ⟨by omega, e⟩ this
 have hn : pins.contains d.s.L[k].f = false := by have := hk.2; rw [hd] at this; simpa using this
 have hm := List.getElem_mem hlt
 have h1 := h.inL hm; have h2 := h.le; have h3 := h.n256
 refine ⟨k, d.s.L[k].f, ?_, fstI_hit (by omega) (by rw [hd, hn]; rfl) (fun i hi => by rw [hb i hi]; rfl), hlt, hx, ?_, by unfold i64B; omega⟩
 ·unfold roomF; rw [if_pos hf, victim_some hq hb hn]
 unfold dropB; rw [h.at_ hm]; rfl
theorem look_kid (h : GdOk n a m L d) {p : Int} {q : Pg} (hq : pgAt d.s.L p = some q) (hl : q.k.lev = 2) {j : Nat} (_hj : j < 8) (hk : (slotV (lookR n L d p j).s.L p j).kind = 1) :
  (∃ c, pgAt (lookR n L d p j).s.L (slotV (lookR n L d p j).s.L p j).to_ = some c ∧ c.k.lev = 1) ∧ i64B (slotV (lookR n L d p j).s.L p j).to_ ∧ lookR n L d p (j + 1) = lookAt n L (lookR n L d p j) (slotV (lookR n L d p j).s.L p j).to_ := by
 obtain ⟨k1, k2, k3⟩ := lookR_keep h p j
 obtain ⟨e1, e2⟩ := kid_same k1 k2 p (j : Int)
 have e1' : (slotV d.s.L p (j : Int)).kind = 1 := by rw [hk] at e1; simpa using e1
 have e3 := e2 e1'
 rw [lookR_succ, if_pos e1', ← e3]
 cases e : slotP (lookR n L d p j).s.L p (j : Int) with
 | none => unfold slotV at hk; rw [e] at hk; cases hk
 | some x =>
  have hx : slotV (lookR n L d p j).s.L p (j : Int) = x := by unfold slotV; rw [e]; rfl
  rw [hx] at hk ⊢
  obtain ⟨q', e4, h0, h7, hs⟩ := slotP_has e
  obtain ⟨hm, hf⟩ := pgAt_mem e4
  have hkey := (k2 p (j : Int) x e (by omega)).1
  unfold keyP at hkey
  rw [e4, hq] at hkey
  have hkey : q'.k = q.k := by simpa using hkey
  rcases k3.sr.kinds q' hm x (List.mem_of_getElem? hs) with ⟨h1, _⟩ | ⟨_, c, hc, hcl⟩ | ⟨h1, _⟩
  ·omega
  ·obtain ⟨hcm, hcf⟩ := pgAt_mem hc
   have h1 := k3.sr.inL hcm; have h2 := k3.sr.le; have h3 := k3.sr.n256
   exact ⟨⟨c, hc, by rw [hkey] at hcl; omega⟩, by unfold i64B; omega, rfl⟩
  omega
theorem look_none (h : GdOk n a m L d) {p : Int} {j : Nat} (hk : (slotV (lookR n L d p j).s.L p j).kind ≠ 1) : lookR n L d p (j + 1) = lookR n L d p j := by
 obtain ⟨k1, k2, _⟩ := lookR_keep h p j
 obtain ⟨e1, _⟩ := kid_same k1 k2 p (j : Int)
 rw [lookR_succ, if_neg]
 intro e
 rw [e] at e1
 exact hk (by simpa using e1)
end
section
variable {n a m : Nat} {L : List Int} {d : Gd}
theorem page_i64 (h : SrOk n a m d.s) {f : Int} {k : Ky} (hk : (f, k) ∈ shapeP d.s.L) : i64B f := by
 obtain ⟨q, hq, rfl, _⟩ := shape_mem.1 hk
 have h1 := h.inL hq; have h2 := h.le; have h3 := h.n256
 unfold i64B; omega
theorem page_at (h : SrOk n a m d.s) {f : Int} {k : Ky} (hk : (f, k) ∈ shapeP d.s.L) : ∃ q, pgAt d.s.L f = some q ∧ q.k = k := by
 obtain ⟨q, hq, rfl, e⟩ := shape_mem.1 hk
 exact ⟨q, h.at_ hq, e⟩
theorem fill_parts (h : FdOk n a m L d) (hm : 3 ≤ m) (root page : Int) (P : Pa) (written : Bool) : ∃ d1 x0 d2 x1 d3 x2, takeF n L d [] ⟨root, 3, 0⟩ = (d1, some x0) ∧ takeF n L d1 [x0] ⟨(entF n L d.s.W P 0).f, 2, 0⟩ = (d2, some x1) ∧
  takeF n L d2 [x0, x1] (lowK P (P.dirty || written) (entF n L d.s.W P 1).f) = (d3, some x2) ∧ i64B x0 ∧ i64B x1 ∧ i64B x2 ∧ (∃ q, pgAt d3.s.L x1 = some q ∧ (q.k.lev = 1 ∨ (q.k.lev = 2 ∧ q.k.role = 0))) ∧
  (∃ q, pgAt (linkG n L d3 root x0 (idxI page 3) x1 (ofE (entF n L d.s.W P 0))).1.s.L x2 = some q ∧ (q.k.lev = 1 ∨ (q.k.lev = 2 ∧ q.k.role = 0))) ∧
  fillG n L d root page P written = ((layG n L (linkG n L (linkG n L d3 root x0 (idxI page 3) x1 (ofE (entF n L d.s.W P 0))).1 root x1 (idxI page 2) x2 (ofE (entF n L d.s.W P 1))).1 root x2 (idxI page 1) P.g (leafW (linkG n L (linkG n L d3 root x0 (idxI page 3) x1 (ofE (entF n L d.s.W P 0))).1 root x1 (idxI page 2) x2 (ofE (entF n L d.s.W P 1))).1 (leafR n L d.s.W P) P.g (P.dirty || written))).1,
   (linkG n L d3 root x0 (idxI page 3) x1 (ofE (entF n L d.s.W P 0))).2 ++ ((linkG n L (linkG n L d3 root x0 (idxI page 3) x1 (ofE (entF n L d.s.W P 0))).1 root x1 (idxI page 2) x2 (ofE (entF n L d.s.W P 1))).2 ++ (layG n L (linkG n L (linkG n L d3 root x0 (idxI page 3) x1 (ofE (entF n L d.s.W P 0))).1 root x1 (idxI page 2) x2 (ofE (entF n L d.s.W P 1))).1 root x2 (idxI page 1) P.g (leafW (linkG n L (linkG n L d3 root x0 (idxI page 3) x1 (ofE (entF n L d.s.W P 0))).1 root x1 (idxI page 2) x2 (ofE (entF n L d.s.W P 1))).1 (leafR n L d.s.W P) P.g (P.dirty || written))).2), true) := by
 have hr := fill_room h hm root page P written
 obtain ⟨i1, i2⟩ := fill_takes hr
 clear hr
 unfold fillG
 simp only
 generalize entF n L d.s.W P 0 = e1 at *
 generalize entF n L d.s.W P 1 = e2 at *
 generalize leafR n L d.s.W P = r at *
 generalize (P.dirty || written) = dirty at *
 obtain ⟨fa, q1, k1, m1, p1, _⟩ := takeF_ok h (pins := []) (k := ⟨root, 3, 0⟩) (by rw [right_iff]; simp) (by simp) i1
 generalize takeF n L d [] ⟨root, 3, 0⟩ = T1 at *
 obtain ⟨d1, o1⟩ := T1
 simp only at q1 k1 m1 p1; subst q1
 obtain ⟨i2, i3⟩ := i2 d1 fa rfl
 have hp2 : ∀ p ∈ [fa], ∃ k', (p, k') ∈ shapeP d1.s.L ∧ k' ≠ Ky.mk e1.f 2 0 := by
  intro p hp; simp at hp; subst hp; exact ⟨_, m1, by simp [Ky.ext_]⟩
 obtain ⟨fb, q2, k2, m2, p2, _⟩ := takeF_ok k1.ok (pins := [fa]) (k := ⟨e1.f, 2, 0⟩) (by rw [right_iff]; simp) hp2 i2
 generalize hT2 : takeF n L d1 [fa] ⟨e1.f, 2, 0⟩ = T2 at *
 obtain ⟨d2, o2⟩ := T2
 simp only at q2 k2 m2 p2; subst q2
 have i3 := i3 d2 fb rfl
 have ma2 := p2 fa (by simp) _ m1
 have hp3 : ∀ p ∈ [fa, fb], ∃ k', (p, k') ∈ shapeP d2.s.L ∧ k' ≠ lowK P dirty e2.f := by
  intro p hp; simp at hp
  rcases hp with rfl | rfl
  ·exact ⟨_, ma2, by unfold lowK; simp [Ky.ext_]⟩
  exact ⟨_, m2, by unfold lowK; simp [Ky.ext_]⟩
 obtain ⟨fc, q3, k3, m3, p3, _⟩ := takeF_ok k2.ok (pins := [fa, fb]) (k := lowK P dirty e2.f) (low_right _ _ _) hp3 i3
 generalize hT3 : takeF n L d2 [fa, fb] (lowK P dirty e2.f) = T3 at *
 obtain ⟨d3, o3⟩ := T3
 simp only at q3 k3 m3 p3; subst q3
 have ok3 := ((k1.trans k2).trans k3).ok
 have ma3 := p3 fa (by simp) _ ma2
 have mb3 := p3 fb (by simp) _ m2
 obtain ⟨k4, h4, _⟩ := link_spec ok3 (root := root) (i := idxI page 3) (r := ofE e1) ma3 mb3 (by simp) (idxI_rng _ _)
 have mc4 := m3
 rw [← h4] at mc4
 obtain ⟨qb, hb1, hb2⟩ := page_at ok3.gd.sr mb3
 obtain ⟨qc, hc1, hc2⟩ := page_at k4.ok.gd.sr mc4
 refine ⟨d1, fa, d2, fb, d3, fc, rfl, hT2, hT3, page_i64 ok3.gd.sr ma3, page_i64 ok3.gd.sr mb3, page_i64 ok3.gd.sr m3, ⟨qb, hb1, .inr ?_⟩, ⟨qc, hc1, .inl ?_⟩, ?_⟩
 ·rw [hb2]; exact ⟨rfl, rfl⟩
 ·rw [hc2]; rfl
 simp only; rw [hT2]; simp only; rw [hT3]
end
end Go.Proofs.YtmbgepafpcbakaaGreatDoor
