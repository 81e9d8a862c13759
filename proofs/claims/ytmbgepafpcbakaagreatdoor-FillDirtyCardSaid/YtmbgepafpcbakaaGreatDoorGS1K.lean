/-
 StoreP, StoreA, StoreB, StoreC, StoreD, StoreE, StoreF in one text.
-/
import Derived.Test.YtmbgepafpcbakaaGreatDoorG1K
import Derived.Test.YtmbgepafpcbakaaGreatDoorWdWK
import Derived.Test.YtmbgepafpcbakaaGreatDoorG4K
import Derived.Test.YtmbgepafpcbakaaGreatDoorG4rK
import Derived.Test.YtmbgepafpcbakaaGreatDoorG2K
import Derived.Test.YtmbgepafpcbakaaGreatDoorRowGK
import Derived.Test.YtmbgepafpcbakaaGreatDoorG0K
import Derived.WalkMore
namespace Go.Proofs.YtmbgepafpcbakaaGreatDoor
open Go.RowKit
structure Ky where
 g : Int
 lev : Int
 role : Int
theorem Ky.ext_ {a b : Ky} : a = b ↔ a.g = b.g ∧ a.lev = b.lev ∧ a.role = b.role := by
 cases a; cases b; simp
instance Ky.dec : DecidableEq Ky := fun _ _ => decidable_of_iff _ Ky.ext_.symm
def Ky.cs (k : Ky) : Array Value := #[.int .i64 k.g, .int .i64 k.lev, .int .i64 k.role]
def Ky.right (k : Ky) : Bool := decide (1 ≤ k.lev ∧ k.lev ≤ 3 ∧ 0 ≤ k.role ∧ k.role ≤ 2 ∧ (k.role ≤ 0 ∨ k.lev = 1))
structure Slt where
 kind : Int
 to_ : Int
 r : Rg
instance Rg.dec : DecidableEq Rg := fun a b => decidable_of_iff _ (Rg.eqb_iff a b)
theorem Slt.ext_ {a b : Slt} : a = b ↔ a.kind = b.kind ∧ a.to_ = b.to_ ∧ a.r = b.r := by
 cases a; cases b; simp
instance Slt.dec : DecidableEq Slt := fun _ _ => decidable_of_iff _ Slt.ext_.symm
def Slt.no : Slt := ⟨0, 0, ⟨false, false, false⟩⟩
structure Pg where
 f : Int
 k : Ky
 s : List Slt
structure Sr where
 L : List Pg
 fr : List Int
 W : List Int
theorem Sr.ext_ {a b : Sr} (h1 : a.L = b.L) (h2 : a.fr = b.fr) (h3 : a.W = b.W) : a = b := by
 cases a; cases b; simp at h1 h2 h3; simp [h1, h2, h3]
theorem Pg.ext_ {a b : Pg} (h1 : a.f = b.f) (h2 : a.k = b.k) (h3 : a.s = b.s) : a = b := by
 cases a; cases b; simp at h1 h2 h3; simp [h1, h2, h3]
def pgAt (L : List Pg) (f : Int) : Option Pg := L.find? fun p => p.f == f
def pgOf (L : List Pg) (k : Ky) : Option Pg := L.find? fun p => decide (p.k = k)
def slotP (L : List Pg) (f : Int) (i : Int) : Option Slt := if 0 ≤ i ∧ i ≤ 7 then (pgAt L f).bind fun q => q.s[i.toNat]? else none
def toldF (kind to_ f : Int) : Nat → List Slt → List (Int × Int)
 | _, [] => []
 | j, x :: l => (if x.kind = kind ∧ x.to_ = to_ then [(f, (j : Int))] else []) ++ toldF kind to_ f (j + 1) l
def toldP (kind to_ : Int) (L : List Pg) : List (Int × Int) := L.flatMap fun q => toldF kind to_ q.f 0 q.s
def ofP (L : List Pg) (g : Int) : List Int := (L.filter fun p => decide (p.k.role = 0 ∧ p.k.g = g)).map Pg.f
def entS (x : Slt) (f : Int) : Ent := ⟨true, x.r.w, x.r.u, false, false, false, !x.r.x, false, f⟩
def wordS (x : Slt) (f : Int) : Int := if x.kind = 0 then 0 else (putV (entS x f) : Nat)
def setP (L : List Pg) (p : Int) (i : Nat) (x : Slt) : List Pg := L.map fun q => if q.f = p then { q with s := q.s.set i x } else q
def setS (n : Nat) (s : Sr) (p i : Int) (x : Slt) (f : Int) : Sr := ⟨setP s.L p i.toNat x, s.fr, setW n s.W p i (wordS x f)⟩
def hasS (s : Sr) (p i : Int) : Bool := (pgAt s.L p).isSome && decide (0 ≤ i ∧ i ≤ 7)
def levP (L : List Pg) (p : Int) : Int := ((pgAt L p).map fun q => q.k.lev).getD 0
def makeB (s : Sr) (k : Ky) : Bool := (pgOf s.L k).isNone && k.right && !s.fr.isEmpty
def makeS (n : Nat) (s : Sr) (k : Ky) : Sr := if makeB s k then ⟨s.L ++ [⟨s.fr.getLastD 0, k, List.replicate 8 Slt.no⟩], s.fr.dropLast, fillW n s.W (s.fr.getLastD 0) (zeros 8)⟩ else s
def makeV (s : Sr) (k : Ky) : Int := if makeB s k then s.fr.getLastD 0 else 0
def childB (s : Sr) (p i c : Int) : Bool := hasS s p i && (pgAt s.L c).isSome && decide (levP s.L c = levP s.L p - 1)
def childS (n : Nat) (s : Sr) (p i c : Int) (r : Rg) : Sr := if childB s p i c then setS n s p i ⟨1, c, r⟩ c else s
def leafB (n : Nat) (s : Sr) (p i h : Int) : Bool := hasS s p i && decide (levP s.L p = 1) && decide (0 ≤ h ∧ h < n)
def leafS (n : Nat) (s : Sr) (p i g h : Int) (r : Rg) : Sr := if leafB n s p i h then setS n s p i ⟨2, g, r⟩ h else s
def clearB (s : Sr) (p i : Int) : Bool := match slotP s.L p i with | some x => decide (x.kind ≠ 0) | none => false
def clearS (n : Nat) (s : Sr) (p i : Int) : Sr := if clearB s p i then setS n s p i Slt.no 0 else s
abbrev Up := Int → Nat → Option (Slt × Int)
def updX (u : Option (Slt × Int)) (x : Slt) : Slt := (u.map (·.1)).getD x
def updV (u : Option (Slt × Int)) (v : Int) : Int := (u.map (·.2)).getD v
def updP (L : List Pg) (u : Up) : List Pg := L.map fun q => { q with s := q.s.mapIdx fun i x => updX (u q.f i) x }
def updW (L : List Pg) (W : List Int) (u : Up) : List Int := W.mapIdx fun j v => if (pgAt L ((j / 8 : Nat) : Int)).isSome then updV (u ((j / 8 : Nat) : Int) (j % 8)) v else v
def updS (s : Sr) (u : Up) : Sr := ⟨updP s.L u, s.fr, updW s.L s.W u⟩
def wipeU (c : Int → Nat → Bool) : Up := fun f i => if c f i then some (Slt.no, 0) else none
def wipeS (s : Sr) (c : Int → Nat → Bool) : Sr := updS s (wipeU c)
def oneU (p : Int) (i : Nat) (x : Slt) (v : Int) : Up := fun f j => if f = p ∧ j = i then some (x, v) else none
def goneC (L : List Pg) (p : Int) (f : Int) (i : Nat) : Bool := decide (f = p) || (match slotP L f i with | some x => decide (x.kind = 1 ∧ x.to_ = p) | none => false)
def dropB (s : Sr) (p : Int) : Bool := (pgAt s.L p).isSome
def dropS (s : Sr) (p : Int) : Sr := if dropB s p then ⟨(wipeS s (goneC s.L p)).L.filter fun q => decide (q.f ≠ p), s.fr ++ [p], (wipeS s (goneC s.L p)).W⟩ else s
structure SrOk (n a m : Nat) (s : Sr) : Prop where
 le : a + m ≤ n
 n256 : n ≤ 256
 len : s.W.length = 8 * n
 nd : (s.L.map Pg.f ++ s.fr).Nodup
 mem : ∀ f ∈ s.L.map Pg.f ++ s.fr, (a : Int) ≤ f ∧ f < a + m
 cnt : s.L.length + s.fr.length = m
 keys : (s.L.map Pg.k).Nodup
 right : ∀ q ∈ s.L, q.k.right = true
 eight : ∀ q ∈ s.L, q.s.length = 8
 kinds : ∀ q ∈ s.L, ∀ x ∈ q.s, x.kind = 0 ∧ x = Slt.no ∨ (x.kind = 1 ∧ ∃ c, pgAt s.L x.to_ = some c ∧ c.k.lev = q.k.lev - 1) ∨ x.kind = 2 ∧ q.k.lev = 1
 words : ∀ q ∈ s.L, ∀ (i : Nat) (x : Slt), q.s[i]? = some x → ∃ h : Int, 0 ≤ h ∧ h < 1048576 ∧ (x.kind = 1 → h = x.to_) ∧ s.W[q.f.toNat * 8 + i]? = some (wordS x h)
section
variable {n a m : Nat} {s : Sr}
theorem pgAt_mem {L : List Pg} {f : Int} {q : Pg} (h : pgAt L f = some q) : q ∈ L ∧ q.f = f := by
 unfold pgAt at h
 exact ⟨List.mem_of_find?_eq_some h, by have := List.find?_some h; simpa using this⟩
theorem pgOf_mem {L : List Pg} {k : Ky} {q : Pg} (h : pgOf L k = some q) : q ∈ L ∧ q.k = k := by
 unfold pgOf at h
 exact ⟨List.mem_of_find?_eq_some h, by have := List.find?_some h; simpa using this⟩
theorem pgAt_none {L : List Pg} {f : Int} : pgAt L f = none ↔ ∀ q ∈ L, q.f ≠ f := by
 unfold pgAt; rw [List.find?_eq_none]; simp
theorem pgOf_none {L : List Pg} {k : Ky} : pgOf L k = none ↔ ∀ q ∈ L, q.k ≠ k := by
 unfold pgOf; rw [List.find?_eq_none]; simp
theorem pgAt_self {L : List Pg} (h : (L.map Pg.f).Nodup) {q : Pg} (hq : q ∈ L) : pgAt L q.f = some q := by
 unfold pgAt
 induction L with
 | nil => simp at hq
 | cons x L ih =>
  rw [List.map_cons, List.nodup_cons] at h
  rw [List.find?_cons]
  by_cases e : x.f = q.f
  ·rcases List.mem_cons.1 hq with rfl | hq
   ·simp
   exact absurd (List.mem_map.2 ⟨q, hq, rfl⟩) (e ▸ h.1)
  rcases List.mem_cons.1 hq with rfl | hq
  ·exact absurd rfl e
  rw [show (x.f == q.f) = false by simpa using e]; exact ih h.2 hq
theorem pgOf_self {L : List Pg} (h : (L.map Pg.k).Nodup) {q : Pg} (hq : q ∈ L) : pgOf L q.k = some q := by
 unfold pgOf
 induction L with
 | nil => simp at hq
 | cons x L ih =>
  rw [List.map_cons, List.nodup_cons] at h
  rw [List.find?_cons]
  by_cases e : x.k = q.k
  ·rcases List.mem_cons.1 hq with rfl | hq
   ·simp
   exact absurd (List.mem_map.2 ⟨q, hq, rfl⟩) (e ▸ h.1)
  rcases List.mem_cons.1 hq with rfl | hq
  ·exact absurd rfl e
  rw [show decide (x.k = q.k) = false by simpa using e]; exact ih h.2 hq
theorem SrOk.ndL (h : SrOk n a m s) : (s.L.map Pg.f).Nodup := (List.nodup_append.1 h.nd).1
theorem SrOk.inL (h : SrOk n a m s) {q : Pg} (hq : q ∈ s.L) : (a : Int) ≤ q.f ∧ q.f < a + m := h.mem _ (by simp; exact .inl ⟨q, hq, rfl⟩)
theorem SrOk.at_ (h : SrOk n a m s) {q : Pg} (hq : q ∈ s.L) : pgAt s.L q.f = some q := pgAt_self h.ndL hq
theorem SrOk.of_ (h : SrOk n a m s) {q : Pg} (hq : q ∈ s.L) : pgOf s.L q.k = some q := pgOf_self h.keys hq
theorem setP_map {L : List Pg} (p : Int) (i : Nat) (x : Slt) : (setP L p i x).map Pg.f = L.map Pg.f ∧ (setP L p i x).map Pg.k = L.map Pg.k ∧ (setP L p i x).length = L.length := by
 unfold setP
 refine ⟨?_, ?_, List.length_map _⟩ <;> (rw [List.map_map]; apply List.map_congr_left; intro q _; simp only [Function.comp]; split <;> rfl)
theorem pgAt_map {L : List Pg} (g : Pg → Pg) (hg : ∀ q, (g q).f = q.f) (f : Int) : pgAt (L.map g) f = (pgAt L f).map g := by
 unfold pgAt
 have e : ((fun p : Pg => p.f == f) ∘ g) = fun p => p.f == f := by funext q; simp [hg]
 rw [List.find?_map, e]
theorem pgOf_map {L : List Pg} (g : Pg → Pg) (hg : ∀ q, (g q).k = q.k) (k : Ky) : pgOf (L.map g) k = (pgOf L k).map g := by
 unfold pgOf
 have e : ((fun p : Pg => decide (p.k = k)) ∘ g) = fun p => decide (p.k = k) := by funext q; simp [hg]
 rw [List.find?_map, e]
theorem pgAt_setP {L : List Pg} (p : Int) (i : Nat) (x : Slt) (f : Int) : pgAt (setP L p i x) f = (pgAt L f).map fun q => if q.f = p then { q with s := q.s.set i x } else q :=
 pgAt_map _ (fun q => by split <;> rfl) f
theorem slot_setP {L : List Pg} (p : Int) (i : Nat) (x : Slt) (f j : Int) (h8 : ∀ q ∈ L, q.s.length = 8) (hi : i < 8) :
  slotP (setP L p i x) f j = if f = p ∧ j = i then (slotP L f j).map fun _ => x else slotP L f j := by
 unfold slotP
 rw [pgAt_setP]
 by_cases hj : 0 ≤ j ∧ j ≤ 7
 ·rw [if_pos hj]
  cases e : pgAt L f with
  | none => simp
  | some q =>
   obtain ⟨hq, rfl⟩ := pgAt_mem e
   have := h8 q hq
   simp only [Option.map_some, Option.bind_some]
   by_cases hp : q.f = p
   ·simp only [hp, if_true, true_and]
    rw [List.getElem?_set]
    by_cases hji : j = i
    ·subst hji; simp [this, hi]; omega
    rw [if_neg (by omega), if_neg hji]; simp [hj]
   simp [hp, hj]
 rw [if_neg hj]; simp [hj]
theorem lev_setP {L : List Pg} (p : Int) (i : Nat) (x : Slt) (f : Int) : levP (setP L p i x) f = levP L f := by
 unfold levP; rw [pgAt_setP]
 cases pgAt L f with
 | none => rfl
 | some q => simp only [Option.map_some, Option.getD_some]; split <;> rfl
theorem some_setP {L : List Pg} (p : Int) (i : Nat) (x : Slt) (f : Int) : (pgAt (setP L p i x) f).isSome = (pgAt L f).isSome := by
 rw [pgAt_setP, Option.isSome_map]
theorem hasS_has (h : SrOk n a m s) {p i : Int} (hb : hasS s p i = true) : ∃ q, pgAt s.L p = some q ∧ q ∈ s.L ∧ q.f = p ∧ 0 ≤ i ∧ i ≤ 7 ∧ (a : Int) ≤ p ∧ p < a + m ∧ hasW n p i = true := by
 unfold hasS at hb
 rw [Bool.and_eq_true, decide_eq_true_eq] at hb
 obtain ⟨hs, h0, h7⟩ := hb
 cases e : pgAt s.L p with
 | none => rw [e] at hs; simp at hs
 | some q =>
  obtain ⟨hq, rfl⟩ := pgAt_mem e
  have := h.inL hq
  have hle := h.le
  refine ⟨q, rfl, hq, rfl, h0, h7, this.1, this.2, ?_⟩
  unfold hasW; rw [decide_eq_true_eq]; omega
theorem mem_setP {L : List Pg} {p : Int} {i : Nat} {x : Slt} {q' : Pg} (h : q' ∈ setP L p i x) : ∃ q ∈ L, q'.f = q.f ∧ q'.k = q.k ∧ q'.s = if q.f = p then q.s.set i x else q.s := by
 unfold setP at h
 rw [List.mem_map] at h
 obtain ⟨q, hq, rfl⟩ := h
 refine ⟨q, hq, ?_⟩
 split <;> exact ⟨rfl, rfl, rfl⟩
theorem SrOk.set (h : SrOk n a m s) {p i f : Int} {x : Slt} (hb : hasS s p i = true) (hx : x.kind = 0 ∧ x = Slt.no ∨ (x.kind = 1 ∧ ∃ c, pgAt s.L x.to_ = some c ∧ c.k.lev = levP s.L p - 1) ∨ x.kind = 2 ∧ levP s.L p = 1)
  (hf : 0 ≤ f ∧ f < 1048576) (h1 : x.kind = 1 → f = x.to_) : SrOk n a m (setS n s p i x f) := by
 obtain ⟨q0, e0, hq0, rfl, hi0, hi7, _, _, hW⟩ := hasS_has h hb
 have hlev : levP s.L q0.f = q0.k.lev := by unfold levP; rw [e0]; rfl
 rw [hlev] at hx
 have hm := setP_map (L := s.L) q0.f i.toNat x
 have hge := h.inL hq0
 refine ⟨h.le, h.n256, ?_, ?_, ?_, ?_, ?_, ?_, ?_, ?_, ?_⟩
 ·show (setW n s.W _ _ _).length = _; rw [setW_len]; exact h.len
 ·show ((setP s.L _ _ _).map Pg.f ++ s.fr).Nodup; rw [hm.1]; exact h.nd
 ·show ∀ f ∈ (setP s.L _ _ _).map Pg.f ++ s.fr, _; rw [hm.1]; exact h.mem
 ·show (setP s.L _ _ _).length + s.fr.length = m; rw [hm.2.2]; exact h.cnt
 ·show ((setP s.L _ _ _).map Pg.k).Nodup; rw [hm.2.1]; exact h.keys
 ·intro q' hq'
  obtain ⟨q, hq, _, hk, _⟩ := mem_setP hq'
  rw [hk]; exact h.right q hq
 ·intro q' hq'
  obtain ⟨q, hq, _, _, hs⟩ := mem_setP hq'
  rw [hs]; split
  ·rw [List.length_set]; exact h.eight q hq
  exact h.eight q hq
 ·intro q' hq' y hy
  obtain ⟨q, hq, hf', hk, hs⟩ := mem_setP hq'
  have hkid : ∀ t, (∃ c, pgAt s.L t = some c ∧ c.k.lev = q.k.lev - 1) → ∃ c, pgAt (setP s.L q0.f i.toNat x) t = some c ∧ c.k.lev = q'.k.lev - 1 := by
   rintro t ⟨c, hc, hl⟩
   rw [pgAt_setP, hc]
   refine ⟨_, rfl, ?_⟩
   rw [hk, ← hl]; dsimp only; split <;> rfl
  have hold : ∀ y ∈ q.s, y.kind = 0 ∧ y = Slt.no ∨ (y.kind = 1 ∧ ∃ c, pgAt (setP s.L q0.f i.toNat x) y.to_ = some c ∧ c.k.lev = q'.k.lev - 1) ∨ y.kind = 2 ∧ q'.k.lev = 1 := by
   intro y hy
   rcases h.kinds q hq y hy with h | ⟨h, h'⟩ | ⟨h, h'⟩
   ·exact .inl h
   ·exact .inr (.inl ⟨h, hkid _ h'⟩)
   exact .inr (.inr ⟨h, by rw [hk]; exact h'⟩)
  rw [hs] at hy
  split at hy
  ·rename_i hqp
   have hqq : q = q0 := by
    have := h.at_ hq; rw [hqp, e0] at this; injection this with this; exact this.symm
   rcases List.mem_or_eq_of_mem_set hy with hy | rfl
   ·exact hold y hy
   subst hqq
   rcases hx with h | ⟨h, h'⟩ | ⟨h, h'⟩
   ·exact .inl h
   ·exact .inr (.inl ⟨h, hkid _ h'⟩)
   exact .inr (.inr ⟨h, by rw [hk]; exact h'⟩)
  exact hold y hy
 intro q' hq' j y hy
 obtain ⟨q, hq, hf', hk, hs⟩ := mem_setP hq'
 show ∃ g, _ ∧ _ ∧ _ ∧ (setW n s.W q0.f i (wordS x f))[_]? = _
 have hqn := h.inL hq
 have h8 := h.eight q hq
 unfold setW
 rw [if_pos hW, hf']
 have hj : j < 8 := by
  have := (List.getElem?_eq_some_iff.1 hy).1
  rw [hs] at this; split at this
  ·rw [List.length_set] at this; omega
  omega
 have hlen := h.len
 have hle := h.le
 by_cases hme : q.f = q0.f ∧ j = i.toNat
 ·obtain ⟨hqp, rfl⟩ := hme
  rw [hs, if_pos hqp, List.getElem?_set] at hy
  simp only [if_true] at hy
  rw [if_pos (by omega)] at hy
  injection hy with hy; subst hy
  refine ⟨f, hf.1, hf.2, h1, ?_⟩
  rw [hqp, List.getElem?_set, if_pos rfl, if_pos (by omega)]
 have hy' : q.s[j]? = some y := by
  rw [hs] at hy
  split at hy
  ·rename_i hqp
   rw [List.getElem?_set, if_neg (fun e => hme ⟨hqp, e.symm⟩)] at hy; exact hy
  exact hy
 obtain ⟨g, g0, g1, g2, g3⟩ := h.words q hq j y hy'
 refine ⟨g, g0, g1, g2, ?_⟩
 rw [List.getElem?_set, if_neg (fun e => hme ?_)]
 ·exact g3
 exact ⟨by omega, by omega⟩
theorem SrOk.child (h : SrOk n a m s) (p i c : Int) (r : Rg) : SrOk n a m (childS n s p i c r) := by
 unfold childS
 split
 ·rename_i hb
  unfold childB at hb
  simp only [Bool.and_eq_true, decide_eq_true_eq] at hb
  obtain ⟨⟨hs, hc⟩, hl⟩ := hb
  cases e : pgAt s.L c with
  | none => rw [e] at hc; simp at hc
  | some q =>
   obtain ⟨hq, rfl⟩ := pgAt_mem e
   have hqn := h.inL hq
   have := h.le; have := h.n256
   refine h.set hs (.inr (.inl ⟨rfl, q, e, ?_⟩)) ⟨by omega, by omega⟩ (fun _ => rfl)
   rw [← hl]; unfold levP; rw [e]; rfl
 exact h
theorem SrOk.leaf (h : SrOk n a m s) (p i g f : Int) (r : Rg) : SrOk n a m (leafS n s p i g f r) := by
 unfold leafS
 split
 ·rename_i hb
  unfold leafB at hb
  simp only [Bool.and_eq_true, decide_eq_true_eq] at hb
  obtain ⟨⟨hs, hl⟩, hf⟩ := hb
  have := h.n256
  exact h.set hs (.inr (.inr ⟨rfl, hl⟩)) ⟨by omega, by omega⟩ (fun e => by simp at e)
 exact h
theorem slotP_has {L : List Pg} {p i : Int} {x : Slt} (hx : slotP L p i = some x) : ∃ q, pgAt L p = some q ∧ 0 ≤ i ∧ i ≤ 7 ∧ q.s[i.toNat]? = some x := by
 unfold slotP at hx
 split at hx
 ·rename_i hi
  cases e : pgAt L p with
  | none => rw [e] at hx; simp at hx
  | some q => rw [e] at hx; exact ⟨q, rfl, hi.1, hi.2, hx⟩
 simp at hx
theorem slot_hasS {p i : Int} {x : Slt} (hx : slotP s.L p i = some x) : hasS s p i = true := by
 obtain ⟨q, e, h0, h7, _⟩ := slotP_has hx
 unfold hasS; rw [e]; simp [h0, h7]
theorem SrOk.clear (h : SrOk n a m s) (p i : Int) : SrOk n a m (clearS n s p i) := by
 unfold clearS
 split
 ·rename_i hb
  unfold clearB at hb
  cases e : slotP s.L p i with
  | none => rw [e] at hb; simp at hb
  | some x => exact h.set (slot_hasS e) (.inl ⟨rfl, rfl⟩) ⟨by omega, by omega⟩ (fun e => by simp [Slt.no] at e)
 exact h
end
section
variable {n a m : Nat} {s : Sr}
theorem last_app {l : List Int} (h : l.isEmpty = false) : l = l.dropLast ++ [l.getLastD 0] := by
 have hne : l ≠ [] := by intro e; subst e; simp at h
 rw [List.getLastD_eq_getLast?, List.getLast?_eq_some_getLast hne, Option.getD_some]
 exact (List.dropLast_concat_getLast hne).symm
theorem makeB_has {k : Ky} (hb : makeB s k = true) : pgOf s.L k = none ∧ k.right = true ∧ s.fr = s.fr.dropLast ++ [s.fr.getLastD 0] := by
 unfold makeB at hb
 simp only [Bool.and_eq_true, Bool.not_eq_true', Option.isNone_iff_eq_none] at hb
 exact ⟨hb.1.1, hb.1.2, last_app hb.2⟩
theorem pgAt_app {L M : List Pg} {f : Int} {q : Pg} (h : pgAt L f = some q) : pgAt (L ++ M) f = some q := by
 unfold pgAt at h ⊢; rw [List.find?_append, h]; rfl
theorem pgAt_app_no {L M : List Pg} {f : Int} (h : pgAt L f = none) : pgAt (L ++ M) f = pgAt M f := by
 unfold pgAt at h ⊢; rw [List.find?_append, h]; rfl
theorem SrOk.make (h : SrOk n a m s) (k : Ky) : SrOk n a m (makeS n s k) := by
 unfold makeS
 split
 ·rename_i hb
  obtain ⟨hk, hr, hfr⟩ := makeB_has hb
  generalize s.fr.getLastD 0 = f at *
  generalize s.fr.dropLast = F at *
  have hnd := h.nd
  have hmem := h.mem
  have hcnt := h.cnt
  rw [hfr] at hnd hmem hcnt
  have hf := hmem f (by simp)
  have hle := h.le
  have hn := h.n256
  have hlen := h.len
  have hne : ∀ q ∈ s.L, q.f ≠ f := by
   intro q hq e
   have := (List.nodup_append.1 hnd).2.2 _ (List.mem_map.2 ⟨q, hq, rfl⟩) f (by simp)
   exact this e
  have hno : pgAt s.L f = none := pgAt_none.2 hne
  refine ⟨h.le, h.n256, by show (fillW _ _ _ _).length = _; rw [fillW_len]; exact h.len, ?_, ?_, ?_, ?_, ?_, ?_, ?_, ?_⟩
  ·show ((s.L ++ [_]).map Pg.f ++ F).Nodup
   rw [List.map_append, List.append_assoc]
   refine (List.Perm.nodup_iff ?_).1 hnd
   exact List.Perm.append_left _ (List.perm_append_comm)
  ·intro g hg
   have hg : g ∈ (s.L ++ [Pg.mk f k (List.replicate 8 Slt.no)]).map Pg.f ++ F := hg
   refine hmem g ?_
   simp only [List.map_append, List.mem_append, List.map_cons, List.map_nil, List.mem_cons, List.not_mem_nil, or_false] at hg ⊢
   rcases hg with (hg | hg) | hg
   ·exact .inl hg
   ·exact .inr (.inr hg)
   exact .inr (.inl hg)
  ·show (s.L ++ [_]).length + F.length = m
   simp at hcnt ⊢; omega
  ·show ((s.L ++ [_]).map Pg.k).Nodup
   rw [List.map_append, List.nodup_append]
   refine ⟨h.keys, by simp, ?_⟩
   intro x hx y hy e
   simp at hy
   obtain ⟨q, hq, rfl⟩ := List.mem_map.1 hx
   exact pgOf_none.1 hk q hq (e.trans hy)
  ·intro q hq
   rcases List.mem_append.1 hq with hq | hq
   ·exact h.right q hq
   simp at hq; subst hq; exact hr
  ·intro q hq
   rcases List.mem_append.1 hq with hq | hq
   ·exact h.eight q hq
   simp at hq; subst hq; rfl
  ·intro q hq x hx
   rcases List.mem_append.1 hq with hq | hq
   ·rcases h.kinds q hq x hx with h | ⟨h, c, h', hl⟩ | h
    ·exact .inl h
    ·exact .inr (.inl ⟨h, c, pgAt_app h', hl⟩)
    exact .inr (.inr h)
   simp only [List.mem_cons, List.not_mem_nil, or_false] at hq; subst hq
   have := List.eq_of_mem_replicate hx
   subst this
   exact .inl ⟨rfl, rfl⟩
  intro q hq i x hx
  show ∃ g, _ ∧ _ ∧ _ ∧ (fillW n s.W f (zeros 8))[_]? = _
  rw [fill_at (by omega) hlen]
  rcases List.mem_append.1 hq with hq | hq
  ·obtain ⟨g, g0, g1, g2, g3⟩ := h.words q hq i x hx
   have hi := (List.getElem?_eq_some_iff.1 hx).1
   rw [h.eight q hq] at hi
   have hq2 := h.inL hq
   have := hne q hq
   exact ⟨g, g0, g1, g2, by rw [if_neg (by omega)]; exact g3⟩
  simp only [List.mem_cons, List.not_mem_nil, or_false] at hq; subst hq
  simp only at hx ⊢
  rw [List.getElem?_replicate] at hx
  split at hx
  ·injection hx with hx; subst hx
   refine ⟨0, by omega, by omega, fun e => by simp [Slt.no] at e, ?_⟩
   rw [if_pos (by omega)]; rfl
  simp at hx
 exact h
theorem updP_map (L : List Pg) (u : Up) : (updP L u).map Pg.f = L.map Pg.f ∧ (updP L u).map Pg.k = L.map Pg.k ∧ (updP L u).length = L.length := by
 unfold updP
 refine ⟨?_, ?_, by simp⟩ <;> (rw [List.map_map]; rfl)
theorem pgAt_upd (L : List Pg) (u : Up) (f : Int) : pgAt (updP L u) f = (pgAt L f).map fun q => { q with s := q.s.mapIdx fun i x => updX (u q.f i) x } :=
 pgAt_map (fun q => { q with s := q.s.mapIdx fun i x => updX (u q.f i) x }) (fun _ => rfl) f
theorem some_upd (L : List Pg) (u : Up) (f : Int) : (pgAt (updP L u) f).isSome = (pgAt L f).isSome := by
 rw [pgAt_upd, Option.isSome_map]
theorem updS_L (s : Sr) (u : Up) : (updS s u).L = updP s.L u := rfl
theorem updS_W (s : Sr) (u : Up) : (updS s u).W = updW s.L s.W u := rfl
theorem setS_L (n : Nat) (s : Sr) (p i : Int) (x : Slt) (f : Int) : (setS n s p i x f).L = setP s.L p i.toNat x := rfl
theorem setS_W (n : Nat) (s : Sr) (p i : Int) (x : Slt) (f : Int) : (setS n s p i x f).W = setW n s.W p i (wordS x f) := rfl
theorem lev_upd (L : List Pg) (u : Up) (f : Int) : levP (updP L u) f = levP L f := by
 unfold levP; rw [pgAt_upd]; cases pgAt L f <;> rfl
theorem of_upd (L : List Pg) (u : Up) (g : Int) : ofP (updP L u) g = ofP L g := by
 unfold ofP updP
 rw [List.filter_map, List.map_map]; rfl
theorem upd_upd (s : Sr) (u v : Up) : updS (updS s u) v = updS s fun f i => (v f i).or (u f i) := by
 refine Sr.ext_ ?_ rfl ?_
 ·rw [updS_L, updS_L, updS_L]
  unfold updP
  rw [List.map_map]
  apply List.map_congr_left
  intro q _
  refine Pg.ext_ rfl rfl ?_
  show List.mapIdx _ (List.mapIdx _ _) = _
  rw [List.mapIdx_mapIdx]
  congr 1
  funext i x
  simp only [Function.comp]
  cases v q.f i <;> rfl
 rw [updS_W, updS_W, updS_W, updS_L]
 unfold updW
 rw [List.mapIdx_mapIdx]
 congr 1
 funext j x
 simp only [some_upd, Function.comp]
 generalize ((j / 8 : Nat) : Int) = e
 generalize j % 8 = r
 by_cases h0 : (pgAt s.L e).isSome = true
 ·simp only [h0, if_true]; cases v e r <;> rfl
 simp only [h0]; rfl
theorem slot_upd (L : List Pg) (u : Up) (f i : Int) : slotP (updP L u) f i = (slotP L f i).map fun x => updX (u f i.toNat) x := by
 unfold slotP
 split
 ·rw [pgAt_upd]
  cases e : pgAt L f with
  | none => rfl
  | some q =>
   obtain ⟨_, rfl⟩ := pgAt_mem e
   simp only [Option.map_some, Option.bind_some, List.getElem?_mapIdx]
 rfl
theorem mem_upd {L : List Pg} {u : Up} {q' : Pg} (h : q' ∈ updP L u) : ∃ q ∈ L, q'.f = q.f ∧ q'.k = q.k ∧ q'.s = q.s.mapIdx fun i x => updX (u q.f i) x := by
 unfold updP at h
 rw [List.mem_map] at h
 obtain ⟨q, hq, rfl⟩ := h
 exact ⟨q, hq, rfl, rfl, rfl⟩
def SltOk (L : List Pg) (lev : Int) (x : Slt) : Prop := x.kind = 0 ∧ x = Slt.no ∨ (x.kind = 1 ∧ ∃ c, pgAt L x.to_ = some c ∧ c.k.lev = lev - 1) ∨ x.kind = 2 ∧ lev = 1
def WrdOk (x : Slt) (v : Int) : Prop := ∃ h : Int, 0 ≤ h ∧ h < 1048576 ∧ (x.kind = 1 → h = x.to_) ∧ v = wordS x h
theorem WrdOk.no : WrdOk Slt.no 0 := ⟨0, by omega, by omega, fun e => by simp [Slt.no] at e, rfl⟩
theorem SltOk.upd {L : List Pg} {u : Up} {lev : Int} {x : Slt} (h : SltOk L lev x) : SltOk (updP L u) lev x := by
 rcases h with h | ⟨h, c, h', hl⟩ | h
 ·exact .inl h
 ·have e := pgAt_upd L u x.to_
  rw [h', Option.map_some] at e
  exact .inr (.inl ⟨h, _, e, hl⟩)
 exact .inr (.inr h)
theorem SrOk.upd (h : SrOk n a m s) (u : Up) (hu : ∀ q ∈ s.L, ∀ i < 8, ∀ y v, u q.f i = some (y, v) → SltOk s.L q.k.lev y ∧ WrdOk y v) : SrOk n a m (updS s u) := by
 have hm := updP_map s.L u
 refine ⟨h.le, h.n256, ?_, ?_, ?_, ?_, ?_, ?_, ?_, ?_, ?_⟩
 ·show (updW s.L s.W u).length = _; unfold updW; rw [List.length_mapIdx]; exact h.len
 ·show ((updP s.L u).map Pg.f ++ s.fr).Nodup; rw [hm.1]; exact h.nd
 ·show ∀ f ∈ (updP s.L u).map Pg.f ++ s.fr, _; rw [hm.1]; exact h.mem
 ·show (updP s.L u).length + s.fr.length = m; rw [hm.2.2]; exact h.cnt
 ·show ((updP s.L u).map Pg.k).Nodup; rw [hm.2.1]; exact h.keys
 ·intro q' hq'
  obtain ⟨q, hq, _, hk, _⟩ := mem_upd hq'
  rw [hk]; exact h.right q hq
 ·intro q' hq'
  obtain ⟨q, hq, _, _, hs⟩ := mem_upd hq'
  rw [hs, List.length_mapIdx]; exact h.eight q hq
 ·intro q' hq' y hy
  obtain ⟨q, hq, hf', hk, hs⟩ := mem_upd hq'
  rw [hs, List.mem_mapIdx] at hy
  obtain ⟨i, hi, rfl⟩ := hy
  rw [hk]
  show SltOk (updP s.L u) q.k.lev _
  cases e : u q.f i with
  | none => exact SltOk.upd (h.kinds q hq _ (List.getElem_mem hi))
  | some y => exact SltOk.upd (hu q hq i (by rw [← h.eight q hq]; exact hi) y.1 y.2 e).1
 intro q' hq' i y hy
 obtain ⟨q, hq, hf', hk, hs⟩ := mem_upd hq'
 have hq2 := h.inL hq
 rw [hs, List.getElem?_mapIdx] at hy
 cases e : q.s[i]? with
 | none => rw [e] at hy; simp at hy
 | some x =>
  rw [e, Option.map_some] at hy
  injection hy with hy
  have hi := (List.getElem?_eq_some_iff.1 e).1
  rw [h.eight q hq] at hi
  obtain ⟨g, g0, g1, g2, g3⟩ := h.words q hq i x e
  show ∃ g, _ ∧ _ ∧ _ ∧ (updW s.L s.W u)[_]? = _
  unfold updW
  rw [hf', List.getElem?_mapIdx, g3, Option.map_some]
  have e1 : (q.f.toNat * 8 + i) / 8 = q.f.toNat := by omega
  have e2 : (q.f.toNat * 8 + i) % 8 = i := by omega
  have e3 : ((q.f.toNat : Nat) : Int) = q.f := by omega
  rw [e1, e2, e3, h.at_ hq]
  simp only [Option.isSome_some, if_true]
  cases hc : u q.f i with
  | none => rw [hc] at hy; subst hy; exact ⟨g, g0, g1, g2, rfl⟩
  | some z =>
   rw [hc] at hy; subst hy
   obtain ⟨g', k0, k1, k2, k3⟩ := (hu q hq i hi z.1 z.2 hc).2
   exact ⟨g', k0, k1, k2, by show some z.2 = some (wordS z.1 g'); rw [k3]⟩
theorem SrOk.set_upd (h : SrOk n a m s) {p i : Int} (x : Slt) (f : Int) (hb : hasS s p i = true) : setS n s p i x f = updS s (oneU p i.toNat x (wordS x f)) := by
 obtain ⟨q0, e, hq0, rfl, hi0, hi7, _, _, hW⟩ := hasS_has h hb
 have hq2 := h.inL hq0
 refine Sr.ext_ ?_ rfl ?_
 ·rw [setS_L, updS_L]
  unfold updP setP
  apply List.map_congr_left
  intro q hq
  by_cases hf : q.f = q0.f
  ·rw [if_pos hf]
   refine Pg.ext_ rfl rfl ?_
   show q.s.set _ _ = List.mapIdx _ _
   apply List.ext_getElem?
   intro j; rw [List.getElem?_mapIdx, List.getElem?_set]
   by_cases hj : i.toNat = j
   ·subst hj
    rw [if_pos rfl]
    have := h.eight q hq
    rw [if_pos (by omega), List.getElem?_eq_getElem (by omega)]; simp [oneU, hf, updX]
   rw [if_neg hj]
   have : oneU q0.f i.toNat x (wordS x f) q.f j = none := by unfold oneU; rw [if_neg]; intro h; exact hj h.2.symm
   rw [this]; cases q.s[j]? <;> rfl
  rw [if_neg hf]
  refine Pg.ext_ rfl rfl ?_
  show q.s = List.mapIdx _ _
  apply List.ext_getElem?
  intro j; rw [List.getElem?_mapIdx]
  have : oneU q0.f i.toNat x (wordS x f) q.f j = none := by unfold oneU; rw [if_neg]; intro h; exact hf h.1
  rw [this]; cases q.s[j]? <;> rfl
 rw [setS_W, updS_W]
 unfold setW updW
 rw [if_pos hW]
 apply List.ext_getElem?
 intro j; rw [List.getElem?_mapIdx, List.getElem?_set]
 by_cases hj : q0.f.toNat * 8 + i.toNat = j
 ·rw [if_pos hj]
  have e1 : ((j / 8 : Nat) : Int) = q0.f := by omega
  have e2 : j % 8 = i.toNat := by omega
  have := h.len
  have := h.le
  rw [e1, e2, e, if_pos (by omega), List.getElem?_eq_getElem (by omega)]; simp [oneU, updV]
 rw [if_neg hj]
 have : oneU q0.f i.toNat x (wordS x f) ((j / 8 : Nat) : Int) (j % 8) = none := by unfold oneU; rw [if_neg]; intro h; omega
 simp only [this]; cases s.W[j]? with
 | none => rfl
 | some v => simp [updV]
theorem SrOk.upd_id (h : SrOk n a m s) {u : Up} (hu : ∀ q ∈ s.L, ∀ i < 8, ∀ y, u q.f i = some y → ∃ x, q.s[i]? = some x ∧ y.1 = x ∧ s.W[q.f.toNat * 8 + i]? = some y.2) : updS s u = s := by
 refine Sr.ext_ ?_ rfl ?_
 ·rw [updS_L]; unfold updP
  rw [List.map_congr_left (g := id), List.map_id]
  intro q hq
  refine Pg.ext_ rfl rfl ?_
  show List.mapIdx _ _ = q.s
  apply List.ext_getElem?
  intro j; rw [List.getElem?_mapIdx]
  cases e : q.s[j]? with
  | none => rfl
  | some x =>
   have hj := (List.getElem?_eq_some_iff.1 e).1
   rw [h.eight q hq] at hj
   rw [Option.map_some]
   cases e2 : u q.f j with
   | none => rfl
   | some y =>
    obtain ⟨x', h1, h2, _⟩ := hu q hq j hj y e2
    rw [e] at h1; injection h1 with h1
    show some y.1 = some x
    rw [h2, ← h1]
 rw [updS_W]; unfold updW
 apply List.ext_getElem?
 intro j; rw [List.getElem?_mapIdx]
 cases e : s.W[j]? with
 | none => rfl
 | some v =>
  rw [Option.map_some]
  cases e2 : pgAt s.L ((j / 8 : Nat) : Int) with
  | none => rfl
  | some q =>
   obtain ⟨hq, hf⟩ := pgAt_mem e2
   simp only [Option.isSome_some, if_true]
   cases e3 : u ((j / 8 : Nat) : Int) (j % 8) with
   | none => rfl
   | some y =>
    obtain ⟨_, _, _, h3⟩ := hu q hq (j % 8) (by omega) y (by rw [hf]; exact e3)
    have hj : q.f.toNat * 8 + j % 8 = j := by omega
    rw [hj, e] at h3
    exact h3.symm
theorem wipe_wipe (s : Sr) (c d : Int → Nat → Bool) : wipeS (wipeS s c) d = wipeS s fun f i => c f i || d f i := by
 unfold wipeS; rw [upd_upd]; congr 1; funext f i; unfold wipeU
 by_cases h1 : c f i = true <;> by_cases h2 : d f i = true <;> simp [h1, h2]
theorem slot_wipe (s : Sr) (c : Int → Nat → Bool) (f i : Int) : slotP (wipeS s c).L f i = (slotP s.L f i).map fun x => if c f i.toNat then Slt.no else x := by
 unfold wipeS; rw [updS_L, slot_upd]; congr 1; funext x; unfold wipeU updX; split <;> rfl
theorem SrOk.wipe (h : SrOk n a m s) (c : Int → Nat → Bool) : SrOk n a m (wipeS s c) :=
 h.upd _ fun q _ i _ y v e => by
  unfold wipeU at e
  split at e
  ·injection e with e; injection e with e1 e2; subst e1; subst e2
   exact ⟨.inl ⟨rfl, rfl⟩, WrdOk.no⟩
  simp at e
theorem SrOk.no_word (h : SrOk n a m s) {q : Pg} (hq : q ∈ s.L) {i : Nat} {x : Slt} (hx : q.s[i]? = some x) (h0 : x.kind = 0) : x = Slt.no ∧ s.W[q.f.toNat * 8 + i]? = some 0 := by
 have : x = Slt.no := by
  rcases h.kinds q hq x (List.mem_of_getElem? hx) with h | ⟨h, _⟩ | ⟨h, _⟩
  ·exact h.2
  ·omega
  omega
 refine ⟨this, ?_⟩
 obtain ⟨g, _, _, _, hg⟩ := h.words q hq i x hx
 rw [hg]; unfold wordS; rw [if_pos h0]
theorem SrOk.clear_wipe (h : SrOk n a m s) (p i : Int) (hp : 0 ≤ i ∧ i ≤ 7) : clearS n s p i = wipeS s fun f j => decide (f = p ∧ j = i.toNat) := by
 have eu : wipeU (fun f j => decide (f = p ∧ j = i.toNat)) = oneU p i.toNat Slt.no 0 := by
  funext f j; unfold wipeU oneU; simp only [decide_eq_true_eq]
 unfold clearS
 split
 ·rename_i hb
  unfold clearB at hb
  cases e : slotP s.L p i with
  | none => rw [e] at hb; simp at hb
  | some x => rw [h.set_upd _ _ (slot_hasS e)]; unfold wipeS; rw [eu]; rfl
 rename_i hb
 unfold wipeS
 rw [eu, h.upd_id]
 intro q hq j hj y hy
 unfold oneU at hy
 split at hy
 ·rename_i hpj
  obtain ⟨rfl, rfl⟩ := hpj
  injection hy with hy; subst hy
  have hx : q.s[i.toNat]? = some (q.s[i.toNat]'(by rw [h.eight q hq]; exact hj)) := List.getElem?_eq_getElem _
  generalize q.s[i.toNat]'(by rw [h.eight q hq]; exact hj) = x at hx
  have hsl : slotP s.L q.f i = some x := by unfold slotP; rw [if_pos hp, h.at_ hq]; exact hx
  have h0 : x.kind = 0 := by
   unfold clearB at hb; rw [hsl] at hb
   simpa using hb
  have := h.no_word hq hx h0
  exact ⟨x, hx, this.1.symm, this.2⟩
 simp at hy
theorem pgAt_filter {L : List Pg} {p f : Int} : pgAt (L.filter fun q => decide (q.f ≠ p)) f = if f = p then none else pgAt L f := by
 split
 ·rename_i h; subst h
  rw [pgAt_none]
  intro q hq
  have := (List.mem_filter.1 hq).2
  simpa using this
 rename_i h
 unfold pgAt
 rw [List.find?_filter]
 congr 1
 funext q
 by_cases e : q.f = f
 ·subst e; simp [h]
 simp [e]
theorem slot_drop {p : Int} (hb : dropB s p = true) (f i : Int) : slotP (dropS s p).L f i = if f = p then none else (slotP s.L f i).map fun x => if x.kind = 1 ∧ x.to_ = p then Slt.no else x := by
 have e : (dropS s p).L = (wipeS s (goneC s.L p)).L.filter fun q => decide (q.f ≠ p) := by unfold dropS; rw [if_pos hb]
 rw [e]
 by_cases hf : f = p
 ·rw [if_pos hf]
  unfold slotP; rw [pgAt_filter, if_pos hf]; simp
 rw [if_neg hf]
 have : slotP ((wipeS s (goneC s.L p)).L.filter fun q => decide (q.f ≠ p)) f i = slotP (wipeS s (goneC s.L p)).L f i := by
  unfold slotP; rw [pgAt_filter, if_neg hf]
 rw [this, slot_wipe]
 cases h : slotP s.L f i with
 | none => rfl
 | some x =>
  obtain ⟨_, _, h0, _, _⟩ := slotP_has h
  have e2 : ((i.toNat : Nat) : Int) = i := by omega
  have : goneC s.L p f i.toNat = decide (x.kind = 1 ∧ x.to_ = p) := by
   unfold goneC; rw [e2, h, decide_eq_false hf]; rfl
  rw [Option.map_some, Option.map_some, this]
  simp only [decide_eq_true_eq]
theorem SrOk.drop (h : SrOk n a m s) (p : Int) : SrOk n a m (dropS s p) := by
 by_cases hb : dropB s p = true
 rotate_left
 ·unfold dropS; rw [if_neg hb]; exact h
 have H := h.wipe (goneC s.L p)
 have eL : (dropS s p).L = (wipeS s (goneC s.L p)).L.filter fun q => decide (q.f ≠ p) := by unfold dropS; rw [if_pos hb]
 have eF : (dropS s p).fr = s.fr ++ [p] := by unfold dropS; rw [if_pos hb]
 have eW : (dropS s p).W = (wipeS s (goneC s.L p)).W := by unfold dropS; rw [if_pos hb]
 unfold dropB at hb
 cases e : pgAt s.L p with
 | none => rw [e] at hb; simp at hb
 | some q0 =>
 obtain ⟨hq0, hf0⟩ := pgAt_mem e
 have hm := updP_map s.L (wipeU (goneC s.L p))
 have hnd := h.ndL
 have hperm : (s.L.map Pg.f).Perm ((s.L.map Pg.f).filter (fun f => decide (f ≠ p)) ++ [p]) := by
  have hp : p ∈ s.L.map Pg.f := List.mem_map.2 ⟨q0, hq0, hf0⟩
  have h1 : (s.L.map Pg.f).filter (fun f => decide (f ≠ p)) = (s.L.map Pg.f).erase p := by
   rw [hnd.erase_eq_filter]; apply List.filter_congr; intro x _; by_cases e : x = p <;> simp [e]
  rw [h1]
  exact (List.perm_cons_erase hp).trans (List.perm_append_comm (l₁ := [p]))
 have efs : (dropS s p).L.map Pg.f = (s.L.map Pg.f).filter fun f => decide (f ≠ p) := by
  rw [eL, ← hm.1, List.filter_map]; rfl
 have hall : ((dropS s p).L.map Pg.f ++ (dropS s p).fr).Perm (s.L.map Pg.f ++ s.fr) := by
  rw [efs, eF]
  refine List.Perm.trans ?_ (List.Perm.append_right s.fr hperm.symm)
  rw [List.append_assoc]
  exact List.Perm.append_left _ List.perm_append_comm
 have hmem : ∀ q ∈ (dropS s p).L, q ∈ (wipeS s (goneC s.L p)).L ∧ q.f ≠ p := by
  intro q hq; rw [eL, List.mem_filter] at hq; exact ⟨hq.1, by simpa using hq.2⟩
 have hpg : ∀ f c, f ≠ p → pgAt (wipeS s (goneC s.L p)).L f = some c → pgAt (dropS s p).L f = some c := by
  intro f c hf hc; rw [eL, pgAt_filter, if_neg hf]; exact hc
 refine ⟨h.le, h.n256, by rw [eW]; exact H.len, hall.nodup_iff.2 h.nd, fun f hf => h.mem f (hall.mem_iff.1 hf), ?_, ?_, fun q hq => H.right q (hmem q hq).1, fun q hq => H.eight q (hmem q hq).1, ?_, ?_⟩
 ·have := hall.length_eq
  have h2 := h.cnt
  simp only [List.length_append, List.length_map] at this
  omega
 ·rw [eL]
  exact H.keys.sublist (List.Sublist.map _ List.filter_sublist)
 ·intro q hq x hx
  obtain ⟨hq1, hqp⟩ := hmem q hq
  rcases H.kinds q hq1 x hx with h1 | ⟨h1, c, h2, h3⟩ | h1
  ·exact .inl h1
  ·refine .inr (.inl ⟨h1, c, hpg _ _ ?_ h2, h3⟩)
   intro hto
   obtain ⟨q1, hq2, ef, ek, es⟩ := mem_upd hq1
   rw [es, List.mem_mapIdx] at hx
   obtain ⟨i, hi, rfl⟩ := hx
   by_cases hg : goneC s.L p q1.f i = true
   ·unfold wipeU updX at h1; rw [if_pos hg] at h1; simp [Slt.no] at h1
   unfold wipeU updX at h1 hto; rw [if_neg hg] at h1 hto; simp only [Option.map_none, Option.getD_none] at h1 hto
   have h8 := h.eight q1 hq2
   apply hg
   unfold goneC
   have : slotP s.L q1.f (i : Int) = some q1.s[i] := by
    unfold slotP
    rw [if_pos (by omega), h.at_ hq2, Option.bind_some, Int.toNat_natCast]; exact List.getElem?_eq_getElem hi
   rw [this]; simp [h1, hto]
  exact .inr (.inr h1)
 intro q hq i x hx
 rw [eW]
 exact H.words q (hmem q hq).1 i x hx
theorem toldF_mem {kind to_ f : Int} {g : Int} {j : Int} : ∀ {l : List Slt} {k : Nat}, (g, j) ∈ toldF kind to_ f k l ↔ g = f ∧ ∃ i x, l[i]? = some x ∧ j = ((k + i : Nat) : Int) ∧ x.kind = kind ∧ x.to_ = to_
 | [], k => by simp [toldF]
 | x :: l, k => by
  rw [toldF, List.mem_append, toldF_mem]
  constructor
  ·rintro (h | ⟨rfl, i, y, hy, hj, h1, h2⟩)
   ·split at h
    ·rename_i hx
     simp only [List.mem_singleton, Prod.mk.injEq] at h
     exact ⟨h.1, 0, x, by simp, by simpa using h.2, hx.1, hx.2⟩
    simp at h
   exact ⟨rfl, i + 1, y, by simpa using hy, by rw [hj]; congr 1; omega, h1, h2⟩
  rintro ⟨rfl, i, y, hy, hj, h1, h2⟩
  cases i with
  | zero =>
   simp at hy; subst hy
   left; rw [if_pos ⟨h1, h2⟩]; simp [hj]
  | succ i =>
   right
   exact ⟨rfl, i, y, by simpa using hy, by rw [hj]; congr 1; omega, h1, h2⟩
theorem told_mem {kind to_ : Int} {L : List Pg} {g j : Int} : (g, j) ∈ toldP kind to_ L ↔ ∃ q ∈ L, g = q.f ∧ ∃ (i : Nat) (x : Slt), q.s[i]? = some x ∧ j = (i : Int) ∧ x.kind = kind ∧ x.to_ = to_ := by
 unfold toldP
 rw [List.mem_flatMap]
 constructor
 ·rintro ⟨q, hq, h⟩
  obtain ⟨e, i, x, h1, h2, h3⟩ := toldF_mem.1 h
  exact ⟨q, hq, e, i, x, h1, by simpa using h2, h3⟩
 rintro ⟨q, hq, e, i, x, h1, h2, h3⟩
 exact ⟨q, hq, toldF_mem.2 ⟨e, i, x, h1, by simpa using h2, h3⟩⟩
theorem SrOk.slot (h : SrOk n a m s) {q : Pg} (hq : q ∈ s.L) {i : Nat} (hi : i < 8) : ∃ x, q.s[i]? = some x ∧ slotP s.L q.f (i : Int) = some x := by
 have h8 := h.eight q hq
 refine ⟨q.s[i]'(by omega), List.getElem?_eq_getElem (by omega), ?_⟩
 unfold slotP
 rw [if_pos (by omega), h.at_ hq, Option.bind_some, Int.toNat_natCast]; exact List.getElem?_eq_getElem (by omega)
end
end Go.Proofs.YtmbgepafpcbakaaGreatDoor
namespace Go.Proofs.YtmbgepafpcbakaaGreatDoor
open Go.RowKit Go.Maps
def ptrElem (v : Value) : Option (DataW Unit × List MemPlace) :=
 match v with
 | .pointer none => some (.lit (.int .i64 (-1)), [])
 | .pointer (some ⟨g, 0, none⟩) => some (.lit (.int .i64 g), [])
 | _ => none
def ptrO : Option Nat → Value
 | some g => .pointer (some ⟨g, 0, none⟩)
 | none => .pointer none
def ptrD : Option Nat → Int
 | some g => g
 | none => -1
theorem ptrElem_mk (x : Option Nat) : ptrElem (ptrO x) = some (.lit (.int .i64 (ptrD x)), []) := by cases x <;> rfl
theorem ptrElem_inv {v : Value} {x : Option Nat} {ps : List MemPlace} (h : ptrElem v = some (.lit (.int .i64 (ptrD x)), ps)) : v = ptrO x := by
 unfold ptrElem at h
 split at h
 ·injection h with h; injection h with h _; injection h with h; injection h with _ h
  cases x with
  | none => rfl
  | some g => exact absurd h (by unfold ptrD; simp only; omega)
 ·injection h with h; injection h with h _; injection h with h; injection h with _ h
  cases x with
  | none => exact absurd h (by unfold ptrD; simp only; omega)
  | some g => unfold ptrD at h; simp only at h; rw [Int.ofNat_inj.1 h]; rfl
 cases h
def PtrM (P : Program) (kt : TypeId) (w : World) (b n : Nat) (F : Int → Option Nat) : Prop :=
 ∃ D : DataW Unit, w.ownsMap P kt ptrElem b n D ∧ (∀ x, Maps.has D (.int .i64 x) = (F x).isSome) ∧ (∀ x, D.atKey (.int .i64 x) (.lit (.int .i64 (-1))) = .lit (.int .i64 (ptrD (F x)))) ∧ Maps.size D = n
def putF (F : Int → Option Nat) (f : Int) (g : Nat) : Int → Option Nat := fun y => if y = f then some g else F y
def delF (F : Int → Option Nat) (f : Int) : Int → Option Nat := fun y => if y = f then none else F y
section
variable {P : Program} {kt : TypeId} {w w' : World} {b n : Nat} {F : Int → Option Nat}
theorem PtrM.lt (h : PtrM P kt w b n F) : b < w.heap.size := by obtain ⟨D, h1, _⟩ := h; exact h1.lt
theorem PtrM.made (w : World) (P : Program) (kt : TypeId) : PtrM P kt (w.alloc (.map #[] 0)) w.heap.size 0 (fun _ => none) :=
 ⟨.map [], World.ownsMap_made _ _ _ _, fun _ => rfl, fun _ => rfl, rfl⟩
theorem PtrM.congr {F' : Int → Option Nat} (h : PtrM P kt w b n F) (e : ∀ x, F x = F' x) : PtrM P kt w b n F' := by
 obtain ⟨D, h1, h2, h3, h4⟩ := h; exact ⟨D, h1, fun x => by rw [h2, e], fun x => by rw [h3, e], h4⟩
theorem PtrM.chg {T : List Nat} (h : PtrM P kt w b n F) (hc : Chg T w w') (hn : b ∉ T) : PtrM P kt w' b n F := by
 obtain ⟨D, h1, h2, h3, h4⟩ := h; exact ⟨D, ownsMap_block h1 (hc.block b h1.lt hn), h2, h3, h4⟩
theorem PtrM.blk_ne {g : Nat} {t : TypeId} {cs : Array Value} (h : PtrM P kt w b n F) (hb : Blk w g t cs) : b ≠ g := by
 obtain ⟨D, ⟨es, clock, h1, _⟩, _⟩ := h
 intro e; subst e
 have := Eq.trans (Eq.symm h1) hb
 cases this
theorem PtrM.look (h : PtrM P kt w b n F) (K : Keyed P kt) {t e : TypeId} (ht : P.underlying t = some (.map kt e)) (hkt : P.underlying kt = some (.int .i64)) (hz : ∀ w, (zeroValue e).run P w = .ok (.pointer none) w) (f : Int) (hf : (Lit.int .i64 f).wf = true) :
  (Instr.lookup t (.map (some b)) (.int .i64 f) false).run P w = .ok (ptrO (F f)) w := by
 obtain ⟨D, h1, h2, h3, h4⟩ := h
 obtain ⟨v, ps, hr, hv⟩ := h1.lookup K ht (hz w) (zd := .lit (.int .i64 (-1))) (zp := []) rfl (keyOf_int_mk hkt hf)
 rw [h3] at hv
 rw [hr, ptrElem_inv hv]
theorem ownsMap_tightP {D : DataW Unit} {m : Nat} (h : w.ownsMap P kt ptrElem b m D) : w.ownsMap P kt ptrElem b (Maps.size D) D := by
 obtain ⟨es, clock, hb, F, hs, rfl⟩ := h
 exact ⟨es, clock, hb, F, by simp [Maps.size, length_sorted], rfl⟩
theorem PtrM.store (h : PtrM P kt w b n F) (K : Keyed P kt) {t e : TypeId} (ht : P.underlying t = some (.map kt e)) (hkt : P.underlying kt = some (.int .i64)) (hn : n < maxLen) (f : Int) (hf : (Lit.int .i64 f).wf = true) (g : Nat) (hF : F f = none) :
  ∃ w', (Instr.mapUpdate t (.map (some b)) (.int .i64 f) (.pointer (some ⟨g, 0, none⟩))).run P w = .ok () w' ∧ PtrM P kt w' b (n + 1) (putF F f g) ∧ Chg [b] w w' := by
 obtain ⟨D, h1, h2, h3, h4⟩ := h
 obtain ⟨w', hr, o1, o2⟩ := h1.store K ht hn (keyOf_int_mk hkt hf) (ptrElem_mk (some g))
 refine ⟨w', hr, ⟨_, o1, fun x => ?_, fun x => ?_, ?_⟩, Chg.of_grown o2.grown⟩
 ·by_cases hx : x = f
  ·subst hx; rw [Maps.has_put_same h1.isMap (by trivial)]; simp [putF]
  rw [Maps.has_put_other (lit_ne hx), h2]; simp [putF, hx]
 ·by_cases hx : x = f
  ·subst hx; rw [Maps.atKey_put_same h1.isMap (by trivial)]; simp [putF]
  rw [Maps.atKey_put_other (lit_ne hx), h3]; simp [putF, hx]
 rw [Maps.size_put (h1.tidy K), h2, hF, h4]; rfl
end
def Slt.cl (x : Slt) : List Value := [.int .i64 x.kind, .int .i64 x.to_, .bool x.r.w, .bool x.r.u, .bool x.r.x]
def sltE : Enc Slt := ⟨Slt.cl, 5, by decide, fun _ => rfl, fun x u hu => by
 simp only [Slt.cl, List.mem_cons, List.not_mem_nil, or_false] at hu
 rcases hu with rfl | rfl | rfl | rfl | rfl <;> rfl⟩
def Pg.cl (q : Pg) : List Value := .int .i64 q.f :: .int .i64 q.k.g :: .int .i64 q.k.lev :: .int .i64 q.k.role :: sltE.all q.s
theorem Pg.cl_len (q : Pg) : q.cl.length = 4 + q.s.length * 5 := by
 unfold Pg.cl; simp only [List.length_cons]; rw [sltE.all_len, show sltE.k = 5 from rfl]; omega
def PgB (w : World) (g : Nat) (q : Pg) : Prop := Blk w g 185 q.cl.toArray
section
variable {w w' : World} {g : Nat} {q : Pg}
theorem PgB.head (h : PgB w g q) : w.cell? ⟨g, 0, none⟩ = some (.int .i64 q.f) ∧ w.cell? ⟨g, 1, none⟩ = some (.int .i64 q.k.g) ∧ w.cell? ⟨g, 2, none⟩ = some (.int .i64 q.k.lev) ∧ w.cell? ⟨g, 3, none⟩ = some (.int .i64 q.k.role) :=
 ⟨Blk.cell h 0, Blk.cell h 1, Blk.cell h 2, Blk.cell h 3⟩
theorem PgB.slot (h : PgB w g q) {i : Nat} {x : Slt} (hx : q.s[i]? = some x) : sltE.At w g (4 + i * 5) x := by
 intro j u hu
 have hj := (List.getElem?_eq_some_iff.1 hu).1
 rw [sltE.len] at hj
 rw [Blk.cell h]
 have e : 4 + i * 5 + j = (i * sltE.k + j) + 1 + 1 + 1 + 1 := by show _ = (i * 5 + j) + 1 + 1 + 1 + 1; omega
 rw [e]
 simp only [Pg.cl, qA, qS]
 rw [sltE.all_at _ _ _ hj, hx]; exact hu
theorem sltAt5 {b o : Nat} {x : Slt} (h : sltE.At w b o x) : w.cell? ⟨b, o, none⟩ = some (.int .i64 x.kind) ∧ w.cell? ⟨b, o + 1, none⟩ = some (.int .i64 x.to_) ∧ w.cell? ⟨b, o + 2, none⟩ = some (.bool x.r.w) ∧ w.cell? ⟨b, o + 3, none⟩ = some (.bool x.r.u) ∧ w.cell? ⟨b, o + 4, none⟩ = some (.bool x.r.x) :=
 ⟨h 0 _ rfl, h 1 _ rfl, h 2 _ rfl, h 3 _ rfl, h 4 _ rfl⟩
def set5 (w : World) (b o : Nat) (x : Slt) : World := ((((w.setCell ⟨b, o, none⟩ (.int .i64 x.kind)).setCell ⟨b, o + 1, none⟩ (.int .i64 x.to_)).setCell ⟨b, o + 2, none⟩ (.bool x.r.w)).setCell ⟨b, o + 3, none⟩ (.bool x.r.u)).setCell ⟨b, o + 4, none⟩ (.bool x.r.x)
theorem chg_set5 (w : World) (b o : Nat) (x : Slt) : Chg [b] w (set5 w b o x) := by
 unfold set5
 exact (((((Chg.refl [b] w).setCell (by simp) _).setCell (by simp) _).setCell (by simp) _).setCell (by simp) _).setCell (by simp) _
theorem set5_list (q : Pg) {i : Nat} (hi : i < q.s.length) (x : Slt) : ((((q.cl.set (4 + i * 5) (.int .i64 x.kind)).set (4 + i * 5 + 1) (.int .i64 x.to_)).set (4 + i * 5 + 2) (.bool x.r.w)).set (4 + i * 5 + 3) (.bool x.r.u)).set (4 + i * 5 + 4) (.bool x.r.x) = Pg.cl ⟨q.f, q.k, q.s.set i x⟩ := by
 have hl := q.cl_len
 have e3 : ∀ (s : List Slt) (k : Nat), (Pg.cl ⟨q.f, q.k, s⟩)[k + 4]? = s[k / 5]?.bind fun y => (Slt.cl y)[k % 5]? := by
  intro s k
  have hd : k = k / 5 * sltE.k + k % 5 := by show k = k / 5 * 5 + k % 5; omega
  have hm : k % 5 < sltE.k := Nat.mod_lt _ (by decide)
  show (sltE.all s)[k]? = _
  conv => lhs; rw [hd]
  exact sltE.all_at s (k / 5) (k % 5) hm
 have e4 : ∀ k : Nat, q.cl[k + 4]? = q.s[k / 5]?.bind fun y => (Slt.cl y)[k % 5]? := fun k => e3 q.s k
 refine List.ext_getElem? fun j => ?_
 simp only [List.getElem?_set, List.length_set]
 by_cases h4 : j < 4
 ·rw [if_neg (by omega), if_neg (by omega), if_neg (by omega), if_neg (by omega), if_neg (by omega)]
  have : j = 0 ∨ j = 1 ∨ j = 2 ∨ j = 3 := by omega
  rcases this with rfl | rfl | rfl | rfl <;> rfl
 obtain ⟨k, rfl⟩ : ∃ k, j = k + 4 := ⟨j - 4, by omega⟩
 rw [e4, e3 (q.s.set i x)]
 by_cases hki : k / 5 = i
 ·rw [hki, List.getElem?_set, if_pos rfl, if_pos hi, Option.bind_some]
  have hm2 : k % 5 = 0 ∨ k % 5 = 1 ∨ k % 5 = 2 ∨ k % 5 = 3 ∨ k % 5 = 4 := by omega
  rcases hm2 with h0 | h0 | h0 | h0 | h0
  ·rw [if_neg (by omega), if_neg (by omega), if_neg (by omega), if_neg (by omega), if_pos (by omega), if_pos (by omega), h0]; rfl
  ·rw [if_neg (by omega), if_neg (by omega), if_neg (by omega), if_pos (by omega), if_pos (by omega), h0]; rfl
  ·rw [if_neg (by omega), if_neg (by omega), if_pos (by omega), if_pos (by omega), h0]; rfl
  ·rw [if_neg (by omega), if_pos (by omega), if_pos (by omega), h0]; rfl
  rw [if_pos (by omega), if_pos (by omega), h0]; rfl
 rw [if_neg (by omega), if_neg (by omega), if_neg (by omega), if_neg (by omega), if_neg (by omega), List.getElem?_set, if_neg (fun h => hki h.symm)]
theorem PgB.set5 (h : PgB w g q) {i : Nat} (hi : i < q.s.length) (x : Slt) : PgB (set5 w g (4 + i * 5) x) g ⟨q.f, q.k, q.s.set i x⟩ := by
 have e := ((((Blk.set_ h (4 + i * 5) (.int .i64 x.kind)).set_ (4 + i * 5 + 1) (.int .i64 x.to_)).set_ (4 + i * 5 + 2) (.bool x.r.w)).set_ (4 + i * 5 + 3) (.bool x.r.u)).set_ (4 + i * 5 + 4) (.bool x.r.x)
 simp only [qI] at e
 rw [set5_list q hi x] at e
 exact e
end
def blkF : List Pg → List Nat → Int → Option Nat
 | q :: L, b :: B, f => if f = q.f then some b else blkF L B f
 | _, _, _ => none
theorem blkF_none : ∀ {L : List Pg} {B : List Nat} {f : Int}, B.length = L.length → (blkF L B f = none ↔ pgAt L f = none)
 | [], [], f, _ => by simp [blkF, pgAt]
 | q :: L, b :: B, f, h => by
  unfold blkF pgAt
  rw [List.find?_cons]
  by_cases e : f = q.f
  ·subst e; simp
  rw [if_neg e, show (q.f == f) = false by simpa using fun h => e h.symm]; exact blkF_none (by simpa using h)
theorem blkF_some : ∀ {L : List Pg} {B : List Nat} {f : Int} {q : Pg}, B.length = L.length → pgAt L f = some q → ∃ (i : Nat) (b : Nat), L[i]? = some q ∧ B[i]? = some b ∧ blkF L B f = some b
 | [], [], f, q, _, h => by simp [pgAt] at h
 | p :: L, b :: B, f, q, hl, h => by
  unfold blkF
  unfold pgAt at h
  rw [List.find?_cons] at h
  by_cases e : f = p.f
  ·subst e
   simp at h; subst h
   exact ⟨0, b, rfl, rfl, by simp⟩
  rw [show (p.f == f) = false by simpa using fun h => e h.symm] at h
  obtain ⟨i, b', h1, h2, h3⟩ := blkF_some (L := L) (B := B) (by simpa using hl) h
  exact ⟨i + 1, b', h1, h2, by rw [if_neg e]; exact h3⟩
theorem blkF_at : ∀ {L : List Pg} {B : List Nat} {i : Nat} {q : Pg} {b : Nat}, (L.map Pg.f).Nodup → L[i]? = some q → B[i]? = some b → blkF L B q.f = some b
 | [], _, i, q, b, _, h, _ => by simp at h
 | p :: L, [], i, q, b, _, _, h => by simp at h
 | p :: L, c :: B, 0, q, b, _, h1, h2 => by simp at h1 h2; subst h1; subst h2; simp [blkF]
 | p :: L, c :: B, i + 1, q, b, hn, h1, h2 => by
  rw [qS] at h1 h2
  rw [List.map_cons, List.nodup_cons] at hn
  unfold blkF
  rw [if_neg (fun e => hn.1 (List.mem_map.2 ⟨q, List.mem_of_getElem? h1, e⟩))]
  exact blkF_at hn.2 h1 h2
theorem blkF_congr : ∀ {L L' : List Pg} {B : List Nat} {f : Int}, L.map Pg.f = L'.map Pg.f → blkF L B f = blkF L' B f
 | [], [], _, _, _ => rfl
 | q :: L, q' :: L', [], _, _ => rfl
 | q :: L, q' :: L', b :: B, f, h => by
  simp only [List.map_cons, List.cons.injEq] at h
  unfold blkF
  rw [h.1, blkF_congr h.2]
theorem blkF_app : ∀ {L : List Pg} {B : List Nat} {q : Pg} {b : Nat} {f : Int}, B.length = L.length → (∀ p ∈ L, p.f ≠ q.f) → blkF (L ++ [q]) (B ++ [b]) f = putF (blkF L B) q.f b f
 | [], [], q, b, f, _, _ => by simp [blkF, putF]
 | p :: L, c :: B, q, b, f, h, hn => by
  simp only [List.cons_append]
  unfold blkF
  rw [blkF_app (by simpa using h) (fun p hp => hn p (List.mem_cons_of_mem _ hp))]
  unfold putF
  have := hn p List.mem_cons_self
  by_cases e1 : f = p.f
  ·rw [if_pos e1, if_neg (by rw [e1]; exact this)]; simp [blkF, e1]
  rw [if_neg e1]; simp [blkF, e1]
structure StX (w : World) (q hp hb n a m : Nat) (s : Sr) (fp mp : Nat) (FS : List Nat) (v : Value) (B : List Nat) : Prop where
 st : Blk w q 195 #[.pointer (some ⟨hp, 0, none⟩), .pointer (some ⟨fp, 0, none⟩), .map (some mp), v]
 fl : FAt w FS fp a m s.fr
 mp_ : PtrM Tryz.prog 3 w mp s.L.length (blkF s.L B)
 od : OwnI w 3 .i64 v (s.L.map Pg.f)
 bl : B.length = s.L.length
 nb : B.Nodup
 pg : ∀ (i : Nat) (p : Pg) (b : Nat), s.L[i]? = some p → B[i]? = some b → PgB w b p
 hm : MemAt w hp hb n s.W
 nd : (s.L.map Pg.f).Nodup
 ge : ∀ p ∈ s.L, 0 ≤ p.f ∧ p.f < n
 e8 : ∀ p ∈ s.L, p.s.length = 8
 fs : q ∉ FS ∧ mp ∉ FS ∧ (∀ i ∈ v.ownBlock.toList, i ∉ FS) ∧ (∀ i ∈ B, i ∉ FS)
 hs : hp ∉ FS ∧ hb ∉ FS
def stS (q mp : Nat) (FS : List Nat) (v : Value) (B : List Nat) : List Nat := q :: mp :: (v.ownBlock.toList ++ (FS ++ B))
def StIn (w : World) (S : List Nat) (q hp hb n a m : Nat) (s : Sr) : Prop := ∃ fp mp FS v B, StX w q hp hb n a m s fp mp FS v B ∧ S = stS q mp FS v B
section
variable {w w' : World} {S T : List Nat} {q hp hb n a m fp mp : Nat} {s : Sr} {FS B : List Nat} {v : Value}
theorem StX.page_of (h : StX w q hp hb n a m s fp mp FS v B) {b : Nat} (hB : b ∈ B) : ∃ p, PgB w b p := by
 obtain ⟨i, hi, rfl⟩ := List.getElem_of_mem hB
 have := h.bl
 exact ⟨_, h.pg i _ _ (List.getElem?_eq_getElem (by omega)) (List.getElem?_eq_getElem hi)⟩
theorem StX.ne (h : StX w q hp hb n a m s fp mp FS v B) : mp ≠ q ∧ (∀ g ∈ v.ownBlock.toList, g ≠ q ∧ g ≠ mp ∧ g ∉ B ∧ g ≠ hp ∧ g ≠ hb) ∧ q ∉ B ∧ mp ∉ B ∧ hp ≠ q ∧ hb ≠ q ∧ hp ≠ mp ∧ hb ≠ mp ∧ hp ∉ B ∧ hb ∉ B ∧ hp ≠ hb := by
 have hq : q ∉ B := fun hm => by obtain ⟨p, hp⟩ := h.page_of hm; exact (Blk.type_ne h.st hp (by decide)) rfl
 have hmb : mp ∉ B := fun hm => by obtain ⟨p, hp⟩ := h.page_of hm; exact h.mp_.blk_ne hp rfl
 have h1 : hp ∉ B := fun hm => by obtain ⟨p, hp⟩ := h.page_of hm; exact (Blk.type_ne h.hm.st hp (by decide)) rfl
 have h2 : hb ∉ B := fun hm => by obtain ⟨p, hp⟩ := h.page_of hm; exact (Blk.type_ne h.hm.ws hp (by decide)) rfl
 refine ⟨h.mp_.blk_ne h.st, fun g hg => ?_, hq, hmb, Blk.type_ne h.hm.st h.st (by decide), Blk.type_ne h.hm.ws h.st (by decide), (h.mp_.blk_ne h.hm.st).symm, (h.mp_.blk_ne h.hm.ws).symm, h1, h2, Blk.type_ne h.hm.st h.hm.ws (by decide)⟩
 obtain ⟨cs, hb⟩ := h.od.blk hg
 exact ⟨hb.type_ne h.st (by decide), (h.mp_.blk_ne hb).symm, fun hm => by obtain ⟨p, hp⟩ := h.page_of hm; exact (hb.type_ne hp (by decide)) rfl, hb.type_ne h.hm.st (by decide), hb.type_ne h.hm.ws (by decide)⟩
theorem StX.chg (h : StX w q hp hb n a m s fp mp FS v B) (hc : Chg T w w') (hd : ∀ i ∈ stS q mp FS v B, i ∉ T) (h1 : hp ∉ T) (h2 : hb ∉ T) : StX w' q hp hb n a m s fp mp FS v B :=
  ⟨hc.blk h.st (hd q (by simp [stS])), h.fl.chg hc (fun i hi => hd i (by simp [stS, hi])), h.mp_.chg hc (hd mp (by simp [stS])), h.od.chg hc (fun i hi => hd i (by unfold stS; simp only [List.mem_cons, List.mem_append]; exact .inr (.inr (.inl hi)))), h.bl, h.nb,
   fun i p b hp hb => hc.blk (h.pg i p b hp hb) (hd b (by have := List.mem_of_getElem? hb; simp [stS, this])), ⟨hc.blk h.hm.st h1, hc.blk h.hm.ws h2, h.hm.len, h.hm.pos, h.hm.le⟩, h.nd, h.ge, h.e8, h.fs, h.hs⟩
theorem StX.new (h : StX w q hp hb n a m s fp mp FS v B) (hc : Chg [] w w') : StX w' q hp hb n a m s fp mp FS v B := h.chg hc (by simp) (by simp) (by simp)
theorem StX.lt (h : StX w q hp hb n a m s fp mp FS v B) : ∀ i ∈ stS q mp FS v B, i < w.heap.size := by
 intro i hi
 simp only [stS, List.mem_cons, List.mem_append] at hi
 rcases hi with rfl | rfl | hi | hi | hi
 ·exact h.st.lt
 ·exact h.mp_.lt
 ·exact h.od.lt i hi
 ·exact h.fl.lt i hi
 obtain ⟨p, hp⟩ := h.page_of hi; exact Blk.lt hp
theorem StX.host (h : StX w q hp hb n a m s fp mp FS v B) : hp ∉ stS q mp FS v B ∧ hb ∉ stS q mp FS v B := by
 obtain ⟨_, hv, _, _, e1, e2, e3, e4, e5, e6, _⟩ := h.ne
 constructor
 ·intro hi
  simp only [stS, List.mem_cons, List.mem_append] at hi
  rcases hi with hi | hi | hi | hi | hi
  ·exact e1 hi
  ·exact e3 hi
  ·exact (hv _ hi).2.2.2.1 rfl
  ·exact h.hs.1 hi
  exact e5 hi
 intro hi
 simp only [stS, List.mem_cons, List.mem_append] at hi
 rcases hi with hi | hi | hi | hi | hi
 ·exact e2 hi
 ·exact e4 hi
 ·exact (hv _ hi).2.2.2.2 rfl
 ·exact h.hs.2 hi
 exact e6 hi
theorem StIn.chg (h : StIn w S q hp hb n a m s) (hc : Chg T w w') (hd : ∀ i ∈ S, i ∉ T) (h1 : hp ∉ T) (h2 : hb ∉ T) : StIn w' S q hp hb n a m s := by
 obtain ⟨fp, mp, FS, v, B, h, rfl⟩ := h
 exact ⟨fp, mp, FS, v, B, h.chg hc hd h1 h2, rfl⟩
theorem StIn.lt (h : StIn w S q hp hb n a m s) : ∀ i ∈ S, i < w.heap.size := by
 obtain ⟨fp, mp, FS, v, B, h, rfl⟩ := h; exact h.lt
theorem StIn.mem (h : StIn w S q hp hb n a m s) : MemAt w hp hb n s.W := by
 obtain ⟨fp, mp, FS, v, B, h, rfl⟩ := h; exact h.hm
theorem StX.c4 (h : StX w q hp hb n a m s fp mp FS v B) : w.cell? ⟨q, 0, none⟩ = some (.pointer (some ⟨hp, 0, none⟩)) ∧ w.cell? ⟨q, 1, none⟩ = some (.pointer (some ⟨fp, 0, none⟩)) ∧ w.cell? ⟨q, 2, none⟩ = some (.map (some mp)) ∧ w.cell? ⟨q, 3, none⟩ = some v :=
 ⟨h.st.cell 0, h.st.cell 1, h.st.cell 2, h.st.cell 3⟩
theorem StX.at_ (h : StX w q hp hb n a m s fp mp FS v B) {f : Int} {p : Pg} (hp : pgAt s.L f = some p) : ∃ (i : Nat) (b : Nat), s.L[i]? = some p ∧ B[i]? = some b ∧ blkF s.L B f = some b ∧ PgB w b p ∧ p.f = f := by
 obtain ⟨i, b, h1, h2, h3⟩ := blkF_some h.bl hp
 exact ⟨i, b, h1, h2, h3, h.pg i p b h1 h2, (pgAt_mem hp).2⟩
end
theorem zeroPg (w : World) : (zeroValue 182).run Tryz.prog w = .ok (.pointer none) w := by kernel_rfl
theorem StX.look {w : World} {q hp hb n a m fp mp : Nat} {s : Sr} {FS B : List Nat} {v : Value} (h : StX w q hp hb n a m s fp mp FS v B) (f : Int) (hf : -9223372036854775808 ≤ f ∧ f ≤ 9223372036854775807) :
  (Instr.lookup 193 (.map (some mp)) (.int .i64 f) false).run Tryz.prog w = .ok (ptrO (blkF s.L B f)) w :=
 h.mp_.look lawI Tryz.underlying193 Tryz.underlying3 zeroPg f (by rw [Lit.wf, Bool.and_eq_true, decide_eq_true_eq, decide_eq_true_eq]; exact hf)
theorem cellS_ret {P : Program} {fn : Func} {p q : Tmp} {ty : TypeId} (h : fn.results = #[.cell p ty, .tmp q]) {tmps : Array Value} {w : World} {g : Nat} {t : TypeId} {cs : Array Value} {d : TypeDesc} {v : Value} (hb : Blk w g t cs)
  (hp : tmps.getD p undef = .pointer (some ⟨g, 0, none⟩)) (hq : tmps.getD q undef = v) (hu : P.underlying ty = some d) (hd : (match d with | .struct _ | .array _ _ => true | _ => false) = true) (hi : (P.info? ty).map (·.size) = some cs.size) :
  (results fn tmps).run P w = .ok (.tuple #[.agg cs, v]) w := by
 have hp' : tmps[p]?.getD undef = .pointer (some ⟨g, 0, none⟩) := by simpa using hp
 have hq' : tmps[q]?.getD undef = v := by simpa using hq
 simp [results, h, hp', hq', asAddr, run_loadVar_row w g t ty cs (0, 0) d hb hu hd hi]
set_option maxRecDepth 100000 in
set_option maxHeartbeats 400000 in
theorem Frames_at (p b n : Nat) (L : List Int) (w : World) (h : MemAt w p b n L) :
  Calls Tryz.prog 103 #[.pointer (some ⟨p, 0, none⟩)] w fun e w' => e = .returned (.int .i64 n) ∧ w = w' := by
 have c0 := h.st.cell 0
 simp at c0
 go_enter Tryz.func103, Tryz.ntmps103
 go_wp2
 go_ret
 exact ⟨rfl, rfl⟩
set_option maxRecDepth 100000 in
set_option maxHeartbeats 1000000 in
theorem Sright_any (k : Ky) (w : World) : Calls Tryz.prog 99 #[.agg k.cs] w fun e w' => e = .returned (.bool k.right) ∧ Chg [] w w' := by
 obtain ⟨g, l, r⟩ := k
 unfold Ky.cs
 go_enter Tryz.func99, Tryz.ntmps99
 go_wp2
 all_goals go_ret
 all_goals refine ⟨ret_bool ?_, (Chg.refl [] w).alloc _⟩
 all_goals (unfold Ky.right; simp only [beq_iff_eq, beq_eq_false_iff_ne, ne_eq] at *; rw [Bool.eq_iff_iff]; simp only [decide_eq_true_eq, Bool.false_eq_true, false_iff]; omega)
set_option maxRecDepth 100000 in
set_option maxHeartbeats 1000000 in
theorem Sword_any (x : Slt) (f : Int) (w : World) : Calls Tryz.prog 218 #[.agg x.cl.toArray, .int .i64 f] w fun e w' => e = .returned (.int .u64 (wordS x f)) ∧ Chg [] w w' := by
 have hP := fun w' => Put_at (entS x f) w'
 have hw : wordS x f = if x.kind = 0 then 0 else ((putV (entS x f) : Nat) : Int) := rfl
 obtain ⟨kd, to, ⟨rw_, ru, rx⟩⟩ := x
 unfold entS Ent.cs at hP
 simp only at hP hw
 unfold Slt.cl
 unfold entS at hw
 simp only at hw
 generalize (putV _ : Nat) = v at *
 generalize wordS ⟨kd, to, ⟨rw_, ru, rx⟩⟩ f = y at *
 simp only
 go_enter Tryz.func218, Tryz.ntmps218
 by_cases hk : kd = 0
 ·subst hk
  rw [if_pos rfl] at hw
  go_wp2_with fail
  go_ret
  exact ⟨ret_int hw.symm, (Chg.refl [] w).alloc _⟩
 rw [if_neg hk] at hw
 go_wp2_with fail
 refine (hP _).mono ?_; rintro e w2 ⟨rfl, y2⟩
 go_wp2_with fail
 go_ret
 exact ⟨ret_int hw.symm, ((Chg.refl [] w).alloc _).trans y2 (by simp)⟩
section
variable {q hp hb n a m fp mp : Nat} {s : Sr} {FS B : List Nat} {v : Value}
set_option maxRecDepth 100000 in
set_option maxHeartbeats 1000000 in
theorem Shas_any (p i : Int) (w : World) (h : StX w q hp hb n a m s fp mp FS v B) (hp' : -9223372036854775808 ≤ p ∧ p ≤ 9223372036854775807) :
  Calls Tryz.prog 98 #[.pointer (some ⟨q, 0, none⟩), .int .i64 p, .int .i64 i] w fun e w' => e = .returned (.bool (hasS s p i)) ∧ w = w' := by
 obtain ⟨c0, c1, c2, c3⟩ := h.c4
 have hL := h.look p hp'
 have hF := blkF_none (f := p) h.bl
 have hS : hasS s p i = ((pgAt s.L p).isSome && decide (0 ≤ i ∧ i ≤ 7)) := rfl
 clear h
 generalize hasS s p i = z at *
 generalize pgAt s.L p = o at *
 cases e : blkF s.L B p with
 | none =>
  rw [hF.1 e] at hS
  rw [e] at hL
  replace hS := Lib.hid hS
  clear hF e
  unfold ptrO at hL
  go_enter Tryz.func98, Tryz.ntmps98
  go_wp2
  all_goals go_ret
  all_goals exact ⟨ret_bool (by rw [hS.out]; rfl), rfl⟩
 | some b =>
  have ho : o.isSome = true := by cases o with
   | none => rw [hF.2 rfl] at e; cases e
   | some _ => rfl
  rw [ho, Bool.true_and] at hS
  rw [e] at hL
  replace hS := Lib.hid hS
  clear hF e ho
  unfold ptrO at hL
  go_enter Tryz.func98, Tryz.ntmps98
  go_wp2
  all_goals go_ret
  all_goals exact ⟨ret_bool (by rw [hS.out, Bool.eq_iff_iff]; simp only [decide_eq_true_eq, Bool.false_eq_true, false_iff]; omega), rfl⟩
set_option maxRecDepth 100000 in
set_option maxHeartbeats 1000000 in
theorem Sleft_any (w : World) (h : StX w q hp hb n a m s fp mp FS v B) :
  Calls Tryz.prog 42 #[.pointer (some ⟨q, 0, none⟩)] w fun e w' => e = .returned (.int .i64 s.fr.length) ∧ Chg [] w w' := by
 obtain ⟨c0, c1, c2, c3⟩ := h.c4
 have hF := FLeft_at FS fp a m s.fr w h.fl
 clear h
 go_enter Tryz.func42, Tryz.ntmps42
 go_wp2_with fail
 refine hF.mono ?_; rintro e w2 ⟨rfl, y, rfl⟩
 go_wp2_with fail
 go_ret
 exact ⟨rfl, (Chg.refl [] w).drewN _⟩
def keyV (L : List Pg) (p : Int) : Ky := ((pgAt L p).map Pg.k).getD ⟨0, 0, 0⟩
set_option maxRecDepth 100000 in
set_option maxHeartbeats 1000000 in
theorem Skey_any (p : Int) (w : World) (h : StX w q hp hb n a m s fp mp FS v B) (hp' : -9223372036854775808 ≤ p ∧ p ≤ 9223372036854775807) :
  Calls Tryz.prog 43 #[.pointer (some ⟨q, 0, none⟩), .int .i64 p] w fun e w' => e = .returned (.tuple #[.agg (keyV s.L p).cs, .bool (pgAt s.L p).isSome]) ∧ Chg [] w w' := by
 have y0 := (Chg.refl [] w).alloc (.cells #[.int .i64 0, .int .i64 0, .int .i64 0] 85)
 replace h := h.new y0
 obtain ⟨c0, c1, c2, c3⟩ := h.c4
 have hL := h.look p hp'
 have hF := blkF_none (f := p) h.bl
 have hG := @StX.at_ _ _ _ _ _ _ _ _ _ _ _ _ _ h p
 clear h
 unfold keyV
 cases e : pgAt s.L p with
 | none =>
  rw [hF.2 e] at hL
  clear hF e hG
  unfold ptrO at hL
  simp only [Option.map_none, Option.getD_none, Option.isSome_none, Ky.cs]
  go_enter Tryz.func43, Tryz.ntmps43
  go_wp2_with fail
  exact bodyPost_ret (cellS_ret rfl (Blk.new _ _ _) rfl rfl Tryz.underlying85 rfl (by kernel_rfl)) rfl ⟨rfl, (Chg.refl [] w).alloc _⟩
 | some g =>
  obtain ⟨i, b, h1, h2, h3, h4, h5⟩ := hG e
  rw [h3] at hL
  obtain ⟨d0, d1, d2, d3⟩ := h4.head
  clear hF e hG h1 h2 h3 h4
  unfold ptrO at hL
  simp only [Option.map_some, Option.getD_some, Option.isSome_some, Ky.cs]
  go_enter Tryz.func43, Tryz.ntmps43
  go_wp2_with fail
  exact bodyPost_ret (cellS_ret rfl (Blk.new _ _ _) rfl rfl Tryz.underlying85 rfl (by kernel_rfl)) rfl ⟨rfl, (Chg.refl [] w).alloc _⟩
def slotV (L : List Pg) (p i : Int) : Slt := (slotP L p i).getD Slt.no
theorem slotP_some {L : List Pg} {p i : Int} (h8 : ∀ q ∈ L, q.s.length = 8) : (slotP L p i).isSome = ((pgAt L p).isSome && decide (0 ≤ i ∧ i ≤ 7)) := by
 unfold slotP
 by_cases h : 0 ≤ i ∧ i ≤ 7
 ·rw [if_pos h, decide_eq_true h, Bool.and_true]
  cases e : pgAt L p with
  | none => rfl
  | some q =>
   rw [Option.bind_some, List.getElem?_eq_getElem (by rw [h8 q (pgAt_mem e).1]; omega)]; rfl
 rw [if_neg h, decide_eq_false h, Bool.and_false]; rfl
set_option maxRecDepth 100000 in
set_option maxHeartbeats 1000000 in
theorem Sslot_any (p i : Int) (w : World) (h : StX w q hp hb n a m s fp mp FS v B) (hp' : -9223372036854775808 ≤ p ∧ p ≤ 9223372036854775807) :
  Calls Tryz.prog 44 #[.pointer (some ⟨q, 0, none⟩), .int .i64 p, .int .i64 i] w fun e w' => e = .returned (.tuple #[.agg (slotV s.L p i).cl.toArray, .bool (slotP s.L p i).isSome]) ∧ Chg [] w w' := by
 have y0 := (Chg.refl [] w).alloc (.cells #[.int .i64 0, .int .i64 0, .bool false, .bool false, .bool false] 99)
 replace h := h.new y0
 obtain ⟨c0, c1, c2, c3⟩ := h.c4
 have hH := Shas_any p i _ h hp'
 have hL := h.look p hp'
 have hG := @StX.at_ _ _ _ _ _ _ _ _ _ _ _ _ _ h p
 have hS : (slotP s.L p i).isSome = hasS s p i := slotP_some h.e8
 have h8 := h.e8
 clear h
 unfold slotV
 cases e : slotP s.L p i with
 | none =>
  rw [e] at hS
  rw [← hS] at hH
  clear hL hG hS e
  simp only [Option.getD_none, Option.isSome_none, Slt.cl, Slt.no] at *
  go_enter Tryz.func44, Tryz.ntmps44
  go_wp2_with fail
  refine hH.mono ?_; rintro e w2 ⟨rfl, rfl⟩
  go_wp2_with fail
  exact bodyPost_ret (cellS_ret rfl (Blk.new _ _ _) rfl rfl Tryz.underlying99 rfl (by kernel_rfl)) rfl ⟨rfl, (Chg.refl [] w).alloc _⟩
 | some x =>
  rw [e] at hS
  rw [← hS] at hH
  obtain ⟨g, e1, i0, i7, e2⟩ := slotP_has e
  obtain ⟨j, b, h1, h2, h3, h4, h5⟩ := hG e1
  obtain ⟨k, rfl⟩ := Int.eq_ofNat_of_zero_le i0
  rw [Int.toNat_natCast] at e2
  rw [h3] at hL
  have hk : k < 8 := by omega
  obtain ⟨d0, d1, d2, d3, d4⟩ := sltAt5 (h4.slot e2)
  clear hG h1 h2 h3 h4 h5 hS e e1 e2
  unfold ptrO at hL
  simp only [Option.getD_some, Option.isSome_some, Slt.cl, Slt.no] at *
  go_enter Tryz.func44, Tryz.ntmps44
  go_wp2_with fail
  refine hH.mono ?_; rintro e w2 ⟨rfl, rfl⟩
  go_wp2_with fail
  exact bodyPost_ret (cellS_ret rfl (Blk.new _ _ _) rfl rfl Tryz.underlying99 rfl (by kernel_rfl)) rfl ⟨rfl, (Chg.refl [] w).alloc _⟩
end
theorem still_look {P : Program} {w : World} {K : Act → Prop} {op : Oper} {a : Act} (t : TypeId) (m x : Operand) (ho : op.op = Op.lookup t m x false) (b : Nat) (hm : a.eval m = .map (some b)) (k v : Value) (hx : a.eval x = k)
  (hr : (Instr.lookup t (.map (some b)) k false).run P w = .ok v w) (h : K (a.put op.dst v)) : op.still P a w K := by
 unfold Oper.still execOp
 simp only [ho, hm, hx, hr, Sem.run_bind, Sem.run_pure, Result.andThen_ok]
 exact ⟨rfl, h⟩
theorem MemAt.new_ {p b n : Nat} {L : List Int} {w w' : World} (h : MemAt w p b n L) (hc : Chg [] w w') : MemAt w' p b n L := ⟨h.st.chg_ hc (by simp), h.ws.chg_ hc (by simp), h.len, h.pos, h.le⟩
theorem chg_two {w a b c : World} {g h : Nat} (h1 : Chg [g] w a) (h2 : Chg [] a b) (h3 : Chg [h] b c) : Chg [h, g] w c :=
 ((h1.weak (T := [h, g]) (fun k _ h => by simp at h; simp [h])).trans h2 (by simp)).trans h3 (fun k _ h => by simp at h; simp [h])
theorem Blk.rng {w : World} {g : Nat} {t : TypeId} {cs : List Value} (h : Blk w g t cs.toArray) : w.rangeAt g 0 cs := fun j v hv => by
 rw [h.cell]; simpa using hv
section
variable {q hp hb n a m fp mp : Nat} {s : Sr} {FS B : List Nat} {v : Value}
theorem StX.laid {w w' : World} (h : StX w q hp hb n a m s fp mp FS v B) {p : Int} {k : Nat} {g : Pg} {i b : Nat} {x : Slt} {W : List Int} (hi : s.L[i]? = some g) (hb' : B[i]? = some b) (hg : g.f = p) (y : Chg [hb, b] w w')
  (hP : PgB w' b ⟨g.f, g.k, g.s.set k x⟩) (hM : MemAt w' hp hb n W) : StX w' q hp hb n a m ⟨setP s.L p k x, s.fr, W⟩ fp mp FS v B := by
 have hH := h.host
 have hbB : b ∈ B := List.mem_of_getElem? hb'
 obtain ⟨n1, n2, n3, n4, n5, n6, n7, n8, n9, n10, n11⟩ := h.ne
 have hm := setP_map (L := s.L) p k x
 have hset : ∀ j : Nat, (setP s.L p k x)[j]? = (s.L[j]?).map fun r => if r.f = p then { r with s := r.s.set k x } else r := fun j => by unfold setP; rw [List.getElem?_map]
 refine ⟨y.blk h.st ?_, h.fl.chg y ?_, ?_, ?_, ?_, h.nb, ?_, hM, ?_, ?_, ?_, h.fs, h.hs⟩
 ·simp; exact ⟨fun e => n6 e.symm, fun e => n3 (e ▸ hbB)⟩
 ·intro j hj hm
  simp only [List.mem_cons, List.not_mem_nil, or_false] at hm
  rcases hm with rfl | rfl
  ·exact h.hs.2 hj
  exact h.fs.2.2.2 _ hbB hj
 ·rw [hm.2.2]
  refine (h.mp_.chg y ?_).congr fun f => blkF_congr hm.1.symm
  simp; exact ⟨fun e => n8 e.symm, fun e => n4 (e ▸ hbB)⟩
 ·show OwnI w' _ _ v ((setP s.L p k x).map Pg.f)
  rw [hm.1]
  refine h.od.chg y fun j hj hm => ?_
  simp only [List.mem_cons, List.not_mem_nil, or_false] at hm
  rcases hm with rfl | rfl
  ·exact (n2 _ hj).2.2.2.2 rfl
  exact (n2 _ hj).2.2.1 hbB
 ·rw [hm.2.2]; exact h.bl
 ·intro j r c hr hc
  rw [hset] at hr
  cases e : s.L[j]? with
  | none => rw [e] at hr; cases hr
  | some r0 =>
   rw [e, Option.map_some] at hr
   injection hr with hr
   by_cases hji : j = i
   ·subst hji
    rw [hi] at e; injection e with e; subst e
    rw [hb'] at hc; injection hc with hc; subst hc
    rw [if_pos hg] at hr
    rw [← hr]; exact hP
   have hne : r0.f ≠ p := fun e2 => hji (by
    have h1 := (List.getElem?_eq_some_iff.1 e); have h2 := (List.getElem?_eq_some_iff.1 hi)
    obtain ⟨l1, e1⟩ := h1; obtain ⟨l2, e3⟩ := h2
    have := h.nd
    have e4 : (s.L.map Pg.f)[j]'(by simpa using l1) = (s.L.map Pg.f)[i]'(by simpa using l2) := by simp only [List.getElem_map]; rw [e1, e3, e2, hg]
    exact (List.getElem_inj this).1 e4)
   rw [if_neg hne] at hr
   subst hr
   refine y.blk (h.pg j r0 c e hc) ?_
   have hcb : c ≠ b := fun e2 => hji (by
    subst e2
    obtain ⟨l1, e1⟩ := List.getElem?_eq_some_iff.1 hc
    obtain ⟨l2, e3⟩ := List.getElem?_eq_some_iff.1 hb'
    exact (List.getElem_inj h.nb).1 (e1.trans e3.symm))
   simp; exact ⟨fun e2 => n10 (e2 ▸ List.mem_of_getElem? hc), hcb⟩
 ·show ((setP s.L p k x).map Pg.f).Nodup
  rw [hm.1]; exact h.nd
 ·intro r hr
  obtain ⟨r0, h1, h2, _⟩ := mem_setP hr
  rw [h2]; exact h.ge r0 h1
 intro r hr
 obtain ⟨r0, h1, h2, _, h3⟩ := mem_setP hr
 rw [h3]
 split
 ·rw [List.length_set]; exact h.e8 r0 h1
 exact h.e8 r0 h1
set_option maxRecDepth 100000 in
set_option maxHeartbeats 4000000 in
theorem Slay_any (p i : Int) (x : Slt) (f : Int) (w : World) (h : StX w q hp hb n a m s fp mp FS v B) (hs : hasS s p i = true) :
  Calls Tryz.prog 171 #[.pointer (some ⟨q, 0, none⟩), .int .i64 p, .int .i64 i, .agg x.cl.toArray, .int .i64 f] w fun e w' => e = .returned (.tuple #[]) ∧ StX w' q hp hb n a m (setS n s p i x f) fp mp FS v B ∧ Chg (hb :: B) w w' := by
 have hs' := hs
 unfold hasS at hs'
 rw [Bool.and_eq_true, decide_eq_true_eq] at hs'
 obtain ⟨h1, i0, i7⟩ := hs'
 obtain ⟨g, hg⟩ := Option.isSome_iff_exists.1 h1
 obtain ⟨j, b, g1, g2, g3, g4, g5⟩ := h.at_ hg
 obtain ⟨k, rfl⟩ := Int.eq_ofNat_of_zero_le i0
 have hk : k < 8 := by omega
 have hkz : (k : Int) < 8 := by omega
 have hgm := h.ge g (pgAt_mem hg).1
 have hn := h.hm.le
 have y0 := (Chg.refl [] w).alloc (.cells x.cl.toArray 99)
 have hx := Blk.new w 99 x.cl.toArray
 have h' := h.new y0
 obtain ⟨c0, c1, c2, c3⟩ := h'.c4
 have hL := (h'.new (Chg.refl [] _).drew).look p (by omega)
 rw [g3] at hL
 have hpb : PgB (w.alloc (.cells x.cl.toArray 99)) b g := h'.pg j g b g1 g2
 have hW := fun w' => Sword_any x f w'
 have ht : (w.alloc (.cells x.cl.toArray 99)).drew.there b (4 + k * 5) 5 := Blk.there (w := (w.alloc (.cells x.cl.toArray 99)).drew) hpb.drew (4 + k * 5) 5 (by rw [List.size_toArray, g.cl_len, h.e8 g (pgAt_mem hg).1]; omega)
 unfold ptrO at hL
 have hstore := fun (w' : World) (P : PgB w' b g) => PgB.set5 P (i := k) (by rw [h.e8 g (pgAt_mem hg).1]; exact hk) x
 obtain ⟨kd, to, ⟨rw_, ru, rx⟩⟩ := x
 simp only [Slt.cl] at *
 generalize hw1 : w.alloc (.cells (#[.int .i64 kd, .int .i64 to, .bool rw_, .bool ru, .bool rx]) 99) = w1 at *
 have x0 := hx.cell 0; have x1 := hx.cell 1; have x2 := hx.cell 2; have x3 := hx.cell 3; have x4 := hx.cell 4
 simp only [qA, qZ, qS] at x0 x1 x2 x3 x4
 go_enter Tryz.func171, Tryz.ntmps171
 go_wp2_with fail
 refine wp_region_still_tail 11 (by kernel_rfl) (by kernel_rfl) ?_
 simp only [List.take_succ_cons, List.take_zero, List.drop_succ_cons, List.drop_zero]
 change wpStill _ _ (World.drew _) _ _ _
 iterate 5 still_step
 refine wpStill_plain rfl (fun K hK => ?_)
 refine still_look 193 _ _ rfl mp rfl _ _ rfl hL (hK _ ?_)
 clear hK K
 still_step
 refine wpStill_plain rfl (fun K hK => ?_)
 refine still_load_mid 99 _ rfl w.heap.size 0 rfl [.int .i64 kd, .int .i64 to, .bool rw_, .bool ru, .bool rx] _ (hx.drew.rng) Tryz.underlying99 rfl (by kernel_rfl) (hK _ ?_)
 clear hK K
 iterate 3 still_step
 refine wpStill_nil ?_
 refine wpList_store_mid rfl 99 _ _ rfl b (4 + k * 5) #[.int .i64 kd, .int .i64 to, .bool rw_, .bool ru, .bool rx] rfl rfl ht (by kernel_rfl) (by simp [Value.oneCell']) ?_
 clear ht
 have P2 := hstore w1.drew hpb.drew
 have y2 : Chg [b] w (set5 w1.drew b (4 + k * 5) ⟨kd, to, ⟨rw_, ru, rx⟩⟩) := (y0.drew.weak (by simp)).trans (chg_set5 _ _ _ _) (by simp)
 have hne := h.ne
 have hbB : b ∈ B := List.mem_of_getElem? g2
 have q2 := h.st.chg_ y2 (by simp; exact fun e => hne.2.2.1 (e ▸ hbB))
 have x5 := hx.drew.chg_ (chg_set5 w1.drew b (4 + k * 5) ⟨kd, to, ⟨rw_, ru, rx⟩⟩) (by simp; have := Blk.lt (h.pg j g b g1 g2); omega)
 have m2 : MemAt (set5 w1.drew b (4 + k * 5) ⟨kd, to, ⟨rw_, ru, rx⟩⟩) hp hb n s.W := ⟨h.hm.st.chg_ y2 (by simp; exact fun e => hne.2.2.2.2.2.2.2.2.1 (e ▸ hbB)), h.hm.ws.chg_ y2 (by simp; exact fun e => hne.2.2.2.2.2.2.2.2.2.1 (e ▸ hbB)), h.hm.len, h.hm.pos, h.hm.le⟩
 change wpList _ _ _ _ _ (set5 w1.drew b (4 + k * 5) ⟨kd, to, ⟨rw_, ru, rx⟩⟩)
 generalize set5 w1.drew b (4 + k * 5) ⟨kd, to, ⟨rw_, ru, rx⟩⟩ = w2 at *
 clear hL c0 c1 c2 c3 x0 x1 x2 x3 x4
 have c0 := q2.cell 0
 have x0 := x5.cell 0; have x1 := x5.cell 1; have x2 := x5.cell 2; have x3 := x5.cell 3; have x4 := x5.cell 4
 simp only [qA, qZ, qS] at x0 x1 x2 x3 x4 c0
 have hset := fun w' (M : MemAt w' hp hb n s.W) => Set_at hp hb n s.W p k (wordS ⟨kd, to, ⟨rw_, ru, rx⟩⟩ f) w' M
 have hend := fun (w' : World) (y : Chg [hb, b] w w') (P : PgB w' b ⟨g.f, g.k, g.s.set k ⟨kd, to, ⟨rw_, ru, rx⟩⟩⟩) (M : MemAt w' hp hb n (setW n s.W p k (wordS ⟨kd, to, ⟨rw_, ru, rx⟩⟩ f))) => h.laid (x := ⟨kd, to, ⟨rw_, ru, rx⟩⟩) g1 g2 g5 y P M
 have hpb2 : hb ≠ b := fun e => hne.2.2.2.2.2.2.2.2.2.1 (e ▸ hbB)
 have hxb : w.heap.size ≠ hb := by have := h.hm.ws.lt; omega
 have hqb : q ≠ hb := fun e => hne.2.2.2.2.2.1 e.symm
 clear hstore h h' hne g1 g2 g3 g4 g5 hpb hx hg h1 hs
 go_wp2_with fail
 refine wp_region_noPanic ?_
 refine wp_region_held_drew (S := (fun w' => Chg [hb] w2 w')) (by kernel_rfl) ?_ (fun hHeld => ?_)
 ·exact ((Chg.refl [hb] w2).drew)
 refine tq 0 21 _ ?_
 refine tq 1 22 _ ?_
 refine tq 2 23 _ ?_
 (refine tk 3 24 ?_ ?_ ?_; rotate_left; · (intro w hSw; (try dsimp only at hSw); have b_ := q2.chg_ hSw (by simp; exact hqb); have d0 := b_.cell 0; simp only [qA, qZ] at d0; go_simp; (try with_reducible rfl)))
 (try simp only [Act.put, qI, qO, qU])
 refine tq 4 25 _ ?_
 refine tq 5 26 _ ?_
 (refine tk 6 27 ?_ ?_ ?_; rotate_left; · (intro w hSw; (try dsimp only at hSw); have b_ := x5.chg_ hSw (by simp; exact hxb); have d0 := b_.cell 0; have d1 := b_.cell 1; have d2 := b_.cell 2; have d3 := b_.cell 3; have d4 := b_.cell 4; simp only [qA, qZ, qS] at d0 d1 d2 d3 d4; go_simp; (try with_reducible rfl)))
 refine tq 7 28 _ ?_
 (try simp only [Act.put, qI, qO, qU])
 refine rdy 8 fun K hK => ?_
 go_simp
 (go_at_call 218; refine (hW _).mono ?_; rintro e u1 ⟨rfl, y1⟩; have y1 : Chg [] w2 u1 := (Chg.refl [] w2).drew.trans y1 (by simp))
 refine hK.out _ _ (by (try dsimp only); exact y1.weak (by simp)) (fun hHeld => ?_)
 clear hK K
 (try simp only [Act.put, qI, qO, qU])
 refine rdy 9 fun K hK => ?_
 go_simp
 (go_at_call 104; refine (hset _ (m2.new_ y1)).mono ?_; rintro e u2 ⟨rfl, y2_, m4⟩)
 refine hK.out _ _ (by (try dsimp only); exact hHeld.trans y2_ (by simp)) (fun hHeld => ?_)
 clear hK K
 (try simp only [Act.put, qI, qO, qU])
 refine wpAnyH_done (by kernel_rfl) ?_ _
 refine NoPanic.normal ?_
 go_wp2_with fail
 go_end0
 have yy := chg_two y2 y1 y2_
 exact ⟨rfl, hend _ yy (Blk.chg_ (Blk.chg_ P2 y1 (by simp)) y2_ (by simp; exact fun e => hpb2 e.symm)) m4, yy.weak (fun k _ h => by simp only [List.mem_cons, List.not_mem_nil, or_false] at h; rcases h with rfl | rfl <;> simp [hbB])⟩
def emptyS (n : Nat) (s : Sr) (p : Int) : Nat → Sr
 | 0 => s
 | k + 1 => setS n (emptyS n s p k) p k Slt.no 0
theorem empty_has (n : Nat) (s : Sr) (p : Int) (i : Int) : ∀ k, hasS (emptyS n s p k) p i = hasS s p i
 | 0 => rfl
 | k + 1 => by
  rw [← empty_has n s p i k]
  show hasS (setS n _ p k Slt.no 0) p i = _
  unfold hasS
  rw [setS_L, some_setP]
set_option maxRecDepth 100000 in
set_option maxHeartbeats 2000000 in
theorem Sempty_any (p : Int) (w : World) (h : StX w q hp hb n a m s fp mp FS v B) (hs : (pgAt s.L p).isSome = true) :
  Calls Tryz.prog 101 #[.pointer (some ⟨q, 0, none⟩), .int .i64 p] w fun e w' => e = .returned (.tuple #[]) ∧ StX w' q hp hb n a m (emptyS n s p 8) fp mp FS v B ∧ Chg (hb :: B) w w' := by
 have hlay := fun (k : Nat) (hk : k < 8) (w' : World) (H : StX w' q hp hb n a m (emptyS n s p k) fp mp FS v B) => Slay_any p k Slt.no 0 w' H (by rw [empty_has]; unfold hasS; rw [hs]; simp; omega)
 simp only [Slt.cl, Slt.no] at hlay
 go_enter Tryz.func101, Tryz.ntmps101
 go_wp2_with fail
 go_loopw [5] (fun s5 wr => ∃ k : Nat, k ≤ 8 ∧ s5 = .int .i64 k ∧ StX wr q hp hb n a m (emptyS n s p k) fp mp FS v B ∧ Chg (hb :: B) w wr) (fun s5 _ => 8 - (intOf s5).toNat)
 case atStart => exact ⟨0, by omega, rfl, h, Chg.refl _ _⟩
 obtain ⟨k, hk, rfl, H, y⟩ := hrel
 clear h
 by_cases hlt : k < 8
 ·have hz : (k : Int) < 8 := by omega
  go_wp2_with fail
  refine (hlay k hlt wr H).mono ?_; rintro e w2 ⟨rfl, H2, y2⟩
  clear hlay H
  go_wp2_with fail
  go_roundw
  case rel => exact ⟨k + 1, by omega, by go_num, H2, y.trans y2 (fun _ _ h => h)⟩
  case measure => simp [intOf]; omega
 have hz : ¬ (k : Int) < 8 := by omega
 obtain rfl : k = 8 := by omega
 clear hlay
 go_wp2_with fail
 go_end0
 exact ⟨rfl, H, y⟩
end
end Go.Proofs.YtmbgepafpcbakaaGreatDoor
namespace Go.Proofs.YtmbgepafpcbakaaGreatDoor
open Go.RowKit Go.Maps Go.Shelf
attribute [local go_sem] Oper.semAt_some
theorem wpIn_scope_label {n l : Nat} {P : Program} {Q : Exit → Act → World → Prop} {a : Act} {w : World} {c : Code} (h : c.wpIn Fence.wide n P (Exit.noGoto Q) a w) : (Code.scope ((Code.label l).seq c)).wpIn Fence.wide n P Q a w :=
 wpIn_wide.2 (wp_scope_straight (wpIn_wide.1 (wpIn_seq (wpIn_label (by simpa [Exit.then] using h)))))
def KpS (m : Nat) (W W' : World) : Prop := Below m W W' ∧ ∀ (k : Nat) (cs : Array Value) (t : TypeId) (f : Nat × Nat), t = 47 → W.heap[k]? = some (Obj.cells cs t f) → W'.heap[k]? = some (Obj.cells cs t f)
theorem KpS.t {m : Nat} {A B C : World} (h : KpS m A B) (k : KpS m B C) : KpS m A C := ⟨h.1.trans k.1, fun i cs t f ht ho => k.2 i cs t f ht (h.2 i cs t f ht ho)⟩
theorem KpS.b {m : Nat} {w : World} (hn : m ≤ w.heap.size) (W : World) (l : Nat) (o o' : Obj) (hl : w.heap.size ≤ l) (h : W.heap[l]? = some o) (hc : o.isCells = false) (hw : o.isWalk = false) : KpS m W (W.putObj l o') :=
 ⟨belowK_b hn W l o o' hl h hc hw, fun i cs t f _ hi => by
  have hne : i ≠ l := fun e => by
   subst e
   rw [h] at hi; injection hi with hi; subst hi; cases hc
  exact ((grownBy_putObj' W l o').block i (Array.getElem?_eq_some_iff.1 hi).1 (fun e => hne (Option.some.inj e))).trans hi⟩
theorem KpS.blk {m : Nat} {W W' : World} (h : KpS m W W') {g : Nat} {cs : Array Value} (hb : Blk W g 47 cs) : Blk W' g 47 cs := h.2 g _ _ _ rfl hb
theorem KpS.chg {m : Nat} {w W W' : World} (h : KpS m W W') (hc : Chg [] w W) (hm : m = w.heap.size) : Chg [] w W' := by
 subst hm; exact Chg.of_below (hc.below.trans h.1)
def StpS (m : Nat) (W W' : World) : Prop := KeepsOthers W W' ∧ KpS m W W'
theorem StpS.t {m : Nat} {A B C : World} (h : StpS m A B) (k : StpS m B C) : StpS m A C := ⟨h.1.trans k.1, h.2.t k.2⟩
theorem StpS.of_chg {m : Nat} {T : List Nat} {W W' : World} (h : Chg T W W') (hz : m ≤ W.heap.size) (hT : ∀ i ∈ T, m ≤ i ∧ ∃ cs t, Blk W i t cs ∧ (t == 47) = false) : StpS m W W' :=
  ⟨⟨h.size, fun k o hk ho => by
      refine (h.block k (Array.getElem?_eq_some_iff.1 hk).1 fun hi => ?_).trans hk
      obtain ⟨_, cs, t, hb, _⟩ := hT k hi
      rw [show W.heap[k]? = _ from hb] at hk
      injection hk with hk; subst hk; cases ho⟩,
   ⟨h.os, h.tape, h.output, h.size, fun k hk => h.block k (Nat.lt_of_lt_of_le hk hz) fun hi => by have := (hT k hi).1; omega⟩,
   fun k cs t f ht ho => by
      refine (h.block k (Array.getElem?_eq_some_iff.1 ho).1 fun hi => ?_).trans ho
      obtain ⟨_, cs', t', hb, h1⟩ := hT k hi
      rw [show W.heap[k]? = _ from hb] at ho
      injection ho with ho; injection ho with _ ho _
      subst ho
      rw [ht] at h1; simp at h1⟩
theorem StpS.new {m : Nat} {W W' : World} (h : Chg [] W W') (hz : m ≤ W.heap.size) : StpS m W W' := StpS.of_chg h hz (by simp)
abbrev Ix8 (N : Nat) := Fin (8 * N)
def allI (N : Nat) : List (Ix8 N) := List.finRange (8 * N)
def encI {N : Nat} (B : List Nat) (x : Ix8 N) : Array Value := #[.pointer (some ⟨B.getD (x.val / 8) 0, 0, none⟩), .int .i64 ((x.val % 8 : Nat) : Int)]
theorem allI_take {N k : Nat} (h : k < 8 * N) : (allI N).take (k + 1) = (allI N).take k ++ [⟨k, h⟩] := by
 unfold allI
 rw [List.take_add_one, List.getElem?_eq_getElem (by simpa using h)]; simp
theorem allI_full (N : Nat) : (allI N).take (8 * N) = allI N := by unfold allI; exact List.take_of_length_le (by simp)
set_option maxRecDepth 100000 in
set_option maxHeartbeats 4000000 in
theorem slots1_in (d l bb : Nat) {q hp hb n a m fp mp : Nat} {s : Sr} {FS B : List Nat} {v : Value} (w0 : World) (h : StX w0 q hp hb n a m s fp mp FS v B) (J Jx : List (Ix8 s.L.length) → World → Prop) (W1 : World)
  (hY : ∀ pre x W2, J pre W2 → pre.length < 8 * s.L.length → YieldAt Fence.wide (d - 1) Tryz.prog l (encI B x) W2 fun e W' =>
   (e = .returned (.bool true) ∧ J (pre ++ [x]) W' ∧ KpS w0.heap.size W2 W') ∨ (e = .returned (.bool false) ∧ Jx (pre ++ [x]) W'))
  (hb1 : Chg [] w0 W1) (hbb : Blk W1 bb 47 #[.pointer (some ⟨q, 0, none⟩)]) (h0 : J [] W1) :
  CallsIn Fence.wide d Tryz.prog 166 #[.func (.yield l) #[] #[], .pointer (some ⟨bb, 0, none⟩)] W1 fun e W' => (∃ v, e = .returned v) ∧
   ((∃ ys, ys = allI s.L.length ∧ J ys W') ∨ (∃ pre, pre <+: allI s.L.length ∧ Jx pre W')) := by
 refine callsIn_of_wp Tryz.func166 rfl trivial ?_ rfl
 simp only [Tryz.ntmps166, List.size_toArray, List.length_cons, List.length_nil, Nat.reduceAdd, Nat.reduceSub, Array.replicate_succ, Array.replicate_zero, List.push_toArray, List.append_toArray, List.nil_append, List.cons_append]
 obtain ⟨A, c, rfl⟩ := h.od.form
 obtain ⟨c0, c1, c2, c3⟩ := (h.new hb1).c4
 have b0 := hbb.cell 0
 simp only [qA, qZ] at b0
 rw [List.length_map] at c3
 gi_wp2
 refine wpIn_scope_label ?_
 gi_wp2
 clear c0 c1 c2 c3 b0
 have hbl := h.bl
 gi_loopw [11] (fun s11 wr => ∃ j : Nat, j ≤ s.L.length ∧ s11 = .int .i64 j ∧ Chg [] w0 wr ∧ Blk wr bb 47 #[.pointer (some ⟨q, 0, none⟩)] ∧ J ((allI s.L.length).take (8 * j)) wr ∧ W1.heap.size ≤ wr.heap.size) (fun s11 _ => s.L.length - (intOf s11).toNat)
 case atStart => exact ⟨0, Nat.zero_le _, rfl, hb1, hbb, by simpa using h0, Nat.le_refl _⟩
 obtain ⟨j, hj, rfl, hc, hbk, hJj, hsz⟩ := hrel
 clear hb1 hbb h0
 by_cases hlt : j < s.L.length
 ·have hltz : (j : Int) < (s.L.length : Int) := by omega
  obtain ⟨g, c', hgc, hle1, hle2⟩ := h.od.pos_ (by rw [List.length_map]; omega)
  rw [List.length_map] at hle1
  injection hgc with hA _ _
  subst hA
  have hp : s.L[j]? = some (s.L[j]'hlt) := List.getElem?_eq_getElem hlt
  have hbj : B[j]? = some (B[j]'(by omega)) := List.getElem?_eq_getElem (by omega)
  have hod := (h.od.chg hc (by simp)).cell j (by rw [List.length_map]; exact hlt)
  have hfe : (s.L.map Pg.f).getD j 0 = (s.L[j]'hlt).f := by simp [List.getD_eq_getElem?_getD, hlt]
  rw [hfe] at hod
  have hfr := h.ge _ (List.getElem_mem hlt)
  have hlk := fun W (y : Chg [] w0 W) => (h.new y).look (s.L[j]'hlt).f (by have := h.hm.le; omega)
  rw [blkF_at h.nd hp hbj] at hlk
  have hBj : B.getD j 0 = B[j]'(by omega) := by simp [List.getD_eq_getElem?_getD, show j < B.length by omega]
  generalize B[j]'(by omega) = b at *
  generalize (s.L[j]'hlt).f = f at *
  unfold ptrO at hlk
  clear hfe hp hbj
  gi_wp2
  gi_loopw [15] (fun s15 wr2 => ∃ k : Nat, k ≤ 8 ∧ s15 = .int .i64 k ∧ Chg [] w0 wr2 ∧ Blk wr2 bb 47 #[.pointer (some ⟨q, 0, none⟩)] ∧ J ((allI s.L.length).take (8 * j + k)) wr2 ∧ W1.heap.size ≤ wr2.heap.size) (fun s15 _ => 8 - (intOf s15).toNat)
  case atStart => exact ⟨0, by omega, rfl, hc, hbk, hJj, hsz⟩
  obtain ⟨k, hk, rfl, hc2, hbk2, hJk, hsz2⟩ := hrel
  clear hc hbk hJj hsz hod
  by_cases hk8 : k < 8
  ·have hkz : (k : Int) < 8 := by omega
   have hix : 8 * j + k < 8 * s.L.length := by omega
   have hY1 := hY ((allI s.L.length).take (8 * j + k)) ⟨8 * j + k, hix⟩
   have hlen : ((allI s.L.length).take (8 * j + k)).length < 8 * s.L.length := by rw [List.length_take]; unfold allI; rw [List.length_finRange]; omega
   have hen : encI B (⟨8 * j + k, hix⟩ : Ix8 s.L.length) = #[.pointer (some ⟨b, 0, none⟩), .int .i64 (k : Int)] := by
    unfold encI
    rw [show (8 * j + k) / 8 = j by omega, show (8 * j + k) % 8 = k by omega, hBj]
   rw [hen, ← allI_take hix] at hY1
   obtain ⟨c0, c1, c2, c3⟩ := (h.new hc2).c4
   have b0 := hbk2.cell 0
   simp only [qA, qZ] at b0
   have hl := hlk wr hc2
   obtain ⟨fn, tmps, assign, body, hy, hR⟩ := hY1 wr hJk hlen
   clear hY hlk hY1 hen hlen
   gi_wp2
   (first | refine ⟨trivial, (fun hh => by cases hh), ?_⟩ | refine ⟨(fun hh => by cases hh), ?_⟩ | refine ⟨trivial, ?_⟩ | skip)
   refine hR.mono ?_; rintro e W5 (⟨rfl, hJ5, hk5⟩ | ⟨rfl, hJx5⟩)
   ·clear hR hy c0 c1 c2 c3 b0 hl
    gi_wp2
    go_roundw
    case rel => exact ⟨k + 1, by omega, by go_num, hk5.chg hc2 rfl, hk5.blk hbk2, hJ5, Nat.le_trans hsz2 hk5.1.size⟩
    case measure => simp [intOf]; omega
   clear hR hy c0 c1 c2 c3 b0 hl
   gi_wp2
   rw [Exit.noGoto_normal]
   go_end0
   exact ⟨⟨_, rfl⟩, .inr ⟨_, List.take_prefix _ _, hJx5⟩⟩
  obtain rfl : k = 8 := by omega
  have hkz : ¬ (8 : Int) < 8 := by omega
  clear hY hlk
  gi_wp2
  go_roundw
  case rel => exact ⟨_, _, _, ⟨j + 1, by omega, rfl, hJk⟩, rfl, rfl, by go_num⟩
  case measure => simp [intOf]; omega
 obtain rfl : j = s.L.length := by omega
 have hltz : ¬ (s.L.length : Int) < (s.L.length : Int) := by omega
 clear hY
 rw [allI_full] at hJj
 gi_wp2
 go_end0
 exact ⟨⟨_, rfl⟩, .inl ⟨_, rfl, hJj⟩⟩
theorem slots_stops (d bb : Nat) {q hp hb n a m fp mp : Nat} {s : Sr} {FS B : List Nat} {v : Value} (w0 w : World) (h : StX w0 q hp hb n a m s fp mp FS v B) (hb1 : Chg [] w0 w) (hbb : Blk w bb 47 #[.pointer (some ⟨q, 0, none⟩)]) :
  SeqStopsK Fence.wide d Tryz.prog 166 #[.pointer (some ⟨bb, 0, none⟩)] (encI B) (KpS w0.heap.size) (fun ys => ys = allI s.L.length) (fun pre => pre <+: allI s.L.length) (8 * s.L.length) w :=
 fun l J Jx W1 hW1 _ _ hY h0 =>
  have hc := Chg.of_below hW1
  slots1_in d l bb w0 h J Jx W1 hY (hb1.trans hc (by simp)) (hbb.chg_ hc (by simp)) h0
set_option maxHeartbeats 400000 in
theorem slots_any (q : Nat) (w : World) :
  Calls Tryz.prog 90 #[.pointer (some ⟨q, 0, none⟩)] w fun e w' => e = .returned (.func (.func 166) #[] #[.pointer (some ⟨w.heap.size, 0, none⟩)]) ∧ w' = w.alloc (.cells #[.pointer (some ⟨q, 0, none⟩)] 47) := by
 have hmf : ∀ (fn : Fn) (first cap : Array Value) (w : World), (Instr.makeFunc fn first cap).run Tryz.prog w = .ok (.func fn first cap) w := fun _ _ _ _ => rfl
 go_enter Tryz.func90, Tryz.ntmps90
 go_wp2
 go_ret
 exact ⟨rfl, rfl⟩
set_option maxRecDepth 100000 in
theorem run_inKy (a b : Ky) (w : World) : (Op.equalIn 10000 85 (.agg a.cs) (.agg b.cs)).run Tryz.prog w = .ok (decide (a = b)) w := by
 have e : decide (a = b) = (a.g == b.g && (a.lev == b.lev && a.role == b.role)) := by
  rw [Bool.eq_iff_iff, decide_eq_true_eq, Ky.ext_]; simp
 rw [e]
 unfold Ky.cs
 rw [run_equalIn_struct w 9999 _ _ _ (by kernel_rfl) (by kernel_rfl)]
 simp only [Program.fieldsOf, Tryz.underlying85]
 refine fields_step (c := a.g == b.g) (by decide) (part_int w _ .i64 Tryz.underlying3 _ 0 a.g rfl) (part_int w _ .i64 Tryz.underlying3 _ 0 b.g rfl) (run_equalIn_int w 9998 _ .i64 .i64 _ _ Tryz.underlying3) ?_
 refine fields_step (c := a.lev == b.lev) (by decide) (part_int w _ .i64 Tryz.underlying3 _ 1 a.lev rfl) (part_int w _ .i64 Tryz.underlying3 _ 1 b.lev rfl) (run_equalIn_int w 9998 _ .i64 .i64 _ _ Tryz.underlying3) ?_
 exact fields_int Tryz.underlying3 (by decide) rfl (part_int w _ .i64 Tryz.underlying3 _ 2 a.role rfl) (part_int w _ .i64 Tryz.underlying3 _ 2 b.role rfl) fields_nil
theorem run_eqKy (a b : Ky) (w : World) : (binOp .eql 85 (.agg a.cs) (.agg b.cs)).run Tryz.prog w = .ok (.bool (decide (a = b))) w := by
 rw [run_eql_struct, run_inKy]; rfl
theorem fields_lastS {d : Nat} {xs ys : Array Value} {w : World} {f : Field} {fs : List Field} {x y : Value} {c : Bool} (hn : f.name ≠ "_") (hx : (part f.type xs f.offset).run Tryz.prog w = .ok x w) (hy : (part f.type ys f.offset).run Tryz.prog w = .ok y w)
  (he : (Op.equalIn d f.type x y).run Tryz.prog w = .ok c w) (h : (Op.eqFields d xs ys fs).run Tryz.prog w = .ok true w) : (Op.eqFields d xs ys (f :: fs)).run Tryz.prog w = .ok c w := by
 have := fields_step hn hx hy he h
 simpa using this
set_option maxRecDepth 100000 in
theorem run_inSl (a b : Slt) (w : World) : (Op.equalIn 10000 99 (.agg a.cl.toArray) (.agg b.cl.toArray)).run Tryz.prog w = .ok (decide (a = b)) w := by
 have e : decide (a = b) = (a.kind == b.kind && (a.to_ == b.to_ && (a.r.w == b.r.w && (a.r.u == b.r.u && a.r.x == b.r.x)))) := by
  rw [Bool.eq_iff_iff, decide_eq_true_eq, Slt.ext_, ← Rg.eqb_iff]; simp [Rg.eqb]
 rw [e]
 unfold Slt.cl
 rw [run_equalIn_struct w 9999 _ _ _ (by kernel_rfl) (by kernel_rfl)]
 simp only [Program.fieldsOf, Tryz.underlying99]
 have hR : (Op.equalIn 9999 54 (.agg #[.bool a.r.w, .bool a.r.u, .bool a.r.x]) (.agg #[.bool b.r.w, .bool b.r.u, .bool b.r.x])).run Tryz.prog w = .ok (a.r.w == b.r.w && (a.r.u == b.r.u && a.r.x == b.r.x)) w := by
  rw [run_equalIn_struct w 9998 _ _ _ (by kernel_rfl) (by kernel_rfl)]
  simp only [Program.fieldsOf, Tryz.underlying54]
  exact (fields_bool (by decide) rfl (part_bool w _ Tryz.underlying4 _ 0 a.r.w rfl) (part_bool w _ Tryz.underlying4 _ 0 b.r.w rfl) (fields_bool (by decide) rfl (part_bool w _ Tryz.underlying4 _ 1 a.r.u rfl) (part_bool w _ Tryz.underlying4 _ 1 b.r.u rfl) (fields_last (by decide) rfl (part_bool w _ Tryz.underlying4 _ 2 a.r.x rfl) (part_bool w _ Tryz.underlying4 _ 2 b.r.x rfl) fields_nil)))
 refine fields_step (c := a.kind == b.kind) (by decide) (part_int w _ .i64 Tryz.underlying3 _ 0 a.kind rfl) (part_int w _ .i64 Tryz.underlying3 _ 0 b.kind rfl) (run_equalIn_int w 9998 _ .i64 .i64 _ _ Tryz.underlying3) ?_
 refine fields_step (c := a.to_ == b.to_) (by decide) (part_int w _ .i64 Tryz.underlying3 _ 1 a.to_ rfl) (part_int w _ .i64 Tryz.underlying3 _ 1 b.to_ rfl) (run_equalIn_int w 9998 _ .i64 .i64 _ _ Tryz.underlying3) ?_
 exact fields_lastS (c := a.r.w == b.r.w && (a.r.u == b.r.u && a.r.x == b.r.x)) (by decide) (by kernel_rfl) (by kernel_rfl) hR fields_nil
theorem run_eqSl (a b : Slt) (w : World) : (binOp .eql 99 (.agg a.cl.toArray) (.agg b.cl.toArray)).run Tryz.prog w = .ok (.bool (decide (a = b))) w := by
 have h := run_inSl a b w
 unfold Slt.cl at h ⊢
 rw [run_eql_struct, h]; rfl
def pgX (L : List Pg) (x : Ix8 L.length) : Pg := L[x.val / 8]'(by have := x.isLt; omega)
theorem StX.pgx {w : World} {q hp hb n a m fp mp : Nat} {s : Sr} {FS B : List Nat} {v : Value} (h : StX w q hp hb n a m s fp mp FS v B) (x : Ix8 s.L.length) : ∃ b, encI B x = #[.pointer (some ⟨b, 0, none⟩), .int .i64 ((x.val % 8 : Nat) : Int)] ∧ PgB w b (pgX s.L x) ∧ pgX s.L x ∈ s.L := by
 have hx := x.isLt
 have hbl := h.bl
 have hB : B[x.val / 8]? = some (B[x.val / 8]'(by omega)) := List.getElem?_eq_getElem _
 refine ⟨B[x.val / 8]'(by omega), ?_, h.pg _ _ _ (List.getElem?_eq_getElem (by omega)) hB, List.getElem_mem _⟩
 unfold encI
 simp [List.getD_eq_getElem?_getD, show x.val / 8 < B.length by omega]
theorem pgx_pref {L : List Pg} {pre : List (Ix8 L.length)} {x : Ix8 L.length} (h : pre ++ [x] <+: allI L.length) : x.val = pre.length := by
 obtain ⟨r, hr⟩ := h
 have h1 : (allI L.length)[pre.length]? = some x := by rw [← hr]; simp
 unfold allI at h1
 rw [List.getElem?_eq_some_iff] at h1
 obtain ⟨h2, h3⟩ := h1
 simp at h3
 rw [← h3]
theorem pref_mem {N : Nat} {pre : List (Ix8 N)} (h : pre <+: allI N) {k : Nat} (hk : k < pre.length) (hN : k < 8 * N) : (⟨k, hN⟩ : Ix8 N) ∈ pre := by
 obtain ⟨r, hr⟩ := h
 have h1 : (allI N)[k]? = pre[k]? := by rw [← hr, List.getElem?_append_left hk]
 unfold allI at h1
 rw [List.getElem?_eq_getElem (by simpa using hN)] at h1
 refine List.mem_of_getElem? (i := k) ?_
 rw [← h1]; simp
theorem pgOf_first {L : List Pg} {k : Ky} {pre : List (Ix8 L.length)} {x : Ix8 L.length} (h : pre ++ [x] <+: allI L.length) (hno : ∀ y ∈ pre, (pgX L y).k ≠ k) (hx : (pgX L x).k = k) : pgOf L k = some (pgX L x) := by
 have hpx := pgx_pref h
 have hlt := x.isLt
 have hp : pre <+: allI L.length := (List.prefix_append pre [x]).trans h
 have hi : x.val / 8 < L.length := by omega
 unfold pgOf
 rw [List.find?_eq_some_iff_getElem]
 refine ⟨by simpa using hx, x.val / 8, hi, rfl, fun j hj => ?_⟩
 have hm := pref_mem hp (k := 8 * j) (by omega) (by omega)
 have := hno _ hm
 simp only [pgX, show 8 * j / 8 = j by omega] at this
 simpa using this
theorem pgOf_no {L : List Pg} {k : Ky} (hno : ∀ y ∈ allI L.length, (pgX L y).k ≠ k) : pgOf L k = none := by
 rw [pgOf_none]
 intro p hp
 obtain ⟨j, hj, rfl⟩ := List.getElem_of_mem hp
 have := hno ⟨8 * j, by omega⟩ (by unfold allI; exact List.mem_finRange _)
 simpa only [pgX, show 8 * j / 8 = j by omega] using this
def findV (L : List Pg) (k : Ky) : Int := ((pgOf L k).map Pg.f).getD 0
attribute [local go_sem] Oper.semAt_some
structure FindI (kb rb ob m1 : Nat) (k : Ky) (L : List Pg) (w : World) (pre : List (Ix8 L.length)) (W : World) : Prop where
 no : ∀ y ∈ pre, (pgX L y).k ≠ k
 hk : Blk W kb 85 k.cs
 hr : ∃ u, Blk W rb 3 #[u]
 ho : ∃ u, Blk W ob 4 #[u]
 ch : Chg [] w W
 lo : m1 ≤ W.heap.size
structure FindX (rb ob : Nat) (k : Ky) (L : List Pg) (w : World) (pre : List (Ix8 L.length)) (W : World) : Prop where
 why : ∃ l x, pre = l ++ [x] ∧ (∀ y ∈ l, (pgX L y).k ≠ k) ∧ (pgX L x).k = k ∧ Blk W rb 3 #[.int .i64 (pgX L x).f]
 ho : Blk W ob 4 #[.bool true]
 ch : Chg [] w W
theorem FindI.own {kb rb ob m1 : Nat} {k : Ky} {L : List Pg} {w : World} {B : Nat} (hB : w.heap.size ≤ B) : OwnFrom B (FindI kb rb ob m1 k L w) := by
 intro pre W W' row h hg hr
 have hr' := fun r e => (hr r e).2
 obtain ⟨u, h1⟩ := h.hr
 obtain ⟨u2, h2⟩ := h.ho
 exact ⟨h.no, blk_kept h.hk hg hr', ⟨u, blk_kept h1 hg hr'⟩, ⟨u2, blk_kept h2 hg hr'⟩, chg_kept h.ch hB hg hr, Nat.le_trans h.lo hg.size⟩
theorem FindX.own {rb ob : Nat} {k : Ky} {L : List Pg} {w : World} {B : Nat} (c : Code) (hB : w.heap.size ≤ B) : OwnFrom B (fun pre W => c = .ret ∧ FindX rb ob k L w pre W) := by
 rintro pre W W' row ⟨hc, h⟩ hg hr
 have hr' := fun r e => (hr r e).2
 obtain ⟨l, x, e1, e2, e3, e4⟩ := h.why
 exact ⟨hc, ⟨l, x, e1, e2, e3, blk_kept e4 hg hr'⟩, blk_kept h.ho hg hr', chg_kept h.ch hB hg hr⟩
theorem cells2_ret {P : Program} {fn : Func} {p q : Tmp} {ty ty2 : TypeId} (h : fn.results = #[.cell p ty, .cell q ty2]) {tmps : Array Value} {w : World} {g g2 : Nat} {t t2 : TypeId} {u u2 : Value} {d d2 : TypeDesc} (hb : Blk w g t #[u]) (hb2 : Blk w g2 t2 #[u2])
  (hp : tmps.getD p undef = .pointer (some ⟨g, 0, none⟩)) (hq : tmps.getD q undef = .pointer (some ⟨g2, 0, none⟩)) (hu : P.underlying ty = some d) (hd : (match d with | .struct _ | .array _ _ => false | _ => true) = true)
  (hu2 : P.underlying ty2 = some d2) (hd2 : (match d2 with | .struct _ | .array _ _ => false | _ => true) = true) :
  (results fn tmps).run P w = .ok (.tuple #[u, u2]) w := by
 have hp' : tmps[p]?.getD undef = .pointer (some ⟨g, 0, none⟩) := by simpa using hp
 have hq' : tmps[q]?.getD undef = .pointer (some ⟨g2, 0, none⟩) := by simpa using hq
 have hl : (loadVar ty ⟨g, 0, none⟩).run P w = .ok u w := by
  have hc := hb.cell 0
  simp only [qA, qZ] at hc
  cases d <;> simp_all [loadVar, isAgg, underlying, Result.andThen]
 have hl2 : (loadVar ty2 ⟨g2, 0, none⟩).run P w = .ok u2 w := by
  have hc := hb2.cell 0
  simp only [qA, qZ] at hc
  cases d2 <;> simp_all [loadVar, isAgg, underlying, Result.andThen]
 simp [results, h, hp', hq', asAddr, hl, hl2, Result.andThen]
set_option maxRecDepth 100000 in
set_option maxHeartbeats 8000000 in
theorem Sfind_any {q hp hb n a m fp mp : Nat} {s : Sr} {FS B : List Nat} {v : Value} (k : Ky) (w : World) (h : StX w q hp hb n a m s fp mp FS v B) :
  Calls Tryz.prog 38 #[.pointer (some ⟨q, 0, none⟩), .agg k.cs] w fun e w' => e = .returned (.tuple #[.int .i64 (findV s.L k), .bool (pgOf s.L k).isSome]) ∧ Chg [] w w' := by
 have hro : Fence.wide.round = none := rfl
 refine (callsIn_wide (n := 3)).1 ?_
 refine callsIn_of_wp_marks Tryz.func38 rfl trivial ?_ hro
 simp only [Tryz.ntmps38, List.size_toArray, List.length_cons, List.length_nil, Nat.reduceAdd, Nat.reduceSub, Array.replicate_succ, Array.replicate_zero, List.push_toArray, List.append_toArray, List.nil_append, List.cons_append]
 have k1 := ((Blk.new w 85 k.cs).alloc (.cells #[.int .i64 0] 3)).alloc (.cells #[.bool false] 4)
 have r1 := (Blk.new (w.alloc (.cells k.cs 85)) 3 #[.int .i64 0]).alloc (.cells #[.bool false] 4)
 have o1 := Blk.new ((w.alloc (.cells k.cs 85)).alloc (.cells #[.int .i64 0] 3)) 4 #[.bool false]
 rw [World.size_alloc] at r1
 rw [World.size_alloc, World.size_alloc] at o1
 have y1 := (((Chg.refl [] w).alloc (.cells k.cs 85)).alloc (.cells #[.int .i64 0] 3)).alloc (.cells #[.bool false] 4)
 obtain ⟨kg, kl, kr⟩ := k
 simp only [Ky.cs] at *
 gi_wp2
 generalize ((w.alloc (.cells #[.int .i64 kg, .int .i64 kl, .int .i64 kr] 85)).alloc (.cells #[.int .i64 0] 3)).alloc (.cells #[.bool false] 4) = w1 at *
 (first | refine ⟨trivial, (fun hh => by cases hh), ?_⟩ | refine ⟨(fun hh => by cases hh), ?_⟩ | refine ⟨trivial, ?_⟩ | skip)
 refine (callsIn_wide.2 (slots_any q _)).mono ?_; rintro e w2 ⟨rfl, hw2⟩
 have y12 : Chg [] w1 w2 := by rw [hw2]; exact (Chg.refl [] w1).alloc _
 have b2 : Blk w2 w1.heap.size 47 #[.pointer (some ⟨q, 0, none⟩)] := by rw [hw2]; exact Blk.new _ _ _
 replace k1 := k1.chg_ y12 (by simp); replace r1 := r1.chg_ y12 (by simp); replace o1 := o1.chg_ y12 (by simp); replace y1 := y1.trans y12 (by simp)
 clear hw2 y12
 generalize w1.heap.size = bb at *
 have hI0 : FindI w.heap.size (w.heap.size + 1) (w.heap.size + 1 + 1) w2.heap.size ⟨kg, kl, kr⟩ s.L w [] w2 := ⟨by simp, k1, ⟨_, r1⟩, ⟨_, o1⟩, y1, Nat.le_refl _⟩
 have hml : w.heap.size ≤ w2.heap.size := y1.size
 clear k1 r1 o1
 gi_wp2
 refine wpIn_rangeFunc_ownG (a := _) hro (by decide) (gf := 166) (lb := #[.pointer (some ⟨bb, 0, none⟩)]) rfl trivial (enters_of Tryz.func166 (by kernel_rfl) rfl)
  (slots_stops (3 - 1) bb w w2 h y1 b2) KpS.t (KpS.b hml) (Below.refl _ _) (fun _ => rfl)
  (FindI w.heap.size (w.heap.size + 1) (w.heap.size + 1 + 1) w2.heap.size ⟨kg, kl, kr⟩ s.L w) (fun c pre W => c = .ret ∧ FindX (w.heap.size + 1) (w.heap.size + 1 + 1) ⟨kg, kl, kr⟩ s.L w pre W) (FindI.own hml) (fun c => FindX.own c hml) hI0
  (fun x => { tmps := #[.pointer (some ⟨q, 0, none⟩), .agg #[.int .i64 kg, .int .i64 kl, .int .i64 kr], undef, .pointer (some ⟨w.heap.size, 0, none⟩), .pointer (some ⟨w.heap.size + 1, 0, none⟩), .pointer (some ⟨w.heap.size + 1 + 1, 0, none⟩), .pointer (some ⟨B.getD (x.val / 8) 0, 0, none⟩), .pointer (some ⟨q, 0, none⟩), .func (.func 166) #[] #[.pointer (some ⟨bb, 0, none⟩)], .pointer (some ⟨B.getD (x.val / 8) 0, 0, none⟩), .int .i64 ((x.val % 8 : Nat) : Int), undef, undef, undef, undef, undef, undef, undef, undef, undef, undef], defers := [] }) ?assign ?body ?done ?stop
 case assign =>
  intro l x W K hK
  unfold encI
  gi_wp2
  exact hK
 case body =>
  rintro l pre x W hI hlt
  obtain ⟨b, hen, hpb0, hmem⟩ := h.pgx x
  have hgb : B.getD (x.val / 8) 0 = b := by unfold encI at hen; simpa using hen
  rw [hgb]
  have hpb : PgB W b (pgX s.L x) := Blk.chg_ hpb0 hI.ch (by simp)
  have hkb := hI.hk
  obtain ⟨u1, hr⟩ := hI.hr
  obtain ⟨u2, ho⟩ := hI.ho
  have hq := fun w' => run_eqKy (pgX s.L x).k ⟨kg, kl, kr⟩ w'
  have hno := hI.no
  have hch := hI.ch
  have hlo := hI.lo
  clear hI hpb0 hen hgb
  simp only [Ky.cs] at hq hkb
  obtain ⟨p, hp⟩ : ∃ p, pgX s.L x = p := ⟨_, rfl⟩
  rw [hp] at hpb hq
  replace hp := Lib.hid hp
  cases hkey : decide (p.k = ⟨kg, kl, kr⟩) with
  | true =>
   rw [hkey] at hq
   replace hkey := Lib.hid hkey
   gi_wp2
   refine wpIn_region_only (S := fun w' => Chg [] W w') (by kernel_rfl) (by kernel_rfl) ((Chg.refl [] W).drew) (fun hHeld => ?_)
   refine tq 0 11 _ ?_
   (try simp only [Act.put, qI, qO, qU])
   refine tq 1 12 _ ?_
   refine tq 2 13 _ ?_
   (refine tk 3 14 ?_ ?_ ?_; rotate_left; · (intro w hSw; (try dsimp only at hSw); have b_ := Blk.chg_ hpb hSw (by simp); obtain ⟨d0, d1, d2, d3⟩ := PgB.head b_; go_simp; (try with_reducible rfl)))
   (refine tk 4 15 ?_ ?_ ?_; rotate_left; · (intro w hSw; (try dsimp only at hSw); have b_ := hkb.chg_ hSw (by simp); have d0 := b_.cell 0; have d1 := b_.cell 1; have d2 := b_.cell 2; simp only [qA, qZ, qS] at d0 d1 d2; go_simp; (try with_reducible rfl)))
   (try simp only [Act.put, qI, qO, qU])
   refine tq 5 16 _ ?_
   (try simp only [Act.put, qI, qO, qU])
   refine wpAnyH_done (by kernel_rfl) ?_ _
   refine Only.normal ?_
   have hhd := PgB.head hpb
   obtain ⟨f0, _, _, _⟩ := hhd
   have c0 := hr.cell 0; have c1 := hr.frozen 0; have c2 := ho.cell 0; have c3 := ho.frozen 0
   simp only [qA, qZ] at c0 c2
   gi_wp2
   have hcc : Chg [w.heap.size + 1, w.heap.size + 1 + 1] W (((W.setCell ⟨w.heap.size + 1, 0, none⟩ (.int .i64 p.f)).setCell ⟨w.heap.size + 1 + 1, 0, none⟩ (.bool true)).drew) := (((Chg.refl _ W).setCell (p := ⟨w.heap.size + 1, 0, none⟩) (by simp) _).setCell (p := ⟨w.heap.size + 1 + 1, 0, none⟩) (by simp) _).drew
   have hst := StpS.of_chg (m := w.heap.size) hcc hch.size (by
    intro i hi
    simp only [List.mem_cons, List.not_mem_nil, or_false] at hi
    rcases hi with rfl | rfl
    ·exact ⟨by omega, _, _, hr, by decide⟩
    exact ⟨by omega, _, _, ho, by decide⟩)
   have hr2 : Blk (((W.setCell ⟨w.heap.size + 1, 0, none⟩ (.int .i64 p.f)).setCell ⟨w.heap.size + 1 + 1, 0, none⟩ (.bool true)).drew) (w.heap.size + 1) 3 #[.int .i64 p.f] := ((hr.set_ 0 (.int .i64 p.f)).far (p := ⟨w.heap.size + 1 + 1, 0, none⟩) (by simp) _).drew
   have ho2 : Blk (((W.setCell ⟨w.heap.size + 1, 0, none⟩ (.int .i64 p.f)).setCell ⟨w.heap.size + 1 + 1, 0, none⟩ (.bool true)).drew) (w.heap.size + 1 + 1) 4 #[.bool true] := ((ho.far (p := ⟨w.heap.size + 1, 0, none⟩) (by simp) _).set_ 0 (.bool true)).drew
   exact ⟨hst.1.from _, rfl, ⟨pre, x, rfl, hno, by rw [hp.out]; exact of_decide_eq_true hkey.out, by rw [hp.out]; exact hr2⟩, ho2, hst.2.chg hch rfl⟩
  | false =>
   rw [hkey] at hq
   replace hkey := Lib.hid hkey
   gi_wp2
   refine wpIn_region_only (S := fun w' => Chg [] W w') (by kernel_rfl) (by kernel_rfl) ((Chg.refl [] W).drew) (fun hHeld => ?_)
   refine tq 0 11 _ ?_
   refine tq 1 12 _ ?_
   refine tq 2 13 _ ?_
   (refine tk 3 14 ?_ ?_ ?_; rotate_left; · (intro w hSw; (try dsimp only at hSw); have b_ := Blk.chg_ hpb hSw (by simp); obtain ⟨d0, d1, d2, d3⟩ := PgB.head b_; go_simp; (try with_reducible rfl)))
   (try simp only [Act.put, qI, qO, qU])
   (refine tk 4 15 ?_ ?_ ?_; rotate_left; · (intro w hSw; (try dsimp only at hSw); have b_ := hkb.chg_ hSw (by simp); have d0 := b_.cell 0; have d1 := b_.cell 1; have d2 := b_.cell 2; simp only [qA, qZ, qS] at d0 d1 d2; go_simp; (try with_reducible rfl)))
   refine tq 5 16 _ ?_
   (try simp only [Act.put, qI, qO, qU])
   refine wpAnyH_done (by kernel_rfl) ?_ _
   refine Only.normal ?_
   gi_wp2
   have hst := StpS.new (m := w.heap.size) (Chg.refl [] W).drew hch.size
   refine ⟨hst.1.from _, hst.2, fun y hy => ?_, hkb.drew, ⟨u1, hr.drew⟩, ⟨u2, ho.drew⟩, hch.drew, hlo⟩
   rcases List.mem_append.1 hy with hy | hy
   ·exact hno y hy
   rw [List.mem_singleton] at hy; subst hy; rw [hp.out]; exact of_decide_eq_false hkey.out
 case done =>
  rintro D xs W2 hD rfl hI2 hK
  have hres := pgOf_no hI2.no
  obtain ⟨u1, hr⟩ := hI2.hr
  obtain ⟨u2, ho⟩ := hI2.ho
  have hc := hI2.ch
  have c0 := hr.cell 0; have c1 := hr.frozen 0; have c2 := ho.cell 0; have c3 := ho.frozen 0
  simp only [qA, qZ] at c0 c2
  replace hres := Lib.hid hres
  clear hI2
  gi_wp2
  have hn1 : D ≠ w.heap.size + 1 := fun e => by subst e; have := (show W2.heap[w.heap.size + 1]? = _ from hr).symm.trans hK; cases this
  have hn2 : D ≠ w.heap.size + 1 + 1 := fun e => by subst e; have := (show W2.heap[w.heap.size + 1 + 1]? = _ from ho).symm.trans hK; cases this
  have hcc : Chg [w.heap.size + 1, w.heap.size + 1 + 1] W2 (((W2.setCell ⟨w.heap.size + 1, 0, none⟩ (.int .i64 0)).setCell ⟨w.heap.size + 1 + 1, 0, none⟩ (.bool false))) := (((Chg.refl _ W2).setCell (p := ⟨w.heap.size + 1, 0, none⟩) (by simp) _).setCell (p := ⟨w.heap.size + 1 + 1, 0, none⟩) (by simp) _)
  have hr2 : Blk ((W2.setCell ⟨w.heap.size + 1, 0, none⟩ (.int .i64 0)).setCell ⟨w.heap.size + 1 + 1, 0, none⟩ (.bool false)) (w.heap.size + 1) 3 #[.int .i64 0] := ((hr.set_ 0 (.int .i64 0)).far (p := ⟨w.heap.size + 1 + 1, 0, none⟩) (by simp) _)
  have ho2 : Blk ((W2.setCell ⟨w.heap.size + 1, 0, none⟩ (.int .i64 0)).setCell ⟨w.heap.size + 1 + 1, 0, none⟩ (.bool false)) (w.heap.size + 1 + 1) 4 #[.bool false] := ((ho.far (p := ⟨w.heap.size + 1, 0, none⟩) (by simp) _).set_ 0 (.bool false))
  have hc3 : Chg [] w ((W2.setCell ⟨w.heap.size + 1, 0, none⟩ (.int .i64 0)).setCell ⟨w.heap.size + 1 + 1, 0, none⟩ (.bool false)) := hc.trans hcc (by intro i hi hm; simp at hm; omega)
  have hK3 := (hcc.block D (Array.getElem?_eq_some_iff.1 hK).1 (by simp; exact ⟨hn1, hn2⟩)).trans hK
  generalize ((W2.setCell ⟨w.heap.size + 1, 0, none⟩ (.int .i64 0)).setCell ⟨w.heap.size + 1 + 1, 0, none⟩ (.bool false)) = W3 at *
  refine ⟨by simp, .inl ⟨_, _, rfl, run_takeDeferred hK3, ?_⟩⟩
  have hgr := grownBy_putObj' W3 D (.deferred none)
  have hrr : ∀ r, some D = some r → ∃ o : Obj, W3.heap[r]? = some o ∧ o.isCells = false := fun r e => by cases e; exact ⟨_, hK3, rfl⟩
  refine ⟨_, cells2_ret rfl (blk_kept hr2 hgr hrr) (blk_kept ho2 hgr hrr) rfl rfl Tryz.underlying3 rfl Tryz.underlying4 rfl, ?_⟩
  unfold findV
  rw [hres.out]
  exact ⟨rfl, chg_kept hc3 hml hgr (fun r e => by cases e; exact ⟨hD, _, hK3, rfl⟩)⟩
 rintro D c pre W2 hD hpre ⟨rfl, hx⟩ hK
 obtain ⟨l, x, rfl, hno, hkx, hr⟩ := hx.why
 have hres := pgOf_first hpre hno hkx
 have ho := hx.ho
 have hc := hx.ch
 replace hres := Lib.hid hres
 clear hx
 gi_wp2
 refine ⟨by simp, .inl ⟨_, _, rfl, run_takeDeferred hK, ?_⟩⟩
 have hgr := grownBy_putObj' W2 D (.deferred none)
 have hrr : ∀ r, some D = some r → ∃ o : Obj, W2.heap[r]? = some o ∧ o.isCells = false := fun r e => by cases e; exact ⟨_, hK, rfl⟩
 refine ⟨_, cells2_ret rfl (blk_kept hr hgr hrr) (blk_kept ho hgr hrr) rfl rfl Tryz.underlying3 rfl Tryz.underlying4 rfl, ?_⟩
 unfold findV
 rw [hres.out]
 exact ⟨rfl, chg_kept hc hml hgr (fun r e => by cases e; exact ⟨hD, _, hK, rfl⟩)⟩
end Go.Proofs.YtmbgepafpcbakaaGreatDoor
