/-
  Plain facts on shadow pages: keys, slots, pages, and what calls of a store make of them. No program is walked here.
-/
import Derived.Test.YtpmfooeifhhfkaaG1
import Derived.Test.YtpmfooeifhhfkaaG4
import Derived.Test.YtpmfooeifhhfkaaG4r
namespace Go.Proofs.Ytpmfooeifhhfkaa
open Go.RowKit

/-- a shadow page's key -/
structure Ky where
  g : Int
  lev : Int
  role : Int
theorem Ky.ext_ {a b : Ky} : a = b ↔ a.g = b.g ∧ a.lev = b.lev ∧ a.role = b.role := by
  cases a; cases b; simp
instance Ky.dec : DecidableEq Ky := fun _ _ => decidable_of_iff _ Ky.ext_.symm
def Ky.cs (k : Ky) : Array Value := #[.int .i64 k.g, .int .i64 k.lev, .int .i64 k.role]
def Ky.right (k : Ky) : Bool := decide (1 ≤ k.lev ∧ k.lev ≤ 3 ∧ 0 ≤ k.role ∧ k.role ≤ 2 ∧ (k.role ≤ 0 ∨ k.lev = 1))
/-- a slot -/
structure Slt where
  kind : Int
  to_ : Int
  r : Rg
instance Rg.dec : DecidableEq Rg := fun a b => decidable_of_iff _ (Rg.eqb_iff a b)
theorem Slt.ext_ {a b : Slt} : a = b ↔ a.kind = b.kind ∧ a.to_ = b.to_ ∧ a.r = b.r := by
  cases a; cases b; simp
instance Slt.dec : DecidableEq Slt := fun _ _ => decidable_of_iff _ Slt.ext_.symm
def Slt.no : Slt := ⟨0, 0, ⟨false, false, false⟩⟩
/-- a page: its frame, its key, its slots -/
structure Pg where
  f : Int
  k : Ky
  s : List Slt
/-- a store: its pages, what is free (the last one is taken first), the host's words -/
structure Sr where
  L : List Pg
  fr : List Int
  W : List Int
theorem Sr.ext_ {a b : Sr} (h1 : a.L = b.L) (h2 : a.fr = b.fr) (h3 : a.W = b.W) : a = b := by
  cases a; cases b; simp at h1 h2 h3; simp [h1, h2, h3]
theorem Pg.ext_ {a b : Pg} (h1 : a.f = b.f) (h2 : a.k = b.k) (h3 : a.s = b.s) : a = b := by
  cases a; cases b; simp at h1 h2 h3; simp [h1, h2, h3]

/-- the page of this frame -/
def pgAt (L : List Pg) (f : Int) : Option Pg := L.find? fun p => p.f == f
/-- the page of this key -/
def pgOf (L : List Pg) (k : Ky) : Option Pg := L.find? fun p => decide (p.k = k)
def slotP (L : List Pg) (f : Int) (i : Int) : Option Slt := if 0 ≤ i ∧ i ≤ 7 then (pgAt L f).bind fun q => q.s[i.toNat]? else none
/-- the places of a page's slots of a kind, to something, from place j on -/
def toldF (kind to_ f : Int) : Nat → List Slt → List (Int × Int)
  | _, [] => []
  | j, x :: l => (if x.kind = kind ∧ x.to_ = to_ then [(f, (j : Int))] else []) ++ toldF kind to_ f (j + 1) l
def toldP (kind to_ : Int) (L : List Pg) : List (Int × Int) := L.flatMap fun q => toldF kind to_ q.f 0 q.s
def ofP (L : List Pg) (g : Int) : List Int := (L.filter fun p => decide (p.k.role = 0 ∧ p.k.g = g)).map Pg.f
/-- the word of a slot that is of this frame -/
def entS (x : Slt) (f : Int) : Ent := ⟨true, x.r.w, x.r.u, false, false, false, !x.r.x, false, f⟩
def wordS (x : Slt) (f : Int) : Int := if x.kind = 0 then 0 else (putV (entS x f) : Nat)
/-- a page's slot is so -/
def setP (L : List Pg) (p : Int) (i : Nat) (x : Slt) : List Pg := L.map fun q => if q.f = p then { q with s := q.s.set i x } else q
def setS (n : Nat) (s : Sr) (p i : Int) (x : Slt) (f : Int) : Sr := ⟨setP s.L p i.toNat x, s.fr, setW n s.W p i (wordS x f)⟩
/-- is there such a slot? -/
def hasS (s : Sr) (p i : Int) : Bool := (pgAt s.L p).isSome && decide (0 ≤ i ∧ i ≤ 7)
def levP (L : List Pg) (p : Int) : Int := ((pgAt L p).map fun q => q.k.lev).getD 0
def makeB (s : Sr) (k : Ky) : Bool := (pgOf s.L k).isNone && k.right && !s.fr.isEmpty
def makeS (n : Nat) (s : Sr) (k : Ky) : Sr := if makeB s k then ⟨s.L ++ [⟨s.fr.getLastD 0, k, List.replicate 8 Slt.no⟩], s.fr.dropLast, fillW n s.W (s.fr.getLastD 0) (zeros 8)⟩ else s
def makeV (s : Sr) (k : Ky) : Int := if makeB s k then s.fr.getLastD 0 else 0
def childB (s : Sr) (p i c : Int) : Bool := hasS s p i && (pgAt s.L c).isSome && decide (levP s.L c = levP s.L p - 1)
def childS (n : Nat) (s : Sr) (p i c : Int) (r : Rg) : Sr := if childB s p i c then setS n s p i ⟨1, c, r⟩ c else s
def leafB (n : Nat) (s : Sr) (p i h : Int) : Bool := hasS s p i && decide (levP s.L p = 1) && decide (0 ≤ h ∧ h < n)
def leafS (n : Nat) (s : Sr) (p i g h : Int) (r : Rg) : Sr := if leafB n s p i h then setS n s p i ⟨2, g, r⟩ h else s
def clearB (s : Sr) (p i : Int) : Bool := match slotP s.L p i with | some x => decide (x.kind ≠ 0) | none => false
def clearS (n : Nat) (s : Sr) (p i : Int) : Sr := if clearB s p i then setS n s p i Slt.no 0 else s
/-- slots turn: each of which u tells what it is to be, and its word -/
abbrev Up := Int → Nat → Option (Slt × Int)
def updX (u : Option (Slt × Int)) (x : Slt) : Slt := (u.map (·.1)).getD x
def updV (u : Option (Slt × Int)) (v : Int) : Int := (u.map (·.2)).getD v
def updP (L : List Pg) (u : Up) : List Pg := L.map fun q => { q with s := q.s.mapIdx fun i x => updX (u q.f i) x }
def updW (L : List Pg) (W : List Int) (u : Up) : List Int := W.mapIdx fun j v => if (pgAt L ((j / 8 : Nat) : Int)).isSome then updV (u ((j / 8 : Nat) : Int) (j % 8)) v else v
def updS (s : Sr) (u : Up) : Sr := ⟨updP s.L u, s.fr, updW s.L s.W u⟩
/-- slots are cleared: those of which c says so -/
def wipeU (c : Int → Nat → Bool) : Up := fun f i => if c f i then some (Slt.no, 0) else none
def wipeS (s : Sr) (c : Int → Nat → Bool) : Sr := updS s (wipeU c)
/-- one slot -/
def oneU (p : Int) (i : Nat) (x : Slt) (v : Int) : Up := fun f j => if f = p ∧ j = i then some (x, v) else none
/-- does the slot i of the page f tell p as a child, or is it p's own? -/
def goneC (L : List Pg) (p : Int) (f : Int) (i : Nat) : Bool := decide (f = p) || (match slotP L f i with | some x => decide (x.kind = 1 ∧ x.to_ = p) | none => false)
def dropB (s : Sr) (p : Int) : Bool := (pgAt s.L p).isSome
def dropS (s : Sr) (p : Int) : Sr := if dropB s p then ⟨(wipeS s (goneC s.L p)).L.filter fun q => decide (q.f ≠ p), s.fr ++ [p], (wipeS s (goneC s.L p)).W⟩ else s

/-- a store is as it must be: n frames of the host, m of them, from a on, may be pages -/
structure SrOk (n a m : Nat) (s : Sr) : Prop where
  le : a + m ≤ n
  n256 : n ≤ 256
  len : s.W.length = 8 * n
  nd : (s.L.map Pg.f ++ s.fr).Nodup
  mem : ∀ f ∈ s.L.map Pg.f ++ s.fr, (a : Int) ≤ f ∧ f < a + m
  cnt : s.L.length + s.fr.length = m
  keys : (s.L.map Pg.k).Nodup
  right : ∀ q ∈ s.L, q.k.right = true
  eight : ∀ q ∈ s.L, q.s.length = 8
  kinds : ∀ q ∈ s.L, ∀ x ∈ q.s, x.kind = 0 ∧ x = Slt.no ∨ (x.kind = 1 ∧ ∃ c, pgAt s.L x.to_ = some c ∧ c.k.lev = q.k.lev - 1) ∨ x.kind = 2 ∧ q.k.lev = 1
  words : ∀ q ∈ s.L, ∀ (i : Nat) (x : Slt), q.s[i]? = some x → ∃ h : Int, 0 ≤ h ∧ h < 1048576 ∧ (x.kind = 1 → h = x.to_) ∧ s.W[q.f.toNat * 8 + i]? = some (wordS x h)

section
variable {n a m : Nat} {s : Sr}
theorem pgAt_mem {L : List Pg} {f : Int} {q : Pg} (h : pgAt L f = some q) : q ∈ L ∧ q.f = f := by
  unfold pgAt at h
  exact ⟨List.mem_of_find?_eq_some h, by have := List.find?_some h; simpa using this⟩
theorem pgOf_mem {L : List Pg} {k : Ky} {q : Pg} (h : pgOf L k = some q) : q ∈ L ∧ q.k = k := by
  unfold pgOf at h
  exact ⟨List.mem_of_find?_eq_some h, by have := List.find?_some h; simpa using this⟩
theorem pgAt_none {L : List Pg} {f : Int} : pgAt L f = none ↔ ∀ q ∈ L, q.f ≠ f := by
  unfold pgAt; rw [List.find?_eq_none]; simp
theorem pgOf_none {L : List Pg} {k : Ky} : pgOf L k = none ↔ ∀ q ∈ L, q.k ≠ k := by
  unfold pgOf; rw [List.find?_eq_none]; simp
theorem pgAt_self {L : List Pg} (h : (L.map Pg.f).Nodup) {q : Pg} (hq : q ∈ L) : pgAt L q.f = some q := by
  unfold pgAt
  induction L with
  | nil => simp at hq
  | cons x L ih =>
    rw [List.map_cons, List.nodup_cons] at h
    rw [List.find?_cons]
    by_cases e : x.f = q.f
    · rcases List.mem_cons.1 hq with rfl | hq
      · simp
      · exact absurd (List.mem_map.2 ⟨q, hq, rfl⟩) (e ▸ h.1)
    · rcases List.mem_cons.1 hq with rfl | hq
      · exact absurd rfl e
      · rw [show (x.f == q.f) = false by simpa using e]; exact ih h.2 hq
theorem pgOf_self {L : List Pg} (h : (L.map Pg.k).Nodup) {q : Pg} (hq : q ∈ L) : pgOf L q.k = some q := by
  unfold pgOf
  induction L with
  | nil => simp at hq
  | cons x L ih =>
    rw [List.map_cons, List.nodup_cons] at h
    rw [List.find?_cons]
    by_cases e : x.k = q.k
    · rcases List.mem_cons.1 hq with rfl | hq
      · simp
      · exact absurd (List.mem_map.2 ⟨q, hq, rfl⟩) (e ▸ h.1)
    · rcases List.mem_cons.1 hq with rfl | hq
      · exact absurd rfl e
      · rw [show decide (x.k = q.k) = false by simpa using e]; exact ih h.2 hq
theorem SrOk.ndL (h : SrOk n a m s) : (s.L.map Pg.f).Nodup := (List.nodup_append.1 h.nd).1
theorem SrOk.inL (h : SrOk n a m s) {q : Pg} (hq : q ∈ s.L) : (a : Int) ≤ q.f ∧ q.f < a + m := h.mem _ (by simp; exact .inl ⟨q, hq, rfl⟩)
theorem SrOk.at_ (h : SrOk n a m s) {q : Pg} (hq : q ∈ s.L) : pgAt s.L q.f = some q := pgAt_self h.ndL hq
theorem SrOk.of_ (h : SrOk n a m s) {q : Pg} (hq : q ∈ s.L) : pgOf s.L q.k = some q := pgOf_self h.keys hq

/-! ### slots turn -/
theorem setP_map {L : List Pg} (p : Int) (i : Nat) (x : Slt) : (setP L p i x).map Pg.f = L.map Pg.f ∧ (setP L p i x).map Pg.k = L.map Pg.k ∧ (setP L p i x).length = L.length := by
  unfold setP
  refine ⟨?_, ?_, List.length_map _⟩ <;> (rw [List.map_map]; apply List.map_congr_left; intro q _; simp only [Function.comp]; split <;> rfl)
theorem pgAt_map {L : List Pg} (g : Pg → Pg) (hg : ∀ q, (g q).f = q.f) (f : Int) : pgAt (L.map g) f = (pgAt L f).map g := by
  unfold pgAt
  have e : ((fun p : Pg => p.f == f) ∘ g) = fun p => p.f == f := by funext q; simp [hg]
  rw [List.find?_map, e]
theorem pgOf_map {L : List Pg} (g : Pg → Pg) (hg : ∀ q, (g q).k = q.k) (k : Ky) : pgOf (L.map g) k = (pgOf L k).map g := by
  unfold pgOf
  have e : ((fun p : Pg => decide (p.k = k)) ∘ g) = fun p => decide (p.k = k) := by funext q; simp [hg]
  rw [List.find?_map, e]
theorem pgAt_setP {L : List Pg} (p : Int) (i : Nat) (x : Slt) (f : Int) : pgAt (setP L p i x) f = (pgAt L f).map fun q => if q.f = p then { q with s := q.s.set i x } else q :=
  pgAt_map _ (fun q => by split <;> rfl) f
theorem slot_setP {L : List Pg} (p : Int) (i : Nat) (x : Slt) (f j : Int) (h8 : ∀ q ∈ L, q.s.length = 8) (hi : i < 8) :
    slotP (setP L p i x) f j = if f = p ∧ j = i then (slotP L f j).map fun _ => x else slotP L f j := by
  unfold slotP
  rw [pgAt_setP]
  by_cases hj : 0 ≤ j ∧ j ≤ 7
  · rw [if_pos hj]
    cases e : pgAt L f with
    | none => simp
    | some q =>
      obtain ⟨hq, rfl⟩ := pgAt_mem e
      have := h8 q hq
      simp only [Option.map_some, Option.bind_some]
      by_cases hp : q.f = p
      · simp only [hp, if_true, true_and]
        rw [List.getElem?_set]
        by_cases hji : j = i
        · subst hji; simp [this, hi]; omega
        · rw [if_neg (by omega), if_neg hji]; simp [hj]
      · simp [hp, hj]
  · rw [if_neg hj]; simp [hj]
theorem lev_setP {L : List Pg} (p : Int) (i : Nat) (x : Slt) (f : Int) : levP (setP L p i x) f = levP L f := by
  unfold levP; rw [pgAt_setP]
  cases pgAt L f with
  | none => rfl
  | some q => simp only [Option.map_some, Option.getD_some]; split <;> rfl
theorem some_setP {L : List Pg} (p : Int) (i : Nat) (x : Slt) (f : Int) : (pgAt (setP L p i x) f).isSome = (pgAt L f).isSome := by
  rw [pgAt_setP, Option.isSome_map]
/-- one step of what lies below -/
theorem hasS_has (h : SrOk n a m s) {p i : Int} (hb : hasS s p i = true) : ∃ q, pgAt s.L p = some q ∧ q ∈ s.L ∧ q.f = p ∧ 0 ≤ i ∧ i ≤ 7 ∧ (a : Int) ≤ p ∧ p < a + m ∧ hasW n p i = true := by
  unfold hasS at hb
  rw [Bool.and_eq_true, decide_eq_true_eq] at hb
  obtain ⟨hs, h0, h7⟩ := hb
  cases e : pgAt s.L p with
  | none => rw [e] at hs; simp at hs
  | some q =>
    obtain ⟨hq, rfl⟩ := pgAt_mem e
    have := h.inL hq
    have hle := h.le
    refine ⟨q, rfl, hq, rfl, h0, h7, this.1, this.2, ?_⟩
    unfold hasW; rw [decide_eq_true_eq]; omega
theorem mem_setP {L : List Pg} {p : Int} {i : Nat} {x : Slt} {q' : Pg} (h : q' ∈ setP L p i x) : ∃ q ∈ L, q'.f = q.f ∧ q'.k = q.k ∧ q'.s = if q.f = p then q.s.set i x else q.s := by
  unfold setP at h
  rw [List.mem_map] at h
  obtain ⟨q, hq, rfl⟩ := h
  refine ⟨q, hq, ?_⟩
  split <;> exact ⟨rfl, rfl, rfl⟩
theorem SrOk.set (h : SrOk n a m s) {p i f : Int} {x : Slt} (hb : hasS s p i = true) (hx : x.kind = 0 ∧ x = Slt.no ∨ (x.kind = 1 ∧ ∃ c, pgAt s.L x.to_ = some c ∧ c.k.lev = levP s.L p - 1) ∨ x.kind = 2 ∧ levP s.L p = 1)
    (hf : 0 ≤ f ∧ f < 1048576) (h1 : x.kind = 1 → f = x.to_) : SrOk n a m (setS n s p i x f) := by
  obtain ⟨q0, e0, hq0, rfl, hi0, hi7, _, _, hW⟩ := hasS_has h hb
  have hlev : levP s.L q0.f = q0.k.lev := by unfold levP; rw [e0]; rfl
  rw [hlev] at hx
  have hm := setP_map (L := s.L) q0.f i.toNat x
  have hge := h.inL hq0
  refine ⟨h.le, h.n256, ?_, ?_, ?_, ?_, ?_, ?_, ?_, ?_, ?_⟩
  · show (setW n s.W _ _ _).length = _; rw [setW_len]; exact h.len
  · show ((setP s.L _ _ _).map Pg.f ++ s.fr).Nodup; rw [hm.1]; exact h.nd
  · show ∀ f ∈ (setP s.L _ _ _).map Pg.f ++ s.fr, _; rw [hm.1]; exact h.mem
  · show (setP s.L _ _ _).length + s.fr.length = m; rw [hm.2.2]; exact h.cnt
  · show ((setP s.L _ _ _).map Pg.k).Nodup; rw [hm.2.1]; exact h.keys
  · intro q' hq'
    obtain ⟨q, hq, _, hk, _⟩ := mem_setP hq'
    rw [hk]; exact h.right q hq
  · intro q' hq'
    obtain ⟨q, hq, _, _, hs⟩ := mem_setP hq'
    rw [hs]; split
    · rw [List.length_set]; exact h.eight q hq
    · exact h.eight q hq
  · intro q' hq' y hy
    obtain ⟨q, hq, hf', hk, hs⟩ := mem_setP hq'
    have hkid : ∀ t, (∃ c, pgAt s.L t = some c ∧ c.k.lev = q.k.lev - 1) → ∃ c, pgAt (setP s.L q0.f i.toNat x) t = some c ∧ c.k.lev = q'.k.lev - 1 := by
      rintro t ⟨c, hc, hl⟩
      rw [pgAt_setP, hc]
      refine ⟨_, rfl, ?_⟩
      rw [hk, ← hl]; dsimp only; split <;> rfl
    have hold : ∀ y ∈ q.s, y.kind = 0 ∧ y = Slt.no ∨ (y.kind = 1 ∧ ∃ c, pgAt (setP s.L q0.f i.toNat x) y.to_ = some c ∧ c.k.lev = q'.k.lev - 1) ∨ y.kind = 2 ∧ q'.k.lev = 1 := by
      intro y hy
      rcases h.kinds q hq y hy with h | ⟨h, h'⟩ | ⟨h, h'⟩
      · exact .inl h
      · exact .inr (.inl ⟨h, hkid _ h'⟩)
      · exact .inr (.inr ⟨h, by rw [hk]; exact h'⟩)
    rw [hs] at hy
    split at hy
    · rename_i hqp
      have hqq : q = q0 := by
        have := h.at_ hq; rw [hqp, e0] at this; injection this with this; exact this.symm
      rcases List.mem_or_eq_of_mem_set hy with hy | rfl
      · exact hold y hy
      · subst hqq
        rcases hx with h | ⟨h, h'⟩ | ⟨h, h'⟩
        · exact .inl h
        · exact .inr (.inl ⟨h, hkid _ h'⟩)
        · exact .inr (.inr ⟨h, by rw [hk]; exact h'⟩)
    · exact hold y hy
  · intro q' hq' j y hy
    obtain ⟨q, hq, hf', hk, hs⟩ := mem_setP hq'
    show ∃ g, _ ∧ _ ∧ _ ∧ (setW n s.W q0.f i (wordS x f))[_]? = _
    have hqn := h.inL hq
    have h8 := h.eight q hq
    unfold setW
    rw [if_pos hW, hf']
    have hj : j < 8 := by
      have := (List.getElem?_eq_some_iff.1 hy).1
      rw [hs] at this; split at this
      · rw [List.length_set] at this; omega
      · omega
    have hlen := h.len
    have hle := h.le
    by_cases hme : q.f = q0.f ∧ j = i.toNat
    · obtain ⟨hqp, rfl⟩ := hme
      rw [hs, if_pos hqp, List.getElem?_set] at hy
      simp only [if_true] at hy
      rw [if_pos (by omega)] at hy
      injection hy with hy; subst hy
      refine ⟨f, hf.1, hf.2, h1, ?_⟩
      rw [hqp, List.getElem?_set, if_pos rfl, if_pos (by omega)]
    · have hy' : q.s[j]? = some y := by
        rw [hs] at hy
        split at hy
        · rename_i hqp
          rw [List.getElem?_set, if_neg (fun e => hme ⟨hqp, e.symm⟩)] at hy; exact hy
        · exact hy
      obtain ⟨g, g0, g1, g2, g3⟩ := h.words q hq j y hy'
      refine ⟨g, g0, g1, g2, ?_⟩
      rw [List.getElem?_set, if_neg (fun e => hme ?_)]
      · exact g3
      · exact ⟨by omega, by omega⟩
theorem SrOk.child (h : SrOk n a m s) (p i c : Int) (r : Rg) : SrOk n a m (childS n s p i c r) := by
  unfold childS
  split
  · rename_i hb
    unfold childB at hb
    simp only [Bool.and_eq_true, decide_eq_true_eq] at hb
    obtain ⟨⟨hs, hc⟩, hl⟩ := hb
    cases e : pgAt s.L c with
    | none => rw [e] at hc; simp at hc
    | some q =>
      obtain ⟨hq, rfl⟩ := pgAt_mem e
      have hqn := h.inL hq
      have := h.le; have := h.n256
      refine h.set hs (.inr (.inl ⟨rfl, q, e, ?_⟩)) ⟨by omega, by omega⟩ (fun _ => rfl)
      rw [← hl]; unfold levP; rw [e]; rfl
  · exact h
theorem SrOk.leaf (h : SrOk n a m s) (p i g f : Int) (r : Rg) : SrOk n a m (leafS n s p i g f r) := by
  unfold leafS
  split
  · rename_i hb
    unfold leafB at hb
    simp only [Bool.and_eq_true, decide_eq_true_eq] at hb
    obtain ⟨⟨hs, hl⟩, hf⟩ := hb
    have := h.n256
    exact h.set hs (.inr (.inr ⟨rfl, hl⟩)) ⟨by omega, by omega⟩ (fun e => by simp at e)
  · exact h
theorem slotP_has {L : List Pg} {p i : Int} {x : Slt} (hx : slotP L p i = some x) : ∃ q, pgAt L p = some q ∧ 0 ≤ i ∧ i ≤ 7 ∧ q.s[i.toNat]? = some x := by
  unfold slotP at hx
  split at hx
  · rename_i hi
    cases e : pgAt L p with
    | none => rw [e] at hx; simp at hx
    | some q => rw [e] at hx; exact ⟨q, rfl, hi.1, hi.2, hx⟩
  · simp at hx
theorem slot_hasS {p i : Int} {x : Slt} (hx : slotP s.L p i = some x) : hasS s p i = true := by
  obtain ⟨q, e, h0, h7, _⟩ := slotP_has hx
  unfold hasS; rw [e]; simp [h0, h7]
theorem SrOk.clear (h : SrOk n a m s) (p i : Int) : SrOk n a m (clearS n s p i) := by
  unfold clearS
  split
  · rename_i hb
    unfold clearB at hb
    cases e : slotP s.L p i with
    | none => rw [e] at hb; simp at hb
    | some x => exact h.set (slot_hasS e) (.inl ⟨rfl, rfl⟩) ⟨by omega, by omega⟩ (fun e => by simp [Slt.no] at e)
  · exact h
end

section
variable {n a m : Nat} {s : Sr}
theorem last_app {l : List Int} (h : l.isEmpty = false) : l = l.dropLast ++ [l.getLastD 0] := by
  have hne : l ≠ [] := by intro e; subst e; simp at h
  rw [List.getLastD_eq_getLast?, List.getLast?_eq_some_getLast hne, Option.getD_some]
  exact (List.dropLast_concat_getLast hne).symm
theorem makeB_has {k : Ky} (hb : makeB s k = true) : pgOf s.L k = none ∧ k.right = true ∧ s.fr = s.fr.dropLast ++ [s.fr.getLastD 0] := by
  unfold makeB at hb
  simp only [Bool.and_eq_true, Bool.not_eq_true', Option.isNone_iff_eq_none] at hb
  exact ⟨hb.1.1, hb.1.2, last_app hb.2⟩
theorem pgAt_app {L M : List Pg} {f : Int} {q : Pg} (h : pgAt L f = some q) : pgAt (L ++ M) f = some q := by
  unfold pgAt at h ⊢; rw [List.find?_append, h]; rfl
theorem pgAt_app_no {L M : List Pg} {f : Int} (h : pgAt L f = none) : pgAt (L ++ M) f = pgAt M f := by
  unfold pgAt at h ⊢; rw [List.find?_append, h]; rfl
theorem pgOf_app {L M : List Pg} {k : Ky} {q : Pg} (h : pgOf L k = some q) : pgOf (L ++ M) k = some q := by
  unfold pgOf at h ⊢; rw [List.find?_append, h]; rfl
theorem pgOf_app_no {L M : List Pg} {k : Ky} (h : pgOf L k = none) : pgOf (L ++ M) k = pgOf M k := by
  unfold pgOf at h ⊢; rw [List.find?_append, h]; rfl
theorem fill_at {W : List Int} {f : Int} {j : Nat} (hf : 0 ≤ f ∧ f < n) (hl : W.length = 8 * n) : (fillW n W f (zeros 8))[j]? = if f.toNat * 8 ≤ j ∧ j < f.toNat * 8 + 8 then some 0 else W[j]? := by
  unfold fillW fillB hasF
  have h8 : (zeros 8).length = 8 := rfl
  rw [if_pos (by simp [h8, hf]), setAll_get _ _ _ _ (by rw [h8]; omega), h8]
  split
  · rename_i h
    unfold zeros
    rw [List.getElem?_replicate, if_pos (by omega)]
  · rfl
theorem SrOk.make (h : SrOk n a m s) (k : Ky) : SrOk n a m (makeS n s k) := by
  unfold makeS
  split
  · rename_i hb
    obtain ⟨hk, hr, hfr⟩ := makeB_has hb
    generalize s.fr.getLastD 0 = f at *
    generalize s.fr.dropLast = F at *
    have hnd := h.nd
    have hmem := h.mem
    have hcnt := h.cnt
    rw [hfr] at hnd hmem hcnt
    have hf := hmem f (by simp)
    have hle := h.le
    have hn := h.n256
    have hlen := h.len
    have hne : ∀ q ∈ s.L, q.f ≠ f := by
      intro q hq e
      have := (List.nodup_append.1 hnd).2.2 _ (List.mem_map.2 ⟨q, hq, rfl⟩) f (by simp)
      exact this e
    have hno : pgAt s.L f = none := pgAt_none.2 hne
    refine ⟨h.le, h.n256, by show (fillW _ _ _ _).length = _; rw [fillW_len]; exact h.len, ?_, ?_, ?_, ?_, ?_, ?_, ?_, ?_⟩
    · show ((s.L ++ [_]).map Pg.f ++ F).Nodup
      rw [List.map_append, List.append_assoc]
      refine (List.Perm.nodup_iff ?_).1 hnd
      exact List.Perm.append_left _ (List.perm_append_comm)
    · intro g hg
      have hg : g ∈ (s.L ++ [Pg.mk f k (List.replicate 8 Slt.no)]).map Pg.f ++ F := hg
      refine hmem g ?_
      simp only [List.map_append, List.mem_append, List.map_cons, List.map_nil, List.mem_cons, List.not_mem_nil, or_false] at hg ⊢
      rcases hg with (hg | hg) | hg
      · exact .inl hg
      · exact .inr (.inr hg)
      · exact .inr (.inl hg)
    · show (s.L ++ [_]).length + F.length = m
      simp at hcnt ⊢; omega
    · show ((s.L ++ [_]).map Pg.k).Nodup
      rw [List.map_append, List.nodup_append]
      refine ⟨h.keys, by simp, ?_⟩
      intro x hx y hy e
      simp at hy
      obtain ⟨q, hq, rfl⟩ := List.mem_map.1 hx
      exact pgOf_none.1 hk q hq (e.trans hy)
    · intro q hq
      rcases List.mem_append.1 hq with hq | hq
      · exact h.right q hq
      · simp at hq; subst hq; exact hr
    · intro q hq
      rcases List.mem_append.1 hq with hq | hq
      · exact h.eight q hq
      · simp at hq; subst hq; rfl
    · intro q hq x hx
      rcases List.mem_append.1 hq with hq | hq
      · rcases h.kinds q hq x hx with h | ⟨h, c, h', hl⟩ | h
        · exact .inl h
        · exact .inr (.inl ⟨h, c, pgAt_app h', hl⟩)
        · exact .inr (.inr h)
      · simp only [List.mem_cons, List.not_mem_nil, or_false] at hq; subst hq
        have := List.eq_of_mem_replicate hx
        subst this
        exact .inl ⟨rfl, rfl⟩
    · intro q hq i x hx
      show ∃ g, _ ∧ _ ∧ _ ∧ (fillW n s.W f (zeros 8))[_]? = _
      rw [fill_at (by omega) hlen]
      rcases List.mem_append.1 hq with hq | hq
      · obtain ⟨g, g0, g1, g2, g3⟩ := h.words q hq i x hx
        have hi := (List.getElem?_eq_some_iff.1 hx).1
        rw [h.eight q hq] at hi
        have hq2 := h.inL hq
        have := hne q hq
        exact ⟨g, g0, g1, g2, by rw [if_neg (by omega)]; exact g3⟩
      · simp only [List.mem_cons, List.not_mem_nil, or_false] at hq; subst hq
        simp only at hx ⊢
        rw [List.getElem?_replicate] at hx
        split at hx
        · injection hx with hx; subst hx
          refine ⟨0, by omega, by omega, fun e => by simp [Slt.no] at e, ?_⟩
          rw [if_pos (by omega)]; rfl
        · simp at hx
  · exact h

/-! ### slots turn -/
theorem updP_map (L : List Pg) (u : Up) : (updP L u).map Pg.f = L.map Pg.f ∧ (updP L u).map Pg.k = L.map Pg.k ∧ (updP L u).length = L.length := by
  unfold updP
  refine ⟨?_, ?_, by simp⟩ <;> (rw [List.map_map]; rfl)
theorem pgAt_upd (L : List Pg) (u : Up) (f : Int) : pgAt (updP L u) f = (pgAt L f).map fun q => { q with s := q.s.mapIdx fun i x => updX (u q.f i) x } :=
  pgAt_map (fun q => { q with s := q.s.mapIdx fun i x => updX (u q.f i) x }) (fun _ => rfl) f
theorem pgOf_upd (L : List Pg) (u : Up) (k : Ky) : pgOf (updP L u) k = (pgOf L k).map fun q => { q with s := q.s.mapIdx fun i x => updX (u q.f i) x } :=
  pgOf_map (fun q => { q with s := q.s.mapIdx fun i x => updX (u q.f i) x }) (fun _ => rfl) k
theorem some_upd (L : List Pg) (u : Up) (f : Int) : (pgAt (updP L u) f).isSome = (pgAt L f).isSome := by
  rw [pgAt_upd, Option.isSome_map]
theorem updS_L (s : Sr) (u : Up) : (updS s u).L = updP s.L u := rfl
theorem updS_W (s : Sr) (u : Up) : (updS s u).W = updW s.L s.W u := rfl
theorem setS_L (n : Nat) (s : Sr) (p i : Int) (x : Slt) (f : Int) : (setS n s p i x f).L = setP s.L p i.toNat x := rfl
theorem setS_W (n : Nat) (s : Sr) (p i : Int) (x : Slt) (f : Int) : (setS n s p i x f).W = setW n s.W p i (wordS x f) := rfl
theorem lev_upd (L : List Pg) (u : Up) (f : Int) : levP (updP L u) f = levP L f := by
  unfold levP; rw [pgAt_upd]; cases pgAt L f <;> rfl
theorem of_upd (L : List Pg) (u : Up) (g : Int) : ofP (updP L u) g = ofP L g := by
  unfold ofP updP
  rw [List.filter_map, List.map_map]; rfl
theorem upd_upd (s : Sr) (u v : Up) : updS (updS s u) v = updS s fun f i => (v f i).or (u f i) := by
  refine Sr.ext_ ?_ rfl ?_
  · rw [updS_L, updS_L, updS_L]
    unfold updP
    rw [List.map_map]
    apply List.map_congr_left
    intro q _
    refine Pg.ext_ rfl rfl ?_
    show List.mapIdx _ (List.mapIdx _ _) = _
    rw [List.mapIdx_mapIdx]
    congr 1
    funext i x
    simp only [Function.comp]
    cases v q.f i <;> rfl
  · rw [updS_W, updS_W, updS_W, updS_L]
    unfold updW
    rw [List.mapIdx_mapIdx]
    congr 1
    funext j x
    simp only [some_upd, Function.comp]
    generalize ((j / 8 : Nat) : Int) = e
    generalize j % 8 = r
    by_cases h0 : (pgAt s.L e).isSome = true
    · simp only [h0, if_true]; cases v e r <;> rfl
    · simp only [h0]; rfl
theorem slot_upd (L : List Pg) (u : Up) (f i : Int) : slotP (updP L u) f i = (slotP L f i).map fun x => updX (u f i.toNat) x := by
  unfold slotP
  split
  · rw [pgAt_upd]
    cases e : pgAt L f with
    | none => rfl
    | some q =>
      obtain ⟨_, rfl⟩ := pgAt_mem e
      simp only [Option.map_some, Option.bind_some, List.getElem?_mapIdx]
  · rfl
theorem mem_upd {L : List Pg} {u : Up} {q' : Pg} (h : q' ∈ updP L u) : ∃ q ∈ L, q'.f = q.f ∧ q'.k = q.k ∧ q'.s = q.s.mapIdx fun i x => updX (u q.f i) x := by
  unfold updP at h
  rw [List.mem_map] at h
  obtain ⟨q, hq, rfl⟩ := h
  exact ⟨q, hq, rfl, rfl, rfl⟩
/-- what a slot of the page q may be -/
def SltOk (L : List Pg) (lev : Int) (x : Slt) : Prop := x.kind = 0 ∧ x = Slt.no ∨ (x.kind = 1 ∧ ∃ c, pgAt L x.to_ = some c ∧ c.k.lev = lev - 1) ∨ x.kind = 2 ∧ lev = 1
/-- what a word may be that is of a slot -/
def WrdOk (x : Slt) (v : Int) : Prop := ∃ h : Int, 0 ≤ h ∧ h < 1048576 ∧ (x.kind = 1 → h = x.to_) ∧ v = wordS x h
theorem WrdOk.no : WrdOk Slt.no 0 := ⟨0, by omega, by omega, fun e => by simp [Slt.no] at e, rfl⟩
theorem SltOk.upd {L : List Pg} {u : Up} {lev : Int} {x : Slt} (h : SltOk L lev x) : SltOk (updP L u) lev x := by
  rcases h with h | ⟨h, c, h', hl⟩ | h
  · exact .inl h
  · have e := pgAt_upd L u x.to_
    rw [h', Option.map_some] at e
    exact .inr (.inl ⟨h, _, e, hl⟩)
  · exact .inr (.inr h)
theorem SrOk.upd (h : SrOk n a m s) (u : Up) (hu : ∀ q ∈ s.L, ∀ i < 8, ∀ y v, u q.f i = some (y, v) → SltOk s.L q.k.lev y ∧ WrdOk y v) : SrOk n a m (updS s u) := by
  have hm := updP_map s.L u
  refine ⟨h.le, h.n256, ?_, ?_, ?_, ?_, ?_, ?_, ?_, ?_, ?_⟩
  · show (updW s.L s.W u).length = _; unfold updW; rw [List.length_mapIdx]; exact h.len
  · show ((updP s.L u).map Pg.f ++ s.fr).Nodup; rw [hm.1]; exact h.nd
  · show ∀ f ∈ (updP s.L u).map Pg.f ++ s.fr, _; rw [hm.1]; exact h.mem
  · show (updP s.L u).length + s.fr.length = m; rw [hm.2.2]; exact h.cnt
  · show ((updP s.L u).map Pg.k).Nodup; rw [hm.2.1]; exact h.keys
  · intro q' hq'
    obtain ⟨q, hq, _, hk, _⟩ := mem_upd hq'
    rw [hk]; exact h.right q hq
  · intro q' hq'
    obtain ⟨q, hq, _, _, hs⟩ := mem_upd hq'
    rw [hs, List.length_mapIdx]; exact h.eight q hq
  · intro q' hq' y hy
    obtain ⟨q, hq, hf', hk, hs⟩ := mem_upd hq'
    rw [hs, List.mem_mapIdx] at hy
    obtain ⟨i, hi, rfl⟩ := hy
    rw [hk]
    show SltOk (updP s.L u) q.k.lev _
    cases e : u q.f i with
    | none => exact SltOk.upd (h.kinds q hq _ (List.getElem_mem hi))
    | some y => exact SltOk.upd (hu q hq i (by rw [← h.eight q hq]; exact hi) y.1 y.2 e).1
  · intro q' hq' i y hy
    obtain ⟨q, hq, hf', hk, hs⟩ := mem_upd hq'
    have hq2 := h.inL hq
    rw [hs, List.getElem?_mapIdx] at hy
    cases e : q.s[i]? with
    | none => rw [e] at hy; simp at hy
    | some x =>
      rw [e, Option.map_some] at hy
      injection hy with hy
      have hi := (List.getElem?_eq_some_iff.1 e).1
      rw [h.eight q hq] at hi
      obtain ⟨g, g0, g1, g2, g3⟩ := h.words q hq i x e
      show ∃ g, _ ∧ _ ∧ _ ∧ (updW s.L s.W u)[_]? = _
      unfold updW
      rw [hf', List.getElem?_mapIdx, g3, Option.map_some]
      have e1 : (q.f.toNat * 8 + i) / 8 = q.f.toNat := by omega
      have e2 : (q.f.toNat * 8 + i) % 8 = i := by omega
      have e3 : ((q.f.toNat : Nat) : Int) = q.f := by omega
      rw [e1, e2, e3, h.at_ hq]
      simp only [Option.isSome_some, if_true]
      cases hc : u q.f i with
      | none => rw [hc] at hy; subst hy; exact ⟨g, g0, g1, g2, rfl⟩
      | some z =>
        rw [hc] at hy; subst hy
        obtain ⟨g', k0, k1, k2, k3⟩ := (hu q hq i hi z.1 z.2 hc).2
        exact ⟨g', k0, k1, k2, by show some z.2 = some (wordS z.1 g'); rw [k3]⟩
/-- one slot that turns -/
theorem SrOk.set_upd (h : SrOk n a m s) {p i : Int} (x : Slt) (f : Int) (hb : hasS s p i = true) : setS n s p i x f = updS s (oneU p i.toNat x (wordS x f)) := by
  obtain ⟨q0, e, hq0, rfl, hi0, hi7, _, _, hW⟩ := hasS_has h hb
  have hq2 := h.inL hq0
  refine Sr.ext_ ?_ rfl ?_
  · rw [setS_L, updS_L]
    unfold updP setP
    apply List.map_congr_left
    intro q hq
    by_cases hf : q.f = q0.f
    · rw [if_pos hf]
      refine Pg.ext_ rfl rfl ?_
      show q.s.set _ _ = List.mapIdx _ _
      apply List.ext_getElem?
      intro j; rw [List.getElem?_mapIdx, List.getElem?_set]
      by_cases hj : i.toNat = j
      · subst hj
        rw [if_pos rfl]
        have := h.eight q hq
        rw [if_pos (by omega), List.getElem?_eq_getElem (by omega)]; simp [oneU, hf, updX]
      · rw [if_neg hj]
        have : oneU q0.f i.toNat x (wordS x f) q.f j = none := by unfold oneU; rw [if_neg]; intro h; exact hj h.2.symm
        rw [this]; cases q.s[j]? <;> rfl
    · rw [if_neg hf]
      refine Pg.ext_ rfl rfl ?_
      show q.s = List.mapIdx _ _
      apply List.ext_getElem?
      intro j; rw [List.getElem?_mapIdx]
      have : oneU q0.f i.toNat x (wordS x f) q.f j = none := by unfold oneU; rw [if_neg]; intro h; exact hf h.1
      rw [this]; cases q.s[j]? <;> rfl
  · rw [setS_W, updS_W]
    unfold setW updW
    rw [if_pos hW]
    apply List.ext_getElem?
    intro j; rw [List.getElem?_mapIdx, List.getElem?_set]
    by_cases hj : q0.f.toNat * 8 + i.toNat = j
    · rw [if_pos hj]
      have e1 : ((j / 8 : Nat) : Int) = q0.f := by omega
      have e2 : j % 8 = i.toNat := by omega
      have := h.len
      have := h.le
      rw [e1, e2, e, if_pos (by omega), List.getElem?_eq_getElem (by omega)]; simp [oneU, updV]
    · rw [if_neg hj]
      have : oneU q0.f i.toNat x (wordS x f) ((j / 8 : Nat) : Int) (j % 8) = none := by unfold oneU; rw [if_neg]; intro h; omega
      simp only [this]; cases s.W[j]? with
      | none => rfl
      | some v => simp [updV]
/-- what turns nothing -/
theorem SrOk.upd_id (h : SrOk n a m s) {u : Up} (hu : ∀ q ∈ s.L, ∀ i < 8, ∀ y, u q.f i = some y → ∃ x, q.s[i]? = some x ∧ y.1 = x ∧ s.W[q.f.toNat * 8 + i]? = some y.2) : updS s u = s := by
  refine Sr.ext_ ?_ rfl ?_
  · rw [updS_L]; unfold updP
    rw [List.map_congr_left (g := id), List.map_id]
    intro q hq
    refine Pg.ext_ rfl rfl ?_
    show List.mapIdx _ _ = q.s
    apply List.ext_getElem?
    intro j; rw [List.getElem?_mapIdx]
    cases e : q.s[j]? with
    | none => rfl
    | some x =>
      have hj := (List.getElem?_eq_some_iff.1 e).1
      rw [h.eight q hq] at hj
      rw [Option.map_some]
      cases e2 : u q.f j with
      | none => rfl
      | some y =>
        obtain ⟨x', h1, h2, _⟩ := hu q hq j hj y e2
        rw [e] at h1; injection h1 with h1
        show some y.1 = some x
        rw [h2, ← h1]
  · rw [updS_W]; unfold updW
    apply List.ext_getElem?
    intro j; rw [List.getElem?_mapIdx]
    cases e : s.W[j]? with
    | none => rfl
    | some v =>
      rw [Option.map_some]
      cases e2 : pgAt s.L ((j / 8 : Nat) : Int) with
      | none => rfl
      | some q =>
        obtain ⟨hq, hf⟩ := pgAt_mem e2
        simp only [Option.isSome_some, if_true]
        cases e3 : u ((j / 8 : Nat) : Int) (j % 8) with
        | none => rfl
        | some y =>
          obtain ⟨_, _, _, h3⟩ := hu q hq (j % 8) (by omega) y (by rw [hf]; exact e3)
          have hj : q.f.toNat * 8 + j % 8 = j := by omega
          rw [hj, e] at h3
          exact h3.symm

/-! ### slots are cleared -/
theorem wipe_wipe (s : Sr) (c d : Int → Nat → Bool) : wipeS (wipeS s c) d = wipeS s fun f i => c f i || d f i := by
  unfold wipeS; rw [upd_upd]; congr 1; funext f i; unfold wipeU
  by_cases h1 : c f i = true <;> by_cases h2 : d f i = true <;> simp [h1, h2]
theorem slot_wipe (s : Sr) (c : Int → Nat → Bool) (f i : Int) : slotP (wipeS s c).L f i = (slotP s.L f i).map fun x => if c f i.toNat then Slt.no else x := by
  unfold wipeS; rw [updS_L, slot_upd]; congr 1; funext x; unfold wipeU updX; split <;> rfl
theorem SrOk.wipe (h : SrOk n a m s) (c : Int → Nat → Bool) : SrOk n a m (wipeS s c) :=
  h.upd _ fun q _ i _ y v e => by
    unfold wipeU at e
    split at e
    · injection e with e; injection e with e1 e2; subst e1; subst e2
      exact ⟨.inl ⟨rfl, rfl⟩, WrdOk.no⟩
    · simp at e
theorem SrOk.no_word (h : SrOk n a m s) {q : Pg} (hq : q ∈ s.L) {i : Nat} {x : Slt} (hx : q.s[i]? = some x) (h0 : x.kind = 0) : x = Slt.no ∧ s.W[q.f.toNat * 8 + i]? = some 0 := by
  have : x = Slt.no := by
    rcases h.kinds q hq x (List.mem_of_getElem? hx) with h | ⟨h, _⟩ | ⟨h, _⟩
    · exact h.2
    · omega
    · omega
  refine ⟨this, ?_⟩
  obtain ⟨g, _, _, _, hg⟩ := h.words q hq i x hx
  rw [hg]; unfold wordS; rw [if_pos h0]
/-- to clear one slot -/
theorem SrOk.clear_wipe (h : SrOk n a m s) (p i : Int) (hp : 0 ≤ i ∧ i ≤ 7) : clearS n s p i = wipeS s fun f j => decide (f = p ∧ j = i.toNat) := by
  have eu : wipeU (fun f j => decide (f = p ∧ j = i.toNat)) = oneU p i.toNat Slt.no 0 := by
    funext f j; unfold wipeU oneU; simp only [decide_eq_true_eq]
  unfold clearS
  split
  · rename_i hb
    unfold clearB at hb
    cases e : slotP s.L p i with
    | none => rw [e] at hb; simp at hb
    | some x => rw [h.set_upd _ _ (slot_hasS e)]; unfold wipeS; rw [eu]; rfl
  · rename_i hb
    unfold wipeS
    rw [eu, h.upd_id]
    intro q hq j hj y hy
    unfold oneU at hy
    split at hy
    · rename_i hpj
      obtain ⟨rfl, rfl⟩ := hpj
      injection hy with hy; subst hy
      have hx : q.s[i.toNat]? = some (q.s[i.toNat]'(by rw [h.eight q hq]; exact hj)) := List.getElem?_eq_getElem _
      generalize q.s[i.toNat]'(by rw [h.eight q hq]; exact hj) = x at hx
      have hsl : slotP s.L q.f i = some x := by unfold slotP; rw [if_pos hp, h.at_ hq]; exact hx
      have h0 : x.kind = 0 := by
        unfold clearB at hb; rw [hsl] at hb
        simpa using hb
      have := h.no_word hq hx h0
      exact ⟨x, hx, this.1.symm, this.2⟩
    · simp at hy

/-! ### a page is given back -/
theorem pgAt_filter {L : List Pg} {p f : Int} : pgAt (L.filter fun q => decide (q.f ≠ p)) f = if f = p then none else pgAt L f := by
  split
  · rename_i h; subst h
    rw [pgAt_none]
    intro q hq
    have := (List.mem_filter.1 hq).2
    simpa using this
  · rename_i h
    unfold pgAt
    rw [List.find?_filter]
    congr 1
    funext q
    by_cases e : q.f = f
    · subst e; simp [h]
    · simp [e]
theorem slot_drop {p : Int} (hb : dropB s p = true) (f i : Int) : slotP (dropS s p).L f i = if f = p then none else (slotP s.L f i).map fun x => if x.kind = 1 ∧ x.to_ = p then Slt.no else x := by
  have e : (dropS s p).L = (wipeS s (goneC s.L p)).L.filter fun q => decide (q.f ≠ p) := by unfold dropS; rw [if_pos hb]
  rw [e]
  by_cases hf : f = p
  · rw [if_pos hf]
    unfold slotP; rw [pgAt_filter, if_pos hf]; simp
  · rw [if_neg hf]
    have : slotP ((wipeS s (goneC s.L p)).L.filter fun q => decide (q.f ≠ p)) f i = slotP (wipeS s (goneC s.L p)).L f i := by
      unfold slotP; rw [pgAt_filter, if_neg hf]
    rw [this, slot_wipe]
    cases h : slotP s.L f i with
    | none => rfl
    | some x =>
      obtain ⟨_, _, h0, _, _⟩ := slotP_has h
      have e2 : ((i.toNat : Nat) : Int) = i := by omega
      have : goneC s.L p f i.toNat = decide (x.kind = 1 ∧ x.to_ = p) := by
        unfold goneC; rw [e2, h, decide_eq_false hf]; rfl
      rw [Option.map_some, Option.map_some, this]
      simp only [decide_eq_true_eq]
theorem SrOk.drop (h : SrOk n a m s) (p : Int) : SrOk n a m (dropS s p) := by
  by_cases hb : dropB s p = true
  rotate_left
  · unfold dropS; rw [if_neg hb]; exact h
  have H := h.wipe (goneC s.L p)
  have eL : (dropS s p).L = (wipeS s (goneC s.L p)).L.filter fun q => decide (q.f ≠ p) := by unfold dropS; rw [if_pos hb]
  have eF : (dropS s p).fr = s.fr ++ [p] := by unfold dropS; rw [if_pos hb]
  have eW : (dropS s p).W = (wipeS s (goneC s.L p)).W := by unfold dropS; rw [if_pos hb]
  unfold dropB at hb
  cases e : pgAt s.L p with
  | none => rw [e] at hb; simp at hb
  | some q0 =>
  obtain ⟨hq0, hf0⟩ := pgAt_mem e
  have hm := updP_map s.L (wipeU (goneC s.L p))
  have hnd := h.ndL
  have hperm : (s.L.map Pg.f).Perm ((s.L.map Pg.f).filter (fun f => decide (f ≠ p)) ++ [p]) := by
    have hp : p ∈ s.L.map Pg.f := List.mem_map.2 ⟨q0, hq0, hf0⟩
    have h1 : (s.L.map Pg.f).filter (fun f => decide (f ≠ p)) = (s.L.map Pg.f).erase p := by
      rw [hnd.erase_eq_filter]; apply List.filter_congr; intro x _; by_cases e : x = p <;> simp [e]
    rw [h1]
    exact (List.perm_cons_erase hp).trans (List.perm_append_comm (l₁ := [p]))
  have efs : (dropS s p).L.map Pg.f = (s.L.map Pg.f).filter fun f => decide (f ≠ p) := by
    rw [eL, ← hm.1, List.filter_map]; rfl
  have hall : ((dropS s p).L.map Pg.f ++ (dropS s p).fr).Perm (s.L.map Pg.f ++ s.fr) := by
    rw [efs, eF]
    refine List.Perm.trans ?_ (List.Perm.append_right s.fr hperm.symm)
    rw [List.append_assoc]
    exact List.Perm.append_left _ List.perm_append_comm
  have hmem : ∀ q ∈ (dropS s p).L, q ∈ (wipeS s (goneC s.L p)).L ∧ q.f ≠ p := by
    intro q hq; rw [eL, List.mem_filter] at hq; exact ⟨hq.1, by simpa using hq.2⟩
  have hpg : ∀ f c, f ≠ p → pgAt (wipeS s (goneC s.L p)).L f = some c → pgAt (dropS s p).L f = some c := by
    intro f c hf hc; rw [eL, pgAt_filter, if_neg hf]; exact hc
  refine ⟨h.le, h.n256, by rw [eW]; exact H.len, hall.nodup_iff.2 h.nd, fun f hf => h.mem f (hall.mem_iff.1 hf), ?_, ?_, fun q hq => H.right q (hmem q hq).1, fun q hq => H.eight q (hmem q hq).1, ?_, ?_⟩
  · have := hall.length_eq
    have h2 := h.cnt
    simp only [List.length_append, List.length_map] at this
    omega
  · rw [eL]
    exact H.keys.sublist (List.Sublist.map _ List.filter_sublist)
  · intro q hq x hx
    obtain ⟨hq1, hqp⟩ := hmem q hq
    rcases H.kinds q hq1 x hx with h1 | ⟨h1, c, h2, h3⟩ | h1
    · exact .inl h1
    · refine .inr (.inl ⟨h1, c, hpg _ _ ?_ h2, h3⟩)
      intro hto
      obtain ⟨q1, hq2, ef, ek, es⟩ := mem_upd hq1
      rw [es, List.mem_mapIdx] at hx
      obtain ⟨i, hi, rfl⟩ := hx
      by_cases hg : goneC s.L p q1.f i = true
      · unfold wipeU updX at h1; rw [if_pos hg] at h1; simp [Slt.no] at h1
      · unfold wipeU updX at h1 hto; rw [if_neg hg] at h1 hto; simp only [Option.map_none, Option.getD_none] at h1 hto
        have h8 := h.eight q1 hq2
        apply hg
        unfold goneC
        have : slotP s.L q1.f (i : Int) = some q1.s[i] := by
          unfold slotP
          rw [if_pos (by omega), h.at_ hq2, Option.bind_some, Int.toNat_natCast]; exact List.getElem?_eq_getElem hi
        rw [this]; simp [h1, hto]
    · exact .inr (.inr h1)
  · intro q hq i x hx
    rw [eW]
    exact H.words q (hmem q hq).1 i x hx

/-! ### who tells a page -/
theorem toldF_mem {kind to_ f : Int} {g : Int} {j : Int} : ∀ {l : List Slt} {k : Nat}, (g, j) ∈ toldF kind to_ f k l ↔ g = f ∧ ∃ i x, l[i]? = some x ∧ j = ((k + i : Nat) : Int) ∧ x.kind = kind ∧ x.to_ = to_
  | [], k => by simp [toldF]
  | x :: l, k => by
    rw [toldF, List.mem_append, toldF_mem]
    constructor
    · rintro (h | ⟨rfl, i, y, hy, hj, h1, h2⟩)
      · split at h
        · rename_i hx
          simp only [List.mem_singleton, Prod.mk.injEq] at h
          exact ⟨h.1, 0, x, by simp, by simpa using h.2, hx.1, hx.2⟩
        · simp at h
      · exact ⟨rfl, i + 1, y, by simpa using hy, by rw [hj]; congr 1; omega, h1, h2⟩
    · rintro ⟨rfl, i, y, hy, hj, h1, h2⟩
      cases i with
      | zero =>
        simp at hy; subst hy
        left; rw [if_pos ⟨h1, h2⟩]; simp [hj]
      | succ i =>
        right
        exact ⟨rfl, i, y, by simpa using hy, by rw [hj]; congr 1; omega, h1, h2⟩
theorem told_mem {kind to_ : Int} {L : List Pg} {g j : Int} : (g, j) ∈ toldP kind to_ L ↔ ∃ q ∈ L, g = q.f ∧ ∃ (i : Nat) (x : Slt), q.s[i]? = some x ∧ j = (i : Int) ∧ x.kind = kind ∧ x.to_ = to_ := by
  unfold toldP
  rw [List.mem_flatMap]
  constructor
  · rintro ⟨q, hq, h⟩
    obtain ⟨e, i, x, h1, h2, h3⟩ := toldF_mem.1 h
    exact ⟨q, hq, e, i, x, h1, by simpa using h2, h3⟩
  · rintro ⟨q, hq, e, i, x, h1, h2, h3⟩
    exact ⟨q, hq, toldF_mem.2 ⟨e, i, x, h1, by simpa using h2, h3⟩⟩
theorem told_gone (h : SrOk n a m s) {p : Int} (hb : dropB s p = true) : toldP 1 p (dropS s p).L = [] := by
  have H := h.drop p
  apply List.eq_nil_iff_forall_not_mem.2
  rintro ⟨g, j⟩ hm
  obtain ⟨q, hq, _, i, x, hx, _, h1, h2⟩ := told_mem.1 hm
  rcases H.kinds q hq x (List.mem_of_getElem? hx) with h | ⟨_, c, h3, _⟩ | ⟨h, _⟩
  · omega
  · have hs := pgAt_mem h3
    rw [h2] at hs
    have e : (dropS s p).L = (wipeS s (goneC s.L p)).L.filter fun q => decide (q.f ≠ p) := by unfold dropS; rw [if_pos hb]
    rw [e, List.mem_filter] at hs
    have := hs.1.2
    simp [hs.2] at this
  · omega
theorem make_drop {p : Int} (hb : dropB s p = true) {k : Ky} (hm : makeB (dropS s p) k = true) : makeV (dropS s p) k = p := by
  have e : (dropS s p).fr = s.fr ++ [p] := by unfold dropS; rw [if_pos hb]
  unfold makeV; rw [if_pos hm, e]; simp
/-- the slots of a page are those of its frame's words -/
theorem SrOk.slot (h : SrOk n a m s) {q : Pg} (hq : q ∈ s.L) {i : Nat} (hi : i < 8) : ∃ x, q.s[i]? = some x ∧ slotP s.L q.f (i : Int) = some x := by
  have h8 := h.eight q hq
  refine ⟨q.s[i]'(by omega), List.getElem?_eq_getElem (by omega), ?_⟩
  unfold slotP
  rw [if_pos (by omega), h.at_ hq, Option.bind_some, Int.toNat_natCast]; exact List.getElem?_eq_getElem (by omega)
end

end Go.Proofs.Ytpmfooeifhhfkaa
