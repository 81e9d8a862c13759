/-
 Plain facts on a guard, as its calls go: leaves forbidden one by one, slots cleared one by one, the ways of a page level by level. No program is walked here.
-/
import Derived.Test.YtgjfidjhbkaobaaGreatGuardPK
namespace Go.Proofs.YtgjfidjhbkaobaaGreat
open Go.RowKit
section
variable {n a m : Nat} {L : List Int} {d : Gd} {s : Sr}
def slV (P : List Pg) (x : Int × Int) : Slt := (slotP P x.1 x.2).getD Slt.no
theorem slV_at {P : List Pg} {x : Int × Int} {y : Slt} (h : slotP P x.1 x.2 = some y) : slV P x = y := by unfold slV; rw [h]; rfl
def fstepG (n : Nat) (L : List Int) (g : Int) (d : Gd) (x : Int × Int) : Gd := if (slV d.s.L x).r.w then ⟨leafS n d.s x.1 x.2 g (atV L g) (slV d.s.L x).r.noW, [], d.l⟩ else d
def forbidR (L : List Int) (s : Sr) (g : Int) (l : List (Int × Int)) : Up := fun f i => if (f, (i : Int)) ∈ l then forbidU L s g f i else none
theorem forbidR_some {g : Int} {l : List (Int × Int)} {f : Int} {i : Nat} {y : Slt × Int} (h : forbidR L s g l f i = some y) : forbidU L s g f i = some y := by
 unfold forbidR at h; split at h
 ·exact h
 cases h
theorem SrOk.forbidR (h : SrOk n a m s) (hi : InH n L) (hp : 0 < n) (g : Int) (l : List (Int × Int)) : SrOk n a m (updS s (forbidR L s g l)) := by
 refine h.upd _ fun q hq i hi8 y v e => ?_
 obtain ⟨x, hx, h1, h2, h3, h4, h5⟩ := forbidU_some (forbidR_some e)
 simp only at h4 h5
 obtain ⟨x', h6, h7⟩ := h.slot hq hi8
 rw [hx] at h7; injection h7 with h7; subst h7
 have hr := atV_rng hi hp g
 have := h.n256
 refine ⟨?_, atV L g, hr.1, by omega, fun e => by rw [h4] at e; simp at e, by rw [h5, h4]⟩
 rcases h.kinds q hq x (List.mem_of_getElem? h6) with h | ⟨h, _⟩ | ⟨_, h⟩
 ·omega
 ·omega
 exact .inr (.inr ⟨by rw [h4], h⟩)
def LeafAt (s : Sr) (g : Int) (x : Int × Int) : Prop := ∃ y, slotP s.L x.1 x.2 = some y ∧ y.kind = 2 ∧ y.to_ = g
theorem forbid_step (h : SrOk n a m s) (hi : InH n L) (hp : 0 < n) (g : Int) (l : List (Int × Int)) (x : Int × Int) (hx : LeafAt s g x) (T : List Ht) (ll : List Int) :
  fstepG n L g ⟨updS s (forbidR L s g l), T, ll⟩ x = ⟨updS s (forbidR L s g (l ++ [x])), if (slV s.L x).r.w && !decide (x ∈ l) then [] else T, ll⟩ := by
 obtain ⟨f, i⟩ := x
 obtain ⟨y, hy, hk, ht⟩ := hx
 simp only at hy
 obtain ⟨q, hq, h0, h7, hq2⟩ := slotP_has hy
 have e2 : ((i.toNat : Nat) : Int) = i := by omega
 have hs1 : slotP (updS s (Go.Proofs.YtgjfidjhbkaobaaGreat.forbidR L s g l)).L f i = some (updX (Go.Proofs.YtgjfidjhbkaobaaGreat.forbidR L s g l f i.toNat) y) := by rw [updS_L, slot_upd, hy]; rfl
 have hU : forbidU L s g f i.toNat = if y.r.w = true then some (⟨2, g, y.r.noW⟩, wordS ⟨2, g, y.r.noW⟩ (atV L g)) else none := by
  unfold forbidU; rw [e2, hy]; simp only [hk, ht, true_and]
 have hR : Go.Proofs.YtgjfidjhbkaobaaGreat.forbidR L s g l f i.toNat = if (f, i) ∈ l then forbidU L s g f i.toNat else none := by unfold Go.Proofs.YtgjfidjhbkaobaaGreat.forbidR; rw [e2]
 have hsv : slV s.L (f, i) = y := slV_at hy
 unfold fstepG
 simp only
 rw [show slV (updS s (Go.Proofs.YtgjfidjhbkaobaaGreat.forbidR L s g l)).L (f, i) = updX (Go.Proofs.YtgjfidjhbkaobaaGreat.forbidR L s g l f i.toNat) y from slV_at hs1, hsv, hR, hU]
 by_cases hm : (f, i) ∈ l
 ·have e : Go.Proofs.YtgjfidjhbkaobaaGreat.forbidR L s g (l ++ [(f, i)]) = Go.Proofs.YtgjfidjhbkaobaaGreat.forbidR L s g l := by
   funext f' i'; unfold Go.Proofs.YtgjfidjhbkaobaaGreat.forbidR
   by_cases h1 : (f', (i' : Int)) ∈ l
   ·simp [h1]
   have : (f', (i' : Int)) ≠ (f, i) := fun e => h1 (e ▸ hm)
   simp [h1, this]
  rw [if_pos hm, e]
  by_cases hw : y.r.w = true
  ·simp [hw, updX, Rg.noW, hm]
  simp [hw, updX]
 rw [if_neg hm]
 by_cases hw : y.r.w = true
 ·rw [if_pos (by simp [updX, hw]), if_pos (by simp [hw, hm])]
  congr 1
  have h1 := h.forbidR hi hp g l
  have hr := atV_rng hi hp g
  have hlev : levP s.L f = 1 := by
   unfold levP; rw [hq]
   rcases h.kinds q (pgAt_mem hq).1 y (List.mem_of_getElem? hq2) with h | ⟨h, _⟩ | ⟨_, h⟩
   ·omega
   ·omega
   exact h
  have hb : leafB n (updS s (Go.Proofs.YtgjfidjhbkaobaaGreat.forbidR L s g l)) f i (atV L g) = true := by
   unfold leafB
   rw [slot_hasS hs1, updS_L, lev_upd, hlev]; simp [hr]
  unfold leafS
  rw [if_pos hb, h1.set_upd _ _ (slot_hasS hs1), upd_upd]
  show updS s _ = _
  congr 1
  funext f' i'
  simp only [updX, Option.map_none, Option.getD_none]
  unfold oneU Go.Proofs.YtgjfidjhbkaobaaGreat.forbidR
  by_cases hfi : f' = f ∧ i' = i.toNat
  ·obtain ⟨rfl, rfl⟩ := hfi
   rw [if_pos ⟨rfl, rfl⟩, e2, if_pos (show (f', i) ∈ l ++ [(f', i)] by simp), hU, if_pos hw]; rfl
  have hne : (f', (i' : Int)) ≠ (f, i) := fun e => hfi ⟨congrArg Prod.fst e, by have := congrArg Prod.snd e; simp only at this; omega⟩
  rw [if_neg hfi]; simp [hne]
 rw [if_neg (by simp [updX, hw]), if_neg (by simp [hw])]
 congr 2
 funext f' i'
 unfold Go.Proofs.YtgjfidjhbkaobaaGreat.forbidR
 by_cases hfi : (f', (i' : Int)) = (f, i)
 ·have e1 := congrArg Prod.fst hfi; have e3 := congrArg Prod.snd hfi
  simp only at e1 e3
  subst e1
  have e4 : i' = i.toNat := by omega
  subst e4
  rw [hfi, if_neg hm, if_pos (by simp), hU, if_neg hw]
 simp [hfi]
theorem forbid_fold (h : SrOk n a m s) (hi : InH n L) (hp : 0 < n) (g : Int) (T : List Ht) (ll : List Int) : ∀ (l l0 : List (Int × Int)), (∀ x ∈ l, LeafAt s g x) → (T0 : List Ht) → T0 = (if ∃ x ∈ l0, (slV s.L x).r.w = true then [] else T) →
  l.foldl (fstepG n L g) ⟨updS s (forbidR L s g l0), T0, ll⟩ = ⟨updS s (forbidR L s g (l0 ++ l)), if ∃ x ∈ l0 ++ l, (slV s.L x).r.w = true then [] else T, ll⟩
 | [], l0, _, T0, hT => by rw [List.foldl_nil, List.append_nil, hT]
 | x :: l, l0, hl, T0, hT => by
  rw [List.foldl_cons, forbid_step h hi hp g l0 x (hl x (by simp)), forbid_fold h hi hp g T ll l (l0 ++ [x]) (fun y hy => hl y (by simp [hy])) _ ?_, List.append_assoc]; rfl
  subst hT
  by_cases h1 : ∃ y ∈ l0, (slV s.L y).r.w = true
  ·obtain ⟨y, hy1, hy2⟩ := h1
   rw [if_pos (⟨y, by simp [hy1], hy2⟩ : ∃ y ∈ l0 ++ [x], (slV s.L y).r.w = true), if_pos (⟨y, hy1, hy2⟩ : ∃ y ∈ l0, (slV s.L y).r.w = true)]
   split <;> rfl
  rw [if_neg h1]
  by_cases hw : (slV s.L x).r.w = true
  ·have hx : x ∉ l0 := fun hm => h1 ⟨x, hm, hw⟩
   rw [if_pos (⟨x, by simp, hw⟩ : ∃ y ∈ l0 ++ [x], (slV s.L y).r.w = true), if_pos (by simp [hw, hx])]
  rw [if_neg (by simp [hw]), if_neg]
  rintro ⟨y, hy, hw'⟩
  rw [List.mem_append, List.mem_singleton] at hy
  rcases hy with hy | rfl
  ·exact h1 ⟨y, hy, hw'⟩
  exact hw hw'
theorem told_slot (h : SrOk n a m s) {kind g : Int} {x : Int × Int} : x ∈ toldP kind g s.L ↔ ∃ y, slotP s.L x.1 x.2 = some y ∧ y.kind = kind ∧ y.to_ = g := by
 obtain ⟨f, i⟩ := x
 rw [told_mem]
 constructor
 ·rintro ⟨q, hq, rfl, j, y, hy, rfl, h1, h2⟩
  have hj := (List.getElem?_eq_some_iff.1 hy).1
  rw [h.eight q hq] at hj
  obtain ⟨y', h3, h4⟩ := h.slot hq hj
  rw [hy] at h3; injection h3 with h3; subst h3
  exact ⟨y, h4, h1, h2⟩
 rintro ⟨y, hy, h1, h2⟩
 obtain ⟨q, hq, h0, h7, hy2⟩ := slotP_has hy
 simp only at hq h0 h7 hy2
 exact ⟨q, (pgAt_mem hq).1, (pgAt_mem hq).2.symm, i.toNat, y, hy2, by omega, h1, h2⟩
theorem forbid_is (h : SrOk n a m d.s) (hi : InH n L) (hp : 0 < n) (g : Int) : (toldP 2 g d.s.L).foldl (fstepG n L g) d = forbidG L d g := by
 have e0 : d = ⟨updS d.s (Go.Proofs.YtgjfidjhbkaobaaGreat.forbidR L d.s g []), d.T, d.l⟩ := by
  have : Go.Proofs.YtgjfidjhbkaobaaGreat.forbidR L d.s g [] = fun _ _ => none := by funext f i; unfold Go.Proofs.YtgjfidjhbkaobaaGreat.forbidR; simp
  rw [this, h.upd_id (by intro q _ i _ y e; cases e)]
 have hf := forbid_fold h hi hp g d.T d.l (toldP 2 g d.s.L) [] (fun x hx => (told_slot h).1 hx) d.T (by simp)
 rw [← e0] at hf
 rw [hf, List.nil_append]
 unfold forbidG
 refine Gd.ext_ ?_ ?_ rfl
 ·show updS d.s _ = updS d.s _
  congr 1
  funext f i
  unfold Go.Proofs.YtgjfidjhbkaobaaGreat.forbidR
  split
  ·rfl
  rename_i hm
  cases e : forbidU L d.s g f i with
  | none => rfl
  | some y =>
   obtain ⟨x, hx, h1, h2, _⟩ := forbidU_some e
   exact absurd ((told_slot h).2 ⟨x, hx, h1, h2⟩) hm
 show (if _ then _ else _) = if _ then _ else _
 have : (∃ x ∈ toldP 2 g d.s.L, (slV d.s.L x).r.w = true) ↔ writB d.s g = true := by
  rw [writB_iff h]
  constructor
  ·rintro ⟨x, hx, hw⟩
   obtain ⟨y, hy, h1, h2⟩ := (told_slot h).1 hx
   rw [slV_at hy] at hw
   exact ⟨x.1, x.2, y, hy, h1, h2, hw⟩
  rintro ⟨f, i, y, hy, h1, h2, hw⟩
  exact ⟨(f, i), (told_slot h).2 ⟨y, hy, h1, h2⟩, by rw [slV_at hy]; exact hw⟩
 simp only [this]
def badC (n : Nat) (L : List Int) (s : Sr) (g : Int) (x : Int × Int) : Bool := decide ((slV s.L x).kind = 2) && !agreeB (slV s.L x) (entG n L s.W g x.2)
def pstepS (n : Nat) (L : List Int) (g : Int) (s : Sr) (x : Int × Int) : Sr := if badC n L s g x then clearS n s x.1 x.2 else s
def eight (p : Int) (k : Nat) : List (Int × Int) := (List.range k).map fun (i : Nat) => (p, (i : Int))
theorem eight_succ (p : Int) (k : Nat) : eight p (k + 1) = eight p k ++ [(p, (k : Int))] := by unfold eight; rw [List.range_succ, List.map_append]; rfl
theorem mem_eight {p : Int} {k : Nat} {x : Int × Int} : x ∈ eight p k ↔ x.1 = p ∧ 0 ≤ x.2 ∧ x.2 < k := by
 obtain ⟨f, i⟩ := x
 unfold eight
 rw [List.mem_map]
 constructor
 ·rintro ⟨j, hj, e⟩
  rw [List.mem_range] at hj
  injection e with e1 e2
  subst e1; subst e2
  exact ⟨rfl, by omega, by omega⟩
 rintro ⟨h1, h2, h3⟩
 simp only at h1 h2 h3
 exact ⟨i.toNat, by rw [List.mem_range]; omega, by rw [h1]; congr 1; omega⟩
def pruneK (n : Nat) (L : List Int) (g : Int) (s : Sr) (p : Int) (k : Nat) : Sr := (eight p k).foldl (pstepS n L g) s
def pruneS (n : Nat) (L : List Int) (g : Int) (s : Sr) (p : Int) : Sr := pruneK n L g s p 8
theorem pruneK_zero (g p : Int) : pruneK n L g s p 0 = s := rfl
theorem pruneK_succ (g p : Int) (k : Nat) : pruneK n L g s p (k + 1) = pstepS n L g (pruneK n L g s p k) (p, (k : Int)) := by unfold pruneK; rw [eight_succ, List.foldl_append]; rfl
theorem SrOk.pstep (h : SrOk n a m s) (g : Int) (x : Int × Int) : SrOk n a m (pstepS n L g s x) := by
 unfold pstepS; split
 ·exact h.clear _ _
 exact h
theorem SrOk.psteps (g : Int) : ∀ (l : List (Int × Int)) {s : Sr}, SrOk n a m s → SrOk n a m (l.foldl (pstepS n L g) s)
 | [], _, h => h
 | x :: l, _, h => SrOk.psteps g l (h.pstep g x)
theorem prune_wipe (h : SrOk n a m s) (hi : InH n L) (ha : ∀ h ∈ L, ¬ ((a : Int) ≤ h ∧ h < a + m)) (g : Int) (c : Int → Nat → Bool) (x : Int × Int) (hx : 0 ≤ x.2 ∧ x.2 ≤ 7) :
  pstepS n L g (wipeS s c) x = wipeS s fun f i => c f i || (decide ((f, (i : Int)) = x) && badC n L s g x) := by
 obtain ⟨p, i⟩ := x
 simp only at hx
 have e2 : ((i.toNat : Nat) : Int) = i := by omega
 have hw := h.wipe c
 have hent : entG n L (wipeS s c).W g i = entG n L s.W g i := Still.ent (Still.upd h (wipeU c)) hi ha g i
 have hsl : slV (wipeS s c).L (p, i) = if c p i.toNat then Slt.no else slV s.L (p, i) := by
  unfold slV; rw [slot_wipe]
  cases slotP s.L p i with
  | none => simp
  | some y => rfl
 have hbad : badC n L (wipeS s c) g (p, i) = (!c p i.toNat && badC n L s g (p, i)) := by
  unfold badC
  rw [hsl, hent]
  cases c p i.toNat
  ·simp
  simp [Slt.no]
 unfold pstepS
 rw [hbad]
 by_cases h1 : c p i.toNat = true
 ·rw [if_neg (by simp [h1])]
  congr 1
  funext f j
  by_cases hfj : (f, (j : Int)) = (p, i)
  ·have e1 := congrArg Prod.fst hfj; have e3 := congrArg Prod.snd hfj
   simp only at e1 e3
   subst e1
   have : j = i.toNat := by omega
   subst this
   simp [h1]
  simp [hfj]
 simp only [Bool.not_eq_true] at h1
 rw [h1, Bool.not_false, Bool.true_and]
 cases hb : badC n L s g (p, i) with
 | false => simp
 | true =>
  rw [if_pos rfl, hw.clear_wipe p i hx, wipe_wipe]
  congr 1
  funext f j
  have : decide (f = p ∧ j = i.toNat) = decide ((f, (j : Int)) = (p, i)) := by
   apply decide_eq_decide.2
   rw [Prod.mk.injEq]
   constructor
   ·rintro ⟨h1, h2⟩; exact ⟨h1, by omega⟩
   rintro ⟨h1, h2⟩; exact ⟨h1, by omega⟩
  rw [this]; simp
theorem prunes_wipe (h : SrOk n a m s) (hi : InH n L) (ha : ∀ h ∈ L, ¬ ((a : Int) ≤ h ∧ h < a + m)) (g : Int) : ∀ (l l0 : List (Int × Int)), (∀ x ∈ l, 0 ≤ x.2 ∧ x.2 ≤ 7) →
  l.foldl (pstepS n L g) (wipeS s fun f i => decide ((f, (i : Int)) ∈ l0) && badC n L s g (f, (i : Int))) = wipeS s fun f i => decide ((f, (i : Int)) ∈ l0 ++ l) && badC n L s g (f, (i : Int))
 | [], l0, _ => by rw [List.foldl_nil, List.append_nil]
 | x :: l, l0, hl => by
  rw [List.foldl_cons, prune_wipe h hi ha g _ x (hl x (by simp))]
  have e : (fun (f : Int) (i : Nat) => (decide ((f, (i : Int)) ∈ l0) && badC n L s g (f, (i : Int))) || (decide ((f, (i : Int)) = x) && badC n L s g x)) = fun (f : Int) (i : Nat) => decide ((f, (i : Int)) ∈ l0 ++ [x]) && badC n L s g (f, (i : Int)) := by
   funext f i
   by_cases hx : (f, (i : Int)) = x
   ·subst hx
    cases badC n L s g (f, (i : Int)) <;> simp
   simp [hx]
  rw [e, prunes_wipe h hi ha g l (l0 ++ [x]) (fun y hy => hl y (by simp [hy])), List.append_assoc]; rfl
theorem prunes_is (h : SrOk n a m s) (hi : InH n L) (ha : ∀ h ∈ L, ¬ ((a : Int) ≤ h ∧ h < a + m)) (g : Int) : (ofP s.L g).foldl (pruneS n L g) s = wipeS s (lookC n L s g) := by
 have e1 : (ofP s.L g).foldl (pruneS n L g) s = ((ofP s.L g).flatMap fun p => eight p 8).foldl (pstepS n L g) s := by
  rw [List.foldl_flatMap]; rfl
 have hn : wipeS s (fun f i => decide ((f, (i : Int)) ∈ ([] : List (Int × Int))) && badC n L s g (f, (i : Int))) = s := by
  have : (fun (f : Int) (i : Nat) => decide ((f, (i : Int)) ∈ ([] : List (Int × Int))) && badC n L s g (f, (i : Int))) = fun _ _ => false := by funext f i; simp
  rw [this]; unfold wipeS; exact h.upd_id (by intro q _ i _ y e; simp [wipeU] at e)
 have hf := prunes_wipe h hi ha g ((ofP s.L g).flatMap fun p => eight p 8) [] (fun x hx => by
  obtain ⟨p, _, hx⟩ := List.mem_flatMap.1 hx
  have := mem_eight.1 hx; omega)
 rw [hn] at hf
 rw [e1, hf, List.nil_append]
 congr 1
 funext f i
 unfold lookC badC slV
 simp only
 by_cases hi8 : i < 8
 ·have : decide ((f, (i : Int)) ∈ (ofP s.L g).flatMap fun p => eight p 8) = (ofP s.L g).contains f := by
   rw [Bool.eq_iff_iff, decide_eq_true_eq, List.mem_flatMap, List.contains_iff_mem]
   constructor
   ·rintro ⟨p, hp, hx⟩
    have := (mem_eight.1 hx).1
    simp only at this
    rw [this]; exact hp
   intro hf
   exact ⟨f, hf, mem_eight.2 ⟨rfl, by show (0 : Int) ≤ i; omega, by show (i : Int) < 8; omega⟩⟩
  rw [this]
  cases slotP s.L f (i : Int) with
  | none => simp [Slt.no]
  | some y => simp
 have e3 : slotP s.L f (i : Int) = none := by unfold slotP; rw [if_neg (by omega)]
 rw [e3]; simp [Slt.no]
theorem SrOk.prune (h : SrOk n a m s) (g p : Int) (k : Nat) : SrOk n a m (pruneK n L g s p k) := SrOk.psteps g _ h
theorem look_is (h : GdOk n a m L d) {g : Int} (hl : looseB d g = true) : lookG n L d g = ⟨(ofP d.s.L g).foldl (pruneS n L g) (forbidG L (tightG d g) g).s, [], (tightG d g).l⟩ := by
 unfold lookG
 rw [if_pos hl]
 have h1 := (h.tight g).forbid g
 have := prunes_is h1.sr h.map h.ap g
 have e : ofP (forbidG L (tightG d g) g).s.L g = ofP d.s.L g := by unfold forbidG tightG; simp only [updS_L, of_upd]
 rw [e] at this
 rw [this]
def rchL (P : List Pg) (p i : Int) : Nat → Int → Nat → List Int
 | 0, _, _ => []
 | k + 1, q, first => if q = p then (List.range (8 ^ k)).map fun (j : Nat) => (first : Int) + i * (8 ^ k : Nat) + (j : Int)
  else (List.range 8).flatMap fun (j : Nat) => if (slV P (q, (j : Int))).kind = 1 then rchL P p i k (slV P (q, (j : Int))).to_ (first + j * 8 ^ k) else []
def rchK (P : List Pg) (p i : Int) (k : Nat) (q : Int) (first j : Nat) : List Int := (List.range j).flatMap fun (j : Nat) => if (slV P (q, (j : Int))).kind = 1 then rchL P p i k (slV P (q, (j : Int))).to_ (first + j * 8 ^ k) else []
theorem rchK_zero (P : List Pg) (p i : Int) (k : Nat) (q : Int) (first : Nat) : rchK P p i k q first 0 = [] := rfl
theorem rchK_succ (P : List Pg) (p i : Int) (k : Nat) (q : Int) (first j : Nat) : rchK P p i k q first (j + 1) = rchK P p i k q first j ++ if (slV P (q, (j : Int))).kind = 1 then rchL P p i k (slV P (q, (j : Int))).to_ (first + j * 8 ^ k) else [] := by
 unfold rchK; rw [List.range_succ, List.flatMap_append]; simp
theorem rchL_self (P : List Pg) (p i : Int) (k first : Nat) : rchL P p i (k + 1) p first = (List.range (8 ^ k)).map fun (j : Nat) => (first : Int) + i * (8 ^ k : Nat) + (j : Int) := by rw [rchL, if_pos rfl]
theorem rchL_other (P : List Pg) (p i : Int) (k : Nat) {q : Int} (first : Nat) (h : q ≠ p) : rchL P p i (k + 1) q first = rchK P p i k q first 8 := by rw [rchL, if_neg h]; rfl
theorem rchK_len (P : List Pg) (p i : Int) (k : Nat) (h : ∀ q first, (rchL P p i k q first).length ≤ 8 ^ k) (q : Int) (first : Nat) : ∀ j, (rchK P p i k q first j).length ≤ j * 8 ^ k
 | 0 => by rw [rchK_zero]; simp
 | j + 1 => by
  rw [rchK_succ, List.length_append, Nat.add_mul, Nat.one_mul]
  have := rchK_len P p i k h q first j
  split
  ·have := h (slV P (q, (j : Int))).to_ (first + j * 8 ^ k); omega
  rw [List.length_nil, Nat.add_zero]; exact Nat.le_trans this (Nat.le_add_right _ _)
theorem rchL_len (P : List Pg) (p i : Int) : ∀ (k : Nat) (q : Int) (first : Nat), (rchL P p i k q first).length ≤ 8 ^ k
 | 0, _, _ => by simp [rchL]
 | k + 1, q, first => by
  by_cases h : q = p
  ·subst h; rw [rchL_self, List.length_map, List.length_range, Nat.pow_succ]; omega
  rw [rchL_other P p i k first h]
  have := rchK_len P p i k (rchL_len P p i k) q first 8
  rw [Nat.pow_succ]; omega
def passL (P : List Pg) (p i : Int) : Nat → Int → Nat → Bool
 | 0, _, _ => false
 | k + 1, q, j => decide (p = q ∧ ((j / 8 ^ k : Nat) : Int) = i) || (decide ((slV P (q, ((j / 8 ^ k : Nat) : Int))).kind = 1) && passL P p i k (slV P (q, ((j / 8 ^ k : Nat) : Int))).to_ (j % 8 ^ k))
theorem pass_lev (h : SrOk n a m s) (p i : Int) : ∀ (k : Nat) (q : Int) (j : Nat), levP s.L q = k → passL s.L p i k q j = true → levP s.L p ≤ k
 | 0, _, _, _, hp => by simp [passL] at hp
 | k + 1, q, j, hq, hp => by
  rw [passL, Bool.or_eq_true, decide_eq_true_eq, Bool.and_eq_true, decide_eq_true_eq] at hp
  rcases hp with ⟨rfl, _⟩ | ⟨h1, h2⟩
  ·omega
  have := pass_lev h p i k _ _ ?_ h2
  ·omega
  generalize hy : slV s.L (q, ((j / 8 ^ k : Nat) : Int)) = y at h1
  unfold slV at hy
  cases e : slotP s.L q ((j / 8 ^ k : Nat) : Int) with
  | none => simp only [e, Option.getD_none] at hy; subst hy; simp [Slt.no] at h1
  | some y' =>
   simp only [e, Option.getD_some] at hy; subst hy
   obtain ⟨g, hg, _, _, hg2⟩ := slotP_has e
   rcases h.kinds g (pgAt_mem hg).1 y' (List.mem_of_getElem? hg2) with h | ⟨_, c, hc, hl⟩ | ⟨h, _⟩
   ·omega
   ·unfold levP at hq ⊢
    rw [hg] at hq; rw [hc]
    simp only [Option.map_some, Option.getD_some] at hq ⊢
    omega
   omega
theorem kid_lev (h : SrOk n a m s) {q i : Int} (hk : (slV s.L (q, i)).kind = 1) : levP s.L (slV s.L (q, i)).to_ = levP s.L q - 1 ∧ 1 ≤ levP s.L (slV s.L (q, i)).to_ ∧ levP s.L q ≤ 3 := by
 generalize hy : slV s.L (q, i) = y at hk ⊢
 unfold slV at hy
 cases e : slotP s.L q i with
 | none => simp only [e, Option.getD_none] at hy; subst hy; simp [Slt.no] at hk
 | some y' =>
  simp only [e, Option.getD_some] at hy; subst hy
  obtain ⟨g, hg, _, _, hg2⟩ := slotP_has e
  rcases h.kinds g (pgAt_mem hg).1 y' (List.mem_of_getElem? hg2) with h' | ⟨_, c, hc, hl⟩ | ⟨h', _⟩
  ·omega
  ·have h1 := h.right c (pgAt_mem hc).1
   have h2 := h.right g (pgAt_mem hg).1
   unfold Ky.right at h1 h2
   rw [decide_eq_true_eq] at h1 h2
   unfold levP
   rw [hg, hc]
   simp only [Option.map_some, Option.getD_some]
   omega
  omega
theorem range_mul (b : Nat) : ∀ c, List.range (c * b) = (List.range c).flatMap fun j => (List.range b).map fun x => j * b + x
 | 0 => by simp
 | c + 1 => by
  rw [List.range_succ, List.flatMap_append, ← range_mul b c, Nat.add_mul, Nat.one_mul, List.range_add]
  simp
theorem rch_is (h : SrOk n a m s) (p i : Int) (hi : 0 ≤ i ∧ i < 8) : ∀ (k : Nat) (q : Int) (first : Nat), levP s.L q = k → rchL s.L p i k q first = ((List.range (8 ^ k)).filter (passL s.L p i k q)).map fun (j : Nat) => (first : Int) + (j : Int)
 | 0, q, first, _ => by simp [rchL, passL]
 | k + 1, q, first, hq => by
  have hpos : 0 < 8 ^ k := Nat.pos_of_ne_zero (by simp)
  rw [Nat.pow_succ, Nat.mul_comm, range_mul, List.filter_flatMap, List.map_flatMap]
  have hdm : ∀ j x, x ∈ List.range (8 ^ k) → (j * 8 ^ k + x) / 8 ^ k = j ∧ (j * 8 ^ k + x) % 8 ^ k = x := by
   intro j x hx
   rw [List.mem_range] at hx
   constructor
   ·rw [Nat.mul_comm, Nat.mul_add_div hpos, Nat.div_eq_of_lt hx]; rfl
   rw [Nat.mul_comm, Nat.mul_add_mod]; exact Nat.mod_eq_of_lt hx
  by_cases hqp : q = p
  ·subst hqp
   rw [rchL_self]
   obtain ⟨b, rfl⟩ := Int.eq_ofNat_of_zero_le hi.1
   have hb : b < 8 := by omega
   have hno : ∀ y x : Nat, (decide ((slV s.L (q, (y : Int))).kind = 1) && passL s.L q (b : Int) k (slV s.L (q, (y : Int))).to_ x) = false := by
    intro y x
    rw [Bool.eq_false_iff, Ne, Bool.and_eq_true, decide_eq_true_eq]
    rintro ⟨h1, h2⟩
    have h3 := kid_lev h h1
    have := pass_lev h q b k _ _ (by omega) h2
    omega
   have hall : ∀ j, (List.filter (passL s.L q (b : Int) (k + 1) q) ((List.range (8 ^ k)).map fun x => j * 8 ^ k + x)).map (fun (j : Nat) => (first : Int) + (j : Int)) = if j = b then (List.range (8 ^ k)).map fun (x : Nat) => (first : Int) + (b : Int) * (8 ^ k : Nat) + (x : Int) else [] := by
    intro j
    rw [List.filter_map]
    have : (List.range (8 ^ k)).filter (passL s.L q (b : Int) (k + 1) q ∘ fun x => j * 8 ^ k + x) = (List.range (8 ^ k)).filter fun _ => decide (j = b) := by
     apply List.filter_congr
     intro x hx
     simp only [Function.comp]
     rw [passL, (hdm j x hx).1, hno, Bool.or_false]
     apply decide_eq_decide.2
     constructor
     ·rintro ⟨_, h⟩; omega
     rintro rfl; exact ⟨rfl, rfl⟩
    rw [this]
    by_cases hj : j = b
    ·subst hj
     simp only [decide_true, if_true]
     rw [List.filter_eq_self.2 (fun _ _ => rfl), List.map_map]
     apply List.map_congr_left
     intro x _
     simp only [Function.comp, Int.natCast_add, Int.natCast_mul]
     omega
    simp [hj]
   simp only [hall]
   have h8 : List.range 8 = [0, 1, 2, 3, 4, 5, 6, 7] := rfl
   rw [h8]
   have : b = 0 ∨ b = 1 ∨ b = 2 ∨ b = 3 ∨ b = 4 ∨ b = 5 ∨ b = 6 ∨ b = 7 := by omega
   rcases this with rfl | rfl | rfl | rfl | rfl | rfl | rfl | rfl <;> simp
  rw [rchL, if_neg hqp]
  congr 1
  funext j
  rw [List.filter_map]
  have : (List.range (8 ^ k)).filter (passL s.L p i (k + 1) q ∘ fun x => j * 8 ^ k + x) = (List.range (8 ^ k)).filter fun x => decide ((slV s.L (q, (j : Int))).kind = 1) && passL s.L p i k (slV s.L (q, (j : Int))).to_ x := by
   apply List.filter_congr
   intro x hx
   simp only [Function.comp]
   rw [passL, (hdm j x hx).1, (hdm j x hx).2, decide_eq_false (fun h => hqp h.1.symm), Bool.false_or]
  rw [this]
  by_cases hk : (slV s.L (q, (j : Int))).kind = 1
  ·rw [if_pos hk, rch_is h p i hi k _ _ (by have := kid_lev h hk; omega)]
   simp only [hk, decide_true, Bool.true_and, List.map_map]
   apply List.map_congr_left
   intro x _
   simp only [Function.comp, Int.natCast_add, Int.natCast_mul]
   omega
  rw [if_neg hk]; simp [hk]
theorem pass_top (P : List Pg) (p i : Int) (root : Int) {t : Pg} (ht : pgOf P ⟨root, 3, 0⟩ = some t) (j : Nat) : passB P root p i j = passL P p i 3 t.f j := by
 have e1 : j % 64 / 8 = j / 8 % 8 := by omega
 have e2 : j % 64 % 8 = j % 8 := by omega
 unfold passB
 rw [ht]
 simp only [passL, Nat.reducePow, Nat.div_one, Bool.and_false, Bool.or_false, e1, e2]
 congr 1
 split
 ·rename_i h1
  have h : slV P (t.f, ((j / 64 : Nat) : Int)) = Slt.no := by unfold slV; rw [h1]; rfl
  rw [show decide ((slV P (t.f, ((j / 64 : Nat) : Int))).kind = 1) = false by rw [h]; rfl]; rfl
 rename_i x h1
 simp only [slV_at (x := (t.f, ((j / 64 : Nat) : Int))) h1]
 congr 2
 split
 ·rename_i h2
  have h : slV P (x.to_, ((j / 8 % 8 : Nat) : Int)) = Slt.no := by unfold slV; rw [h2]; rfl
  rw [show decide ((slV P (x.to_, ((j / 8 % 8 : Nat) : Int))).kind = 1) = false by rw [h]; rfl]; rfl
 rename_i y h2
 simp only [slV_at (x := (x.to_, ((j / 8 % 8 : Nat) : Int))) h2]
theorem reach_is (h : SrOk n a m s) {root p i : Int} {t : Pg} (ht : pgOf s.L ⟨root, 3, 0⟩ = some t) (hi : 0 ≤ i ∧ i < 8) : reachP s.L root p i = rchL s.L p i 3 t.f 0 := by
 have hl : levP s.L t.f = 3 := by
  obtain ⟨h1, h2⟩ := pgOf_mem ht
  unfold levP; rw [h.at_ h1, Option.map_some, h2]; rfl
 rw [rch_is h p i hi 3 t.f 0 hl]
 unfold reachP
 have : (List.range 512).filter (fun k => decide (0 ≤ i ∧ i < 8) && passB s.L root p i k) = (List.range (8 ^ 3)).filter (passL s.L p i 3 t.f) := by
  apply List.filter_congr
  intro j _
  rw [pass_top s.L p i root ht, decide_eq_true hi, Bool.true_and]
 rw [this]
 apply List.map_congr_left
 intro x _; simp
theorem reach_none {P : List Pg} {root p i : Int} (h : pgOf P ⟨root, 3, 0⟩ = none ∨ ¬ (0 ≤ i ∧ i < 8)) : reachP P root p i = [] := by
 unfold reachP
 rw [List.filter_eq_nil_iff.2, List.map_nil]
 intro j _
 rcases h with h | h
 ·unfold passB; rw [h]; simp
 simp [h]
end
end Go.Proofs.YtgjfidjhbkaobaaGreat
