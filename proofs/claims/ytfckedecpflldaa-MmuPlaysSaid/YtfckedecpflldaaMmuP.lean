/-
  Plain facts on a host's machine that walks tables. No program is walked here.
-/
import Derived.Test.YtfckedecpflldaaG9b
import Derived.Test.YtfckedecpflldaaHtRg
import Derived.Test.YtfckedecpflldaaG1
import Derived.Test.YtfckedecpflldaaG4
import Derived.Test.YtfckedecpflldaaG4r
namespace Go.Proofs.Ytfckedecpflldaa
open Go.RowKit

/-- the entry of a host's word, if it is there -/
def rdH (n : Nat) (W : List Int) (f i : Int) : Option Ent := if hasW n f i && (getE (getW n W f i).toNat).p then some (getE (getW n W f i).toNat) else none
/-- a walk of the host's machine: a frame, and what may be done -/
def walkH (n : Nat) (W : List Int) (root page : Int) : Option (Int × Rg) :=
  (rdH n W root (idxI page 3)).bind fun e3 => (rdH n W e3.f (idxI page 2)).bind fun e2 => (rdH n W e2.f (idxI page 1)).map fun e1 => (e1.f, ((Rg.all.and (ofE e3)).and (ofE e2)).and (ofE e1))
def hitH (asid page f : Int) (r : Rg) : Ht := ⟨asid, page, f, r.w, r.u, r.x, false⟩
def knowB (T : List Ht) (asid page kind : Int) (user : Bool) : Bool := hasT T asid page && mayB (getT T asid page).rg kind user
/-- what is known behind an Access of a page from 0 to 511 -/
def accH (n : Nat) (W : List Int) (most : Nat) (T : List Ht) (root asid page kind : Int) (user : Bool) : List Ht :=
  if knowB T asid page kind user then T else match walkH n W root page with
    | some (f, r) => if mayB r kind user then putT most (dropT T asid page) (hitH asid page f r) else dropT T asid page
    | none => dropT T asid page
def accF (n : Nat) (W : List Int) (T : List Ht) (root asid page kind : Int) (user : Bool) : Option Int :=
  if knowB T asid page kind user then some (getT T asid page).f else match walkH n W root page with
    | some (f, r) => if mayB r kind user then some f else none
    | none => none
def findHB (n : Nat) (W : List Int) (T : List Ht) (root asid page : Int) : Bool := !hasT T asid page && (walkH n W root page).isSome
def findH (n : Nat) (W : List Int) (most : Nat) (T : List Ht) (root asid page : Int) : List Ht :=
  if hasT T asid page then T else match walkH n W root page with
    | some (f, r) => putT most T (hitH asid page f r)
    | none => T

section
variable {n most : Nat} {W W' : List Int} {T : List Ht} {root asid page kind : Int} {user : Bool}
theorem put_nil (x : Ht) : putT most [] x = [x] := by
  have e : cutT most [] = [] := by unfold cutT; split <;> rfl
  show cutT most [] ++ [x] = [x]
  rw [e]; rfl
theorem hasT_nil (a p : Int) : hasT [] a p = false := rfl
theorem acc_fresh : accH n W most [] root asid page kind user = match walkH n W root page with
    | some (f, r) => if mayB r kind user then [hitH asid page f r] else []
    | none => [] := by
  unfold accH knowB
  rw [hasT_nil]
  simp only [Bool.false_and, Bool.false_eq_true, if_false]
  cases walkH n W root page with
  | none => rfl
  | some x =>
    simp only
    split
    · exact put_nil _
    · rfl
theorem put_has (T : List Ht) (x : Ht) : hasT (putT most T x) x.a x.p = true := by
  unfold hasT putT; rw [List.any_append]; simp [isK_self]
theorem put_get_ (T : List Ht) (x : Ht) : getT (putT most T x) x.a x.p = x := by
  unfold getT putT
  rw [List.find?_append]
  have : (cutT most (dropT T x.a x.p)).find? (fun h => h.isK x.a x.p) = none := by
    rw [List.find?_eq_none]
    intro y hy
    have := dropT_not T x.a x.p y ((cutT_sub most _).subset hy)
    rw [this]; simp
  rw [this]
  simp [isK_self]
theorem hit_rg (asid page f : Int) (r : Rg) : (hitH asid page f r).rg = r := rfl
theorem find_twice (h : hasT (findH n W most T root asid page) asid page = false) : walkH n W root page = none := by
  unfold findH at h
  split at h
  · rename_i h2; rw [h2] at h; simp at h
  · cases e : walkH n W root page with
    | none => rfl
    | some x =>
      rw [e] at h
      have := put_has (most := most) T (hitH asid page x.1 x.2)
      simp only [hitH] at this
      simp only [hitH, this] at h
      simp at h
/-! ### walks of tables that say more -/
theorem under_refl (r : Rg) : under r r = true := by unfold under; rw [Rg.eqb_iff]; cases r; simp [Rg.and]
theorem under_iff (a b : Rg) : under a b = true ↔ (a.w = true → b.w = true) ∧ (a.u = true → b.u = true) ∧ (a.x = true → b.x = true) := by
  unfold under
  rw [Rg.eqb_iff]
  obtain ⟨a1, a2, a3⟩ := a
  obtain ⟨b1, b2, b3⟩ := b
  cases a1 <;> cases a2 <;> cases a3 <;> cases b1 <;> cases b2 <;> cases b3 <;> simp [Rg.and]
/-- entries of the same frame, that are there alike, with more rights -/
structure MoreE (e e' : Ent) : Prop where
  f : e'.f = e.f
  u : under (ofE e) (ofE e') = true
theorem MoreE.refl (e : Ent) : MoreE e e := ⟨rfl, under_refl _⟩
def MoreO (x y : Option Ent) : Prop := (x = none ∧ y = none) ∨ ∃ e e', x = some e ∧ y = some e' ∧ MoreE e e'
theorem walk_more (h : ∀ f i, MoreO (rdH n W f i) (rdH n W' f i)) : (walkH n W root page = none ∧ walkH n W' root page = none) ∨ ∃ f r r', walkH n W root page = some (f, r) ∧ walkH n W' root page = some (f, r') ∧ under r r' = true := by
  unfold walkH
  rcases h root (idxI page 3) with ⟨h1, h2⟩ | ⟨e3, e3', h1, h2, f3, u3⟩
  · left; rw [h1, h2]; exact ⟨rfl, rfl⟩
  rw [h1, h2, Option.bind_some, Option.bind_some, f3]
  rcases h e3.f (idxI page 2) with ⟨h1, h2⟩ | ⟨e2, e2', h1, h2, f2, u2⟩
  · left; rw [h1, h2]; exact ⟨rfl, rfl⟩
  rw [h1, h2, Option.bind_some, Option.bind_some, f2]
  rcases h e2.f (idxI page 1) with ⟨h1, h2⟩ | ⟨e1, e1', h1, h2, f1, u1⟩
  · left; rw [h1, h2]; exact ⟨rfl, rfl⟩
  rw [h1, h2, Option.map_some, Option.map_some, f1]
  refine .inr ⟨_, _, _, rfl, rfl, ?_⟩
  rw [under_iff] at u3 u2 u1 ⊢
  simp only [Rg.and, Rg.all, Bool.true_and, Bool.and_eq_true]
  exact ⟨fun ⟨⟨a, b⟩, c⟩ => ⟨⟨u3.1 a, u2.1 b⟩, u1.1 c⟩, fun ⟨⟨a, b⟩, c⟩ => ⟨⟨u3.2.1 a, u2.2.1 b⟩, u1.2.1 c⟩, fun ⟨⟨a, b⟩, c⟩ => ⟨⟨u3.2.2 a, u2.2.2 b⟩, u1.2.2 c⟩⟩
/-- a word with W and U, and without NX -/
def moreN (v : Nat) : Nat := (v ||| 6) &&& 9223372036854775807
theorem more_bit (v j : Nat) (hj : j < 63) : (moreN v).testBit j = (v.testBit j || decide (j = 1) || decide (j = 2)) := by
  unfold moreN
  have e6 : (6 : Nat).testBit j = (decide (j = 1) || decide (j = 2)) := by
    by_cases h1 : j = 1
    · subst h1; rfl
    · by_cases h2 : j = 2
      · subst h2; rfl
      · have : (6 : Nat) = 2 ^ 1 + 2 ^ 2 := by decide
        by_cases h3 : j < 3
        · have : j = 0 := by omega
          subst this; rfl
        · rw [Nat.testBit_lt_two_pow (Nat.lt_of_lt_of_le (show (6 : Nat) < 2 ^ 3 by decide) (Nat.pow_le_pow_right (by omega) (by omega)))]
          simp [h1, h2]
  rw [Nat.testBit_and, Nat.testBit_or, e6, show (9223372036854775807 : Nat) = 2 ^ 63 - 1 by decide, Nat.testBit_two_pow_sub_one]
  simp [hj, Bool.or_assoc]
theorem more_n (v : Nat) : (moreN v).testBit 63 = false := by
  unfold moreN
  rw [Nat.testBit_and, show (9223372036854775807 : Nat) = 2 ^ 63 - 1 by decide, Nat.testBit_two_pow_sub_one]; simp
theorem more_get (v : Nat) : (getE (moreN v)).p = (getE v).p ∧ MoreE (getE v) (getE (moreN v)) := by
  refine ⟨by rw [get_p, get_p, more_bit _ _ (by omega)]; simp, ?_, ?_⟩
  · rw [get_f, get_f]
    congr 1
    apply Nat.eq_of_testBit_eq
    intro j
    rw [frameN_bit, frameN_bit]
    by_cases h : j < 20
    · rw [more_bit _ _ (by omega)]
      simp [h]
    · simp [h]
  · rw [under_iff]
    unfold ofE
    simp only [get_w, get_u, get_n]
    rw [more_bit _ 1 (by omega), more_bit _ 2 (by omega), more_n]
    simp
theorem more_lt {v : Nat} : moreN v < 18446744073709551616 := by
  unfold moreN
  exact Nat.lt_of_le_of_lt Nat.and_le_right (by decide)
theorem rd_more (hW : W.length = 8 * n) (g i : Int) : ∀ f j, MoreO (rdH n W f j) (rdH n (setW n W g i (moreN (getW n W g i).toNat : Nat)) f j) := by
  intro f j
  by_cases hg : hasW n g i = true
  · by_cases e : f = g ∧ j = i
    · obtain ⟨rfl, rfl⟩ := e
      have hgw : getW n (setW n W f j (moreN (getW n W f j).toNat : Nat)) f j = (moreN (getW n W f j).toNat : Nat) := by
        have hg' := hg
        unfold hasW at hg'; rw [decide_eq_true_eq] at hg'
        unfold getW setW; rw [if_pos hg, if_pos hg, List.getD_eq_getElem?_getD, List.getElem?_set, if_pos rfl, if_pos (by omega)]; rfl
      unfold rdH
      rw [hgw, hg, Int.toNat_natCast]
      have := more_get (getW n W f j).toNat
      rw [this.1]
      cases hp : (getE (getW n W f j).toNat).p
      · exact .inl ⟨rfl, rfl⟩
      · exact .inr ⟨_, _, rfl, rfl, this.2⟩
    · have hgw : getW n (setW n W g i (moreN (getW n W g i).toNat : Nat)) f j = getW n W f j := by
        have hg' := hg
        unfold hasW at hg'; rw [decide_eq_true_eq] at hg'
        unfold getW setW; rw [if_pos hg]
        by_cases hf : hasW n f j = true
        · rw [if_pos hf, if_pos hf]
          unfold hasW at hf; rw [decide_eq_true_eq] at hf
          rw [List.getD_eq_getElem?_getD, List.getElem?_set, if_neg (by intro h; apply e; omega), ← List.getD_eq_getElem?_getD]
        · rw [if_neg hf, if_neg hf]
      unfold rdH
      rw [hgw]
      split
      · exact .inr ⟨_, _, rfl, rfl, MoreE.refl _⟩
      · exact .inl ⟨rfl, rfl⟩
  · have : setW n W g i (moreN (getW n W g i).toNat : Nat) = W := by unfold setW; rw [if_neg hg]
    rw [this]
    cases rdH n W f j with
    | none => exact .inl ⟨rfl, rfl⟩
    | some e => exact .inr ⟨_, _, rfl, rfl, MoreE.refl _⟩
end

end Go.Proofs.Ytfckedecpflldaa
