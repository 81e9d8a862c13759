/-
  Plain facts on walks, for the laws: bits of words that are marked, or that tell another frame; memories that are alike where a walk reads.
-/
import Derived.Test.YtdfmlodmaipnkaaGreatDoorWalkQ
import Derived.Test.YtdfmlodmaipnkaaGreatDoorRightR
namespace Go.Proofs.YtdfmlodmaipnkaaGreatDoor
open Go.RowKit

theorem and_or_off {v x m : Nat} (h : x &&& m = 0) : (v ||| x) &&& m = v &&& m := by rw [Nat.and_or_distrib_right, h, Nat.or_zero]
theorem getE_or {v x : Nat} (h1 : x &&& 1 = 0) (h2 : x &&& 2 = 0) (h4 : x &&& 4 = 0) (h7 : x &&& 128 = 0) (hn : x &&& 9223372036854775808 = 0) (hb : x &&& 9223372032559812376 = 0) (hf : x &&& 4294963200 = 0) :
    getE (v ||| x) = { getE v with a := (v ||| x) &&& 32 != 0, d := (v ||| x) &&& 64 != 0 } := by
  have e := frame_and (v ||| x)
  rw [and_or_off hf, frame_and v] at e
  simp only [getE, and_or_off h1, and_or_off h2, and_or_off h4, and_or_off h7, and_or_off hn, and_or_off hb]
  congr 1
  omega
/-- a word's marks -/
def isMk (x : Nat) : Prop := x = 0 ∨ x = 32 ∨ x = 64 ∨ x = 96
theorem isMk.or {x y : Nat} (h : isMk x) (k : isMk y) : isMk (x ||| y) := by
  rcases h with rfl | rfl | rfl | rfl <;> rcases k with rfl | rfl | rfl | rfl <;> simp [isMk]
theorem getE_mk {v x : Nat} (h : isMk x) : getE (v ||| x) = { getE v with a := (v ||| x) &&& 32 != 0, d := (v ||| x) &&& 64 != 0 } := by
  rcases h with rfl | rfl | rfl | rfl
  · simp [getE]
  · exact getE_or (by decide) (by decide) (by decide) (by decide) (by decide) (by decide) (by decide)
  · exact getE_or (by decide) (by decide) (by decide) (by decide) (by decide) (by decide) (by decide)
  · exact getE_or (by decide) (by decide) (by decide) (by decide) (by decide) (by decide) (by decide)
/-- two words that say the same, but for their marks -/
def Mk (v v' : Nat) : Prop := ∃ x, isMk x ∧ v' = v ||| x
theorem Mk.refl (v : Nat) : Mk v v := ⟨0, .inl rfl, by simp⟩
theorem Mk.trans {a b c : Nat} (h : Mk a b) (k : Mk b c) : Mk a c := by
  obtain ⟨x, hx, rfl⟩ := h; obtain ⟨y, hy, rfl⟩ := k
  exact ⟨x ||| y, hx.or hy, Nat.or_assoc _ _ _⟩
theorem Mk.used (v : Nat) (t : Bool) : Mk v (usedN v t) := by
  cases t
  · exact ⟨32, .inr (.inl rfl), rfl⟩
  · exact ⟨96, .inr (.inr (.inr rfl)), by unfold usedN; rw [if_pos rfl, Nat.or_assoc]; rfl⟩
theorem Mk.e {v v' : Nat} (h : Mk v v') : (getE v').p = (getE v).p ∧ (getE v').w = (getE v).w ∧ (getE v').u = (getE v).u ∧ (getE v').s = (getE v).s ∧ (getE v').n = (getE v).n ∧ (getE v').bad = (getE v).bad ∧ (getE v').f = (getE v).f := by
  obtain ⟨x, hx, rfl⟩ := h
  rw [getE_mk hx]; exact ⟨rfl, rfl, rfl, rfl, rfl, rfl, rfl⟩
theorem Mk.of_ {v v' : Nat} (h : Mk v v') : ofE (getE v') = ofE (getE v) := by
  obtain ⟨_, h2, h3, _, h5, _⟩ := h.e
  simp [ofE, h2, h3, h5]
theorem used_a (v : Nat) (t : Bool) : (getE (usedN v t)).a = true := by
  have : ∀ y : Nat, (y ||| 32) &&& 32 = 32 := fun y => by
    apply Nat.eq_of_testBit_eq; intro i
    rw [Nat.testBit_and, Nat.testBit_or]
    cases (32 : Nat).testBit i <;> simp
  simp [getE, usedN, this]
theorem mk_a {v v' : Nat} (h : Mk v v') (ha : (getE v).a = true) : (getE v').a = true := by
  obtain ⟨x, hx, rfl⟩ := h
  have e : ∀ y m : Nat, (v ||| y) &&& m = (v &&& m) ||| (y &&& m) := fun y m => Nat.and_or_distrib_right ..
  simp only [getE, bne_iff_ne, ne_eq] at ha ⊢
  rw [e]
  intro h0
  exact ha (Nat.or_eq_zero_iff.1 h0).1
theorem used_d (v : Nat) (t : Bool) : (getE (usedN v t)).d = ((getE v).d || t) := by
  have e : ∀ y x m : Nat, (y ||| x) &&& m = (y &&& m) ||| (x &&& m) := fun y x m => Nat.and_or_distrib_right ..
  cases t
  · simp [getE, usedN, e]
  · have : (v &&& 64 ||| 64) ≠ 0 := fun h => by have := (Nat.or_eq_zero_iff.1 h).2; omega
    simp [getE, usedN, e]

/-- a word with another frame -/
def moveN (v f : Nat) : Nat := (v &&& (18446744073709551615 - 4294963200)) ||| f * 4096
theorem move_and {v f : Nat} (b : Nat) (h : (18446744073709551615 - 4294963200) &&& b = b) (hf : f * 4096 &&& b = 0) : moveN v f &&& b = v &&& b := by
  unfold moveN
  rw [and_or_off hf, Nat.and_assoc, h]
theorem getE_move {v f : Nat} (hf : f < 16) : getE (moveN v f) = { getE v with f := f } := by
  have z : ∀ b : Nat, (∀ f : Fin 16, f.val * 4096 &&& b = 0) → f * 4096 &&& b = 0 := fun b h => h ⟨f, hf⟩
  have e : moveN v f &&& 4294963200 = f * 4096 := by
    unfold moveN
    rw [Nat.and_or_distrib_right, Nat.and_assoc, show (18446744073709551615 - 4294963200) &&& 4294963200 = 0 by decide, Nat.and_zero, Nat.zero_or]
    have : ∀ f : Fin 16, f.val * 4096 &&& 4294963200 = f.val * 4096 := by decide
    exact this ⟨f, hf⟩
  rw [frame_and] at e
  simp only [getE, move_and 1 (by decide) (z 1 (by decide)), move_and 2 (by decide) (z 2 (by decide)), move_and 4 (by decide) (z 4 (by decide)), move_and 32 (by decide) (z 32 (by decide)), move_and 64 (by decide) (z 64 (by decide)), move_and 128 (by decide) (z 128 (by decide)),
    move_and 9223372036854775808 (by decide) (z _ (by decide)), move_and 9223372032559812376 (by decide) (z _ (by decide))]
  congr 1
  omega
theorem move_lt {v f : Nat} (hf : f < 16) : moveN v f < 18446744073709551616 :=
  Nat.or_lt_two_pow (n := 64) (Nat.lt_of_le_of_lt Nat.and_le_right (by decide)) (by omega)

/-- what a walk reads -/
def readsP (rd : Int → Int → Option Nat) (page : Int) : Nat → Int → List (Int × Int)
  | 0, _ => []
  | lv + 1, g => match rd g (idxI page (lv + 1 : Nat)) with
    | none => []
    | some v => (g, idxI page (lv + 1 : Nat)) :: if !(getE v).p || (getE v).s || (getE v).bad then [] else readsP rd page lv (getE v).f
theorem seq_reads {rd rd' : Int → Int → Option Nat} (page : Int) (hn : ∀ g i, rd g i = none → rd' g i = none) : ∀ (lv : Nat) (g : Int), (∀ a ∈ readsP rd page lv g, rd' a.1 a.2 = rd a.1 a.2) → seqW rd' page lv g = seqW rd page lv g
  | 0, _, _ => rfl
  | lv + 1, g, h => by
    have e : rd' g (idxI page (lv + 1 : Nat)) = rd g (idxI page (lv + 1 : Nat)) := by
      cases hr : rd g (idxI page (lv + 1 : Nat)) with
      | none => exact hn _ _ hr
      | some v =>
        have := h (g, idxI page (lv + 1 : Nat)) (by rw [readsP, hr]; exact List.mem_cons_self ..)
        rw [this, hr]
    have es : stepW rd' page g (lv + 1 : Nat) = stepW rd page g (lv + 1 : Nat) := by unfold stepW; rw [e]
    rw [seqW, seqW, es]
    by_cases hl : ((stepW rd page g (lv + 1 : Nat)).err.isSome || (stepW rd page g (lv + 1 : Nat)).last) = true
    · rw [if_pos hl, if_pos hl]
    · rw [if_neg hl, if_neg hl]
      congr 1
      refine seq_reads page hn lv _ fun a ha => ?_
      rcases step_cases rd page g (lv + 1 : Nat) with ⟨e3, _⟩ | ⟨v3, _, _, e3⟩ | ⟨v3, _, _, _, e3⟩ | ⟨v3, r3, p3, b3, e3⟩
      · rw [e3] at hl; simp [It.bad] at hl
      · rw [e3] at hl; simp [It.bad] at hl
      · rw [e3] at hl; simp [It.bad] at hl
      · rw [e3] at hl ha
        simp only [It.last, Option.isSome_none, Bool.false_or, Bool.not_eq_true, Bool.or_eq_false_iff] at hl
        have hbad : (getE v3).bad = false := by
          unfold badE at b3; rw [Bool.or_eq_false_iff] at b3; exact b3.1
        refine h a ?_
        rw [readsP, r3]
        simp only [p3, hl.2, hbad, Bool.not_true, Bool.or_self, Bool.false_eq_true, if_false]
        exact List.mem_cons_of_mem _ ha
theorem path_reads {rd rd' : Int → Int → Option Nat} {page root : Int} (hn : ∀ g i, rd g i = none → rd' g i = none) (h : ∀ a ∈ readsP rd page 3 root, rd' a.1 a.2 = rd a.1 a.2) : pathP rd' page root = pathP rd page root := by
  unfold pathP; rw [seq_reads page hn 3 root h]

section
variable {n : Nat} {W L : List Int}
theorem get_set (h : InH n L) (hd : L.Nodup) (hW : W.length = 8 * n) {g i g' i' : Int} (h1 : hasG n L g i = true) (h2 : hasG n L g' i' = true) (v : Int) : getG n (setG n W L g i v) L g' i' = if g = g' ∧ i = i' then v else getG n W L g' i' := by
  rw [hasG_nat h, decide_eq_true_eq] at h1 h2
  obtain ⟨k, rfl⟩ := Int.eq_ofNat_of_zero_le h1.1
  obtain ⟨i, rfl⟩ := Int.eq_ofNat_of_zero_le h1.2.2.1
  obtain ⟨k', rfl⟩ := Int.eq_ofNat_of_zero_le h2.1
  obtain ⟨i', rfl⟩ := Int.eq_ofNat_of_zero_le h2.2.2.1
  rw [setG_nat h (by omega) (by omega), getG_nat h (by omega) (by omega), getG_nat h (by omega) (by omega)]
  by_cases e : k = k' ∧ i = i'
  · obtain ⟨rfl, rfl⟩ := e
    rw [if_pos ⟨rfl, rfl⟩]
    have hp := posG_lt h (show 8 * k + i < 8 * L.length by omega)
    simp [List.getD_eq_getElem?_getD, hW, hp]
  · rw [if_neg (by omega)]
    refine getD_set_ne W (fun e' => e ?_) v
    have := posG_inj h hd (show 8 * k + i < 8 * L.length by omega) (show 8 * k' + i' < 8 * L.length by omega) e'
    omega
theorem rd_set (h : InH n L) (hd : L.Nodup) (hW : W.length = 8 * n) {g i g' i' : Int} (h1 : hasG n L g i = true) {v : Int} : rdG n (setG n W L g i v) L g' i' = if g = g' ∧ i = i' then some v.toNat else rdG n W L g' i' := by
  unfold rdG
  by_cases h2 : hasG n L g' i' = true
  · rw [if_pos h2, if_pos h2, get_set h hd hW h1 h2]
    split <;> rfl
  · rw [if_neg h2, if_neg h2, if_neg]
    rintro ⟨rfl, rfl⟩; exact h2 h1
theorem rd_none {g i : Int} (h : rdG n W L g i = none) (W' : List Int) : rdG n W' L g i = none := by
  unfold rdG at h ⊢
  split at h
  · cases h
  · rename_i hh; rw [if_neg hh]
theorem markTo_len (n : Nat) (L : List Int) (ats : List (Int × Int)) (t : Bool) (W : List Int) : ∀ k, (markTo n L ats t W k).length = W.length
  | 0 => rfl
  | k + 1 => by rw [markTo, setG_len, markTo_len n L ats t W k]
end

end Go.Proofs.YtdfmlodmaipnkaaGreatDoor
