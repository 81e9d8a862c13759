/-
  Bits of words: what is put is got, and what is got is put.
-/
import Derived.Test.YtgmdnglododhfaaPteC
namespace Go.Proofs.Ytgmdnglododhfaa
open Go.RowKit

theorem and_bit (v n : Nat) : (v &&& 2 ^ n != 0) = v.testBit n := by
  rw [nat_bit, Nat.testBit_eq_decide_div_mod_eq]
  have h := Nat.two_pow_pos n
  rw [Bool.eq_iff_iff]
  simp only [bne_iff_ne, ne_eq, decide_eq_true_eq, Nat.mul_eq_zero]
  omega
/-- a bit that no entry has -/
def isB (i : Nat) : Bool := decide (i = 3) || decide (i = 4) || decide (8 ≤ i) && decide (i ≤ 11) || decide (32 ≤ i) && decide (i ≤ 62)
theorem mask_bit (i : Nat) : (9223372032559812376 : Nat).testBit i = isB i := by
  by_cases h : i < 64
  · have : ∀ j : Fin 64, (9223372032559812376 : Nat).testBit j.1 = isB j.1 := by decide
    exact this ⟨i, h⟩
  · rw [Nat.testBit_lt_two_pow (Nat.lt_of_lt_of_le (by decide : (9223372032559812376 : Nat) < 2 ^ 64) (Nat.pow_le_pow_right (by decide) (by omega)))]
    simp [isB]; omega
theorem bad_iff (v : Nat) : (getE v).bad = true ↔ ∃ i, isB i = true ∧ v.testBit i = true := by
  show (v &&& 9223372032559812376 != 0) = true ↔ _
  rw [bne_iff_ne]
  constructor
  · intro h
    obtain ⟨i, hi⟩ := Nat.exists_testBit_of_ne_zero h
    rw [Nat.testBit_and, mask_bit, Bool.and_eq_true] at hi
    exact ⟨i, hi.2, hi.1⟩
  · rintro ⟨i, h1, h2⟩ h0
    have : (v &&& 9223372032559812376).testBit i = true := by rw [Nat.testBit_and, mask_bit, h1, h2]; rfl
    rw [h0] at this; simp at this
theorem bad_not (v : Nat) : (getE v).bad = false ↔ ∀ i, isB i = true → v.testBit i = false := by
  rw [← Bool.not_eq_true, bad_iff]
  constructor
  · intro h i hi
    cases hb : v.testBit i
    · rfl
    · exact absurd ⟨i, hi, hb⟩ h
  · rintro h ⟨i, h1, h2⟩
    rw [h i h1] at h2; cases h2
theorem get_p (v : Nat) : (getE v).p = v.testBit 0 := and_bit v 0
theorem get_w (v : Nat) : (getE v).w = v.testBit 1 := and_bit v 1
theorem get_u (v : Nat) : (getE v).u = v.testBit 2 := and_bit v 2
theorem get_a (v : Nat) : (getE v).a = v.testBit 5 := and_bit v 5
theorem get_d (v : Nat) : (getE v).d = v.testBit 6 := and_bit v 6
theorem get_s (v : Nat) : (getE v).s = v.testBit 7 := and_bit v 7
theorem get_n (v : Nat) : (getE v).n = v.testBit 63 := and_bit v 63
/-- a word's frame -/
def frameN (v : Nat) : Nat := v / 4096 % 1048576
theorem get_f (v : Nat) : (getE v).f = (frameN v : Int) := by simp [getE, frameN]
theorem frameN_lt (v : Nat) : frameN v < 1048576 := Nat.mod_lt _ (by decide)
theorem frameN_bit (v j : Nat) : (frameN v).testBit j = (decide (j < 20) && v.testBit (j + 12)) := by
  unfold frameN
  rw [show (1048576 : Nat) = 2 ^ 20 by decide, show (4096 : Nat) = 2 ^ 12 by decide, Nat.testBit_mod_two_pow, Nat.testBit_div_two_pow]
theorem get_ok (v : Nat) : (getE v).ok = !(getE v).bad := by
  have h := frameN_lt v
  simp only [Ent.ok, get_f]
  simp; omega

/-- two words are the same, where the entries that they say are, and neither is bad -/
theorem word_ext {v x : Nat} (hv : v < 18446744073709551616) (hx : x < 18446744073709551616) (h : ∀ i, i < 64 → v.testBit i = x.testBit i) : v = x := by
  apply Nat.eq_of_testBit_eq
  intro i
  by_cases hi : i < 64
  · exact h i hi
  · have e : 2 ^ 64 ≤ 2 ^ i := Nat.pow_le_pow_right (by decide) (by omega)
    rw [Nat.testBit_lt_two_pow (Nat.lt_of_lt_of_le hv e), Nat.testBit_lt_two_pow (Nat.lt_of_lt_of_le hx e)]
theorem bit_cases {i : Nat} (hi : i < 64) (hb : isB i = false) : i = 0 ∨ i = 1 ∨ i = 2 ∨ i = 5 ∨ i = 6 ∨ i = 7 ∨ i = 63 ∨ 12 ≤ i ∧ i < 32 := by
  simp [isB] at hb; omega
theorem get_inj {v x : Nat} (hv : v < 18446744073709551616) (hx : x < 18446744073709551616) (h : getE v = getE x) (hb : (getE v).bad = false) : v = x := by
  refine word_ext hv hx fun i hi => ?_
  cases hi2 : isB i
  · rcases bit_cases hi hi2 with rfl | rfl | rfl | rfl | rfl | rfl | rfl | ⟨h1, h2⟩
    · rw [← get_p, ← get_p, h]
    · rw [← get_w, ← get_w, h]
    · rw [← get_u, ← get_u, h]
    · rw [← get_a, ← get_a, h]
    · rw [← get_d, ← get_d, h]
    · rw [← get_s, ← get_s, h]
    · rw [← get_n, ← get_n, h]
    · have e := congrArg Ent.f h
      rw [get_f, get_f] at e
      have e2 := congrArg (fun n => n.testBit (i - 12)) (Int.ofNat.inj e)
      simp only [frameN_bit] at e2
      rwa [decide_eq_true (show i - 12 < 20 by omega), Bool.true_and, Bool.true_and, show i - 12 + 12 = i by omega] at e2
  · rw [(bad_not v).1 hb i hi2, (bad_not x).1 (h ▸ hb) i hi2]

theorem if_bit (t : Bool) (n i : Nat) : (if t then 2 ^ n else 0 : Nat).testBit i = (t && decide (n = i)) := by
  cases t
  · simp
  · simp [Nat.testBit_two_pow]
/-- the bits of a word that is put -/
theorem put_bit (e : Ent) (i : Nat) : (putK e 7).testBit i = (decide (12 ≤ i) && e.f.toNat.testBit (i - 12) || e.p && decide (0 = i) || e.w && decide (1 = i) || e.u && decide (2 = i) || e.a && decide (5 = i) || e.d && decide (6 = i) || e.s && decide (7 = i) || e.n && decide (63 = i)) := by
  have h : putK e 7 = e.f.toNat * 2 ^ 12 ||| (if e.p then 2 ^ 0 else 0) ||| (if e.w then 2 ^ 1 else 0) ||| (if e.u then 2 ^ 2 else 0) ||| (if e.a then 2 ^ 5 else 0) ||| (if e.d then 2 ^ 6 else 0) ||| (if e.s then 2 ^ 7 else 0) ||| (if e.n then 2 ^ 63 else 0) := rfl
  rw [h]
  simp only [Nat.testBit_or, if_bit, Nat.testBit_mul_two_pow]
theorem Ent.ext_ {a b : Ent} (h1 : a.p = b.p) (h2 : a.w = b.w) (h3 : a.u = b.u) (h4 : a.a = b.a) (h5 : a.d = b.d) (h6 : a.s = b.s) (h7 : a.n = b.n) (h8 : a.bad = b.bad) (h9 : a.f = b.f) : a = b := by
  cases a; cases b; simp_all
theorem ok_parts {e : Ent} (h : e.ok = true) : e.bad = false ∧ 0 ≤ e.f ∧ e.f < 1048576 := by simpa [Ent.ok, and_assoc] using h
/-- what is put is got -/
theorem get_put (e : Ent) (h : e.ok = true) : getE (putK e 7) = e := by
  obtain ⟨h1, h2, h3⟩ := ok_parts h
  refine Ent.ext_ ?_ ?_ ?_ ?_ ?_ ?_ ?_ ?_ ?_
  · rw [get_p, put_bit]; simp
  · rw [get_w, put_bit]; simp
  · rw [get_u, put_bit]; simp
  · rw [get_a, put_bit]; simp
  · rw [get_d, put_bit]; simp
  · rw [get_s, put_bit]; simp
  · rw [get_n, put_bit]
    rw [Nat.testBit_lt_two_pow (i := 63 - 12) (Nat.lt_of_lt_of_le (show e.f.toNat < 2 ^ 20 by omega) (Nat.pow_le_pow_right (by decide) (by omega)))]
    simp
  · rw [h1, bad_not]
    intro i hi
    rw [put_bit]
    have hf : (decide (12 ≤ i) && e.f.toNat.testBit (i - 12)) = false := by
      simp [isB] at hi
      by_cases h32 : 32 ≤ i
      · rw [Nat.testBit_lt_two_pow (Nat.lt_of_lt_of_le (show e.f.toNat < 2 ^ 20 by omega) (Nat.pow_le_pow_right (by decide) (by omega)))]
        simp
      · rw [decide_eq_false (by omega)]; rfl
    rw [hf]
    simp [isB] at hi
    simp; omega
  · rw [get_f]
    have : frameN (putK e 7) = e.f.toNat := by
      apply Nat.eq_of_testBit_eq
      intro j
      rw [frameN_bit, put_bit]
      by_cases hj : j < 20
      · rw [decide_eq_true hj, decide_eq_true (show 12 ≤ j + 12 by omega), Nat.add_sub_cancel]
        simp
        omega
      · rw [decide_eq_false hj, Nat.testBit_lt_two_pow (i := j) (Nat.lt_of_lt_of_le (show e.f.toNat < 2 ^ 20 by omega) (Nat.pow_le_pow_right (by decide) (by omega)))]
        rfl
    rw [this]; omega
/-- a word that is not bad is put as it was -/
theorem put_get (v : Nat) (hv : v < 18446744073709551616) (h : (getE v).bad = false) : putK (getE v) 7 = v := by
  have hok : (getE v).ok = true := by rw [get_ok, h]; rfl
  have e := get_put _ hok
  exact get_inj (putK_lt _ _ (ok_parts hok).2.2) hv e (by rw [e]; exact h)
theorem put_inj {a b : Ent} (ha : a.ok = true) (hb : b.ok = true) (h : putK a 7 = putK b 7) : a = b := by rw [← get_put a ha, h, get_put b hb]

end Go.Proofs.Ytgmdnglododhfaa
