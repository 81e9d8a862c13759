/-
  Plain facts on models, for the law Memory: which words an operation changes.
-/
import Derived.Test.YtedginkenmafmaaGreatDoorModelS
import Derived.Laws.BitsAllLaws
namespace Go.Proofs.YtedginkenmafmaaGreatDoor
open Go.RowKit

/-- what a mark may set in the j-th entry's word -/
def bitJ (t : Bool) (len j : Nat) : Nat := if t && decide (j + 1 = len) then 96 else 32
theorem bitJ_cases (t : Bool) (len j : Nat) : bitJ t len j = 96 ∨ bitJ t len j = 32 := by unfold bitJ; split <;> simp
theorem usedN_bit (v : Nat) (t : Bool) (len k : Nat) : usedN v (t && decide (k + 1 = len)) = v ||| bitJ t len k := by
  unfold usedN bitJ
  split
  · rw [Nat.or_assoc]; rfl
  · rfl
theorem markTo_or {n : Nat} {W L : List Int} {ats : List (Int × Int)} (h : InH n L) (hd : L.Nodup) (hW : W.length = 8 * n) (hall : allAts n L ats = true) (t : Bool) : ∀ k, k ≤ ats.length → ∀ g i, hasG n L g i = true →
    getG n (markTo n L ats t W k) L g i = getG n W L g i ∨ ∃ j, j < k ∧ ats.getD j (0, 0) = (g, i) ∧ getG n (markTo n L ats t W k) L g i = (((getG n W L g i).toNat ||| bitJ t ats.length j : Nat) : Int)
  | 0, _, g, i, _ => .inl rfl
  | k + 1, hk, g, i, hg => by
    have ih := markTo_or h hd hW hall t k (by omega) g i hg
    have hkl : k < ats.length := by omega
    have hat := allAts_get hall hkl
    have hlen : (markTo n L ats t W k).length = 8 * n := (markTo_len n L ats t W k).trans hW
    rw [markTo, get_set h hd hlen hat hg]
    by_cases e : (ats.getD k (0, 0)).1 = g ∧ (ats.getD k (0, 0)).2 = i
    · have ep : ats.getD k (0, 0) = (g, i) := by rw [← e.1, ← e.2]
      rw [if_pos e, ep]
      refine .inr ⟨k, by omega, ep, ?_⟩
      rw [usedN_bit]
      rcases ih with ih | ⟨j, hj, _, ih⟩
      · rw [ih]
      · rw [ih, Int.toNat_natCast]
        have e32 : bitJ t ats.length j = 32 := by
          unfold bitJ; rw [show decide (j + 1 = ats.length) = false from decide_eq_false (by omega)]; simp
        rw [e32, Nat.or_assoc]
        rcases bitJ_cases t ats.length k with h | h <;> rw [h] <;> rfl
    · rw [if_neg e]
      rcases ih with ih | ⟨j, hj, hp, ih⟩
      · exact .inl ih
      · exact .inr ⟨j, by omega, hp, ih⟩

/-- is the word k one of the first z entries', changed by a mark alone? -/
def usedB (a b : Int) (t : Bool) (ats : List (Int × Int)) (k : Int) (z : Nat) : Bool :=
  (List.range z).any fun j => (k == 8 * (ats.getD j (0, 0)).1 + (ats.getD j (0, 0)).2) && (bits .andNot .u64 b (bitJ t ats.length j : Nat) == bits .andNot .u64 a (bitJ t ats.length j : Nat) && (bits .and .u64 b a == a))
theorem usedB_succ (a b : Int) (t : Bool) (ats : List (Int × Int)) (k : Int) (z : Nat) : usedB a b t ats k (z + 1) = (usedB a b t ats k z || ((k == 8 * (ats.getD z (0, 0)).1 + (ats.getD z (0, 0)).2) && (bits .andNot .u64 b (bitJ t ats.length z : Nat) == bits .andNot .u64 a (bitJ t ats.length z : Nat) && (bits .and .u64 b a == a)))) := by
  simp [usedB, List.range_succ]
theorem or_kept (v x : Nat) : (v ||| x) &&& v = v := by
  apply Nat.eq_of_testBit_eq; intro i
  rw [Nat.testBit_and, Nat.testBit_or]
  cases v.testBit i <;> simp
theorem usedB_of {v : Nat} {t : Bool} {ats : List (Int × Int)} {k : Nat} {j : Nat} (hv : v < 18446744073709551616) (hj : j < ats.length) (hp : ats.getD j (0, 0) = (((k / 8 : Nat) : Int), ((k % 8 : Nat) : Int))) :
    usedB (v : Int) ((v ||| bitJ t ats.length j : Nat) : Int) t ats k ats.length = true := by
  unfold usedB
  rw [List.any_eq_true]
  refine ⟨j, List.mem_range.2 hj, ?_⟩
  have hb : bitJ t ats.length j < 18446744073709551616 := by rcases bitJ_cases t ats.length j with h | h <;> rw [h] <;> decide
  have hvb : v ||| bitJ t ats.length j < 18446744073709551616 := Nat.or_lt_two_pow (n := 64) hv hb
  rw [hp, u64_andNot_nat _ _ hvb hb, u64_andNot_nat _ _ hv hb, u64_and_nat _ _ hvb hv, or_kept]
  have e : (v ||| bitJ t ats.length j) &&& (18446744073709551615 - bitJ t ats.length j) = v &&& (18446744073709551615 - bitJ t ats.length j) := by
    refine and_or_off ?_
    rcases bitJ_cases t ats.length j with h | h <;> rw [h] <;> decide
  rw [e]
  have e2 : (k : Int) = 8 * ((k / 8 : Nat) : Int) + ((k % 8 : Nat) : Int) := by omega
  simp only [beq_self_eq_true, Bool.and_true, beq_iff_eq]
  exact e2
theorem allG_at (W : List Int) {k : Nat} (hk : k < 128) : (allG W L16).getD k 0 = getG 16 W L16 ((k / 8 : Nat) : Int) ((k % 8 : Nat) : Int) := by
  have hk8 : k < 8 * L16.length := by rw [L16_len]; omega
  rw [allG_get W hk8, getG_nat L16_ok.inh (by rw [L16_len]; omega) (by omega), show 8 * (k / 8) + k % 8 = k by omega]
theorem has_at {k : Nat} (hk : k < 128) : hasG 16 L16 ((k / 8 : Nat) : Int) ((k % 8 : Nat) : Int) = true := by rw [hasG_16]; simp; omega
theorem mark_word {W : List Int} {ats : List (Int × Int)} {t : Bool} (hwd : WdW W) (hl : W.length = 8 * 16) (hall : allAts 16 L16 ats = true) {k : Nat} (hk : k < 128) :
    (allG (markP 16 L16 ats t W) L16).getD k 0 = (allG W L16).getD k 0 ∨ usedB ((allG W L16).getD k 0) ((allG (markP 16 L16 ats t W) L16).getD k 0) t ats k ats.length = true := by
  rw [allG_at W hk, allG_at _ hk]
  unfold markP; rw [hall, if_pos rfl]
  have hN := hwd.getN 16 L16 ((k / 8 : Nat) : Int) ((k % 8 : Nat) : Int)
  rcases markTo_or L16_ok.inh (by decide) hl hall t ats.length (Nat.le_refl _) _ _ (has_at hk) with h | ⟨j, hj, hp, h⟩
  · exact .inl h
  · right
    rw [h]
    have := usedB_of (t := t) (k := k) hN.2 hj hp
    rw [hN.1] at this
    exact this
theorem set_word {W : List Int} (hl : W.length = 8 * 16) {f : Int} {i : Nat} (hf : 0 ≤ f ∧ f < 16) (hi : i < 8) (v : Int) {k : Nat} (hk : k < 128) (hne : (k : Int) ≠ 8 * f + i) : (allG (setG 16 W L16 f i v) L16).getD k 0 = (allG W L16).getD k 0 := by
  have hh : hasG 16 L16 f i = true := by rw [hasG_16]; simp; omega
  rw [allG_at W hk, allG_at _ hk, get_set L16_ok.inh (by decide) hl hh (has_at hk), if_neg]
  rintro ⟨e1, e2⟩
  apply hne; omega

/-- is the word k the one that is stored? -/
def wordB (s : Ms) (kind : Int) (u : Bool) (a : Nat) (k : Int) : Bool :=
  (kind == 1) && (((walkP 16 s.W L16 s.r (pageN a) kind u).2.1 == 0 && (k == 8 * (walkP 16 s.W L16 s.r (pageN a) kind u).1.g + (wordN a : Int))) || (hasT s.T 0 (pageN a) && (k == 8 * (getT s.T 0 (pageN a)).f + (wordN a : Int))))
theorem mem_acc {s : Ms} (hok : OkM 16 L16 s) (kind : Int) (u : Bool) (a : Nat) (v : Int) {k : Nat} (hk : k < 128)
    (hne : (allG (accM 16 L16 s kind u a v).1.W L16).getD k 0 ≠ (allG s.W L16).getD k 0) :
    (accM 16 L16 s kind u a v).2.how = 0 ∧ (wordB s kind u a k = true ∨
      usedB ((allG s.W L16).getD k 0) ((allG (accM 16 L16 s kind u a v).1.W L16).getD k 0) (kind == 1) (walkP 16 s.W L16 s.r (pageN a) kind u).1.ats k (walkP 16 s.W L16 s.r (pageN a) kind u).1.ats.length = true) := by
  rcases acc_cases (n := 16) (L := L16) s kind u a v with ⟨_, hW, _, _⟩ | ⟨s2, h, h1, h2, ht, hs, he⟩
  · rw [hW] at hne; exact absurd rfl hne
  · have hok2 : OkM 16 L16 s2 := by have := hok.take (pageN a) kind u; rw [ht] at this; exact this
    have hf := hok2.hits h hs.mem.1
    rw [L16_len] at hf
    rw [he] at hne ⊢
    refine ⟨touch_how _ _ _ _ _, ?_⟩
    -- the words behind take
    have hmid : s2 = s ∧ hasT s.T 0 (pageN a) = true ∧ getT s.T 0 (pageN a) = h ∨ ∃ P, walkP 16 s.W L16 s.r (pageN a) kind u = (P, 0, 0) ∧ h.f = P.g ∧ s2.W = markP 16 L16 P.ats (kind == 1) s.W := by
      rcases take_cases (n := 16) (L := L16) s (pageN a) kind u with ⟨how, code, h0, hr, ht'⟩ | ⟨s2', h', ht', hs', _, hc⟩
      · rw [ht] at ht'; injection ht' with e1 e2; injection e2 with e2 e3; injection e3 with e3 _; exact absurd e3.symm h0
      · rw [ht] at ht'; injection ht' with e1 e2; injection e2 with e2 _
        subst e1; subst e2
        rcases hc with rfl | ⟨P, hr, rfl, rfl⟩
        · exact .inl ⟨rfl, hs.has, hs.get⟩
        · exact .inr ⟨P, hr, rfl, rfl⟩
    by_cases hkd : kind = 1
    · subst hkd
      have eW : (touchM 16 L16 s2 h.f (wordN a) 1 v).1.W = setG 16 s2.W L16 h.f (wordN a) v := rfl
      rw [eW] at hne ⊢
      by_cases hpos : (k : Int) = 8 * h.f + (wordN a : Int)
      · left
        unfold wordB
        rcases hmid with ⟨_, hu, hg⟩ | ⟨P, hr, hg, _⟩
        · rw [hu, hg, hpos]; simp
        · rw [hr, ← hg, hpos]; simp
      · rw [set_word hok2.len hf.2 (word_lt a) v hk hpos] at hne ⊢
        rcases hmid with ⟨rfl, _, _⟩ | ⟨P, hr, _, hW⟩
        · exact absurd rfl hne
        · right
          rw [hr, hW]
          rw [hW] at hne
          rcases mark_word hok.wd hok.len (path_has (done_of hr).2.1) hk with h | h
          · exact absurd h hne
          · exact h
    · have hkb : (kind == 1) = false := by simpa using hkd
      have eW : (touchM 16 L16 s2 h.f (wordN a) kind v).1.W = s2.W := by unfold touchM; rw [hkb]; rfl
      rw [eW] at hne ⊢
      rcases hmid with ⟨rfl, _, _⟩ | ⟨P, hr, _, hW⟩
      · exact absurd rfl hne
      · right
        rw [hr, hW]
        rw [hW] at hne
        rcases mark_word hok.wd hok.len (path_has (done_of hr).2.1) hk with h | h
        · exact absurd h hne
        · exact h
/-- which words an operation changes -/
theorem mem_do {s : Ms} (hok : OkM 16 L16 s) (o : OpM) {k : Nat} (hk : k < 128) (hne : (allG (doM 16 L16 s o).1.W L16).getD k 0 ≠ (allG s.W L16).getD k 0) :
    (doM 16 L16 s o).2.how = 0 ∧ o.what ≠ 5 ∧ o.what ≠ 6 ∧ o.what ≠ 7 ∧ (o.what = 4 → (k : Int) = 8 * o.g + o.i ∧ 0 ≤ o.g ∧ o.g < 16 ∧ 0 ≤ o.i ∧ o.i < 8) ∧
    (o.what ≠ 4 → wordB s o.kind o.user o.a k = true ∨ usedB ((allG s.W L16).getD k 0) ((allG (doM 16 L16 s o).1.W L16).getD k 0) (o.kind == 1) (walkP 16 s.W L16 s.r (pageN o.a) o.kind o.user).1.ats k (walkP 16 s.W L16 s.r (pageN o.a) o.kind o.user).1.ats.length = true) := by
  unfold doM at hne ⊢
  by_cases e4 : o.what = 4
  · rw [if_pos e4] at hne ⊢
    have eW : (editM 16 L16 s o.g o.i o.v).1.W = setG 16 s.W L16 o.g o.i o.v := rfl
    rw [eW] at hne
    by_cases hh : hasG 16 L16 o.g o.i = true
    · have hh' := hh
      rw [hasG_16, decide_eq_true_eq] at hh'
      refine ⟨by simp [editM, hh], by omega, by omega, by omega, fun _ => ⟨?_, hh'⟩, fun h => absurd e4 h⟩
      refine Classical.byContradiction fun hp => hne ?_
      obtain ⟨i', hi'⟩ := Int.eq_ofNat_of_zero_le hh'.2.2.1
      rw [hi'] at hp ⊢
      exact set_word hok.len ⟨hh'.1, hh'.2.1⟩ (by omega) _ hk hp
    · rw [setG_no L16_ok.inh (by simpa using hh)] at hne; exact absurd rfl hne
  rw [if_neg e4] at hne ⊢
  by_cases e5 : o.what = 5
  · rw [if_pos e5] at hne; exact absurd rfl hne
  rw [if_neg e5] at hne ⊢
  by_cases e6 : o.what = 6
  · rw [if_pos e6] at hne; exact absurd rfl hne
  rw [if_neg e6] at hne ⊢
  by_cases e7 : o.what = 7
  · rw [if_pos e7] at hne
    exact absurd (by unfold findM; split <;> rfl) hne
  rw [if_neg e7] at hne ⊢
  obtain ⟨h1, h2⟩ := mem_acc hok o.kind o.user o.a o.v hk hne
  exact ⟨h1, e5, e6, e7, fun h => absurd h e4, fun _ => h2⟩

end Go.Proofs.YtedginkenmafmaaGreatDoor
