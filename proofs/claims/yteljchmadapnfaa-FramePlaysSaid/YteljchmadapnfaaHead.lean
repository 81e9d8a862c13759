/-
  The contracts as the laws use them; the live question 'head'.
-/
import Derived.Test.YteljchmadapnfaaRefB
namespace Go.Proofs.Yteljchmadapnfaa
open Go.RowKit

theorem MemAt.ne {p b n : Nat} {L : List Int} {w : World} (h : MemAt w p b n L) : p ≠ b := h.st.type_ne h.ws (by decide)

theorem New_at (n : Nat) (w : World) (h1 : 1 ≤ n) (h2 : n ≤ 256) :
    Calls Try.prog 11 #[.int .i64 n] w fun e w' => ∃ p b, e = .returned (.pointer (some ⟨p, 0, none⟩)) ∧ Chg [] w w' ∧ MemAt w' p b n (zeros (8 * n)) ∧ w.heap.size ≤ p ∧ w.heap.size ≤ b :=
  (New_yes n w h1 h2).mono fun _ _ ⟨he, hc, _, hm⟩ => ⟨_, _, he, hc, hm, by omega, Nat.le_refl _⟩
theorem RNew_at (n : Nat) (w : World) (h1 : 1 ≤ n) (h2 : n ≤ 256) :
    Calls Try.prog 12 #[.int .i64 n] w fun e w' => ∃ p b, e = .returned (.pointer (some ⟨p, 0, none⟩)) ∧ Chg [] w w' ∧ RMemAt w' p b n (zeros (8 * n)) ∧ w.heap.size ≤ p ∧ w.heap.size ≤ b :=
  (RNew_yes n w h1 h2).mono fun _ _ ⟨he, hc, _, hm⟩ => ⟨_, _, he, hc, hm, by omega, Nat.le_refl _⟩

/-- the words behind a Set -/
def setW (n : Nat) (L : List Int) (f i v : Int) : List Int := if hasW n f i then L.set (f.toNat * 8 + i.toNat) v else L
theorem setW_len (n : Nat) (L : List Int) (f i v : Int) : (setW n L f i v).length = L.length := by unfold setW; split <;> simp

theorem Set_at (p b n : Nat) (L : List Int) (f i v : Int) (w : World) (h : MemAt w p b n L) :
    Calls Try.prog 17 #[.pointer (some ⟨p, 0, none⟩), .int .i64 f, .int .i64 i, .int .u64 v] w fun e w' =>
      e = .returned (.bool (hasW n f i)) ∧ Chg [b] w w' ∧ MemAt w' p b n (setW n L f i v) := by
  by_cases hw : hasW n f i = true
  · have hw' := hw
    simp only [hasW, decide_eq_true_eq] at hw'
    obtain ⟨f, rfl⟩ := Int.eq_ofNat_of_zero_le hw'.1
    obtain ⟨i, rfl⟩ := Int.eq_ofNat_of_zero_le hw'.2.2.1
    refine (Set_yes p b n L f i v w h (by omega) (by omega)).mono fun _ _ ⟨he, hx⟩ => ?_
    subst he; subst hx
    exact ⟨by rw [hw], (Chg.refl _ _).setCell (by simp) _, by simp only [setW, hw, if_true, Int.toNat_natCast]; exact h.set _ _⟩
  · have hw' : hasW n f i = false := by simpa using hw
    refine (Set_no p b n L f i v w h hw').mono fun _ _ ⟨he, hx⟩ => ?_
    subst he; subst hx
    exact ⟨by rw [hw'], Chg.refl _ _, by simp only [setW, hw']; exact h⟩
theorem RSet_at (p b n : Nat) (L : List Int) (f i v : Int) (w : World) (h : RMemAt w p b n L) :
    Calls Try.prog 18 #[.pointer (some ⟨p, 0, none⟩), .int .i64 f, .int .i64 i, .int .u64 v] w fun e w' =>
      e = .returned (.bool (hasW n f i)) ∧ Chg [b] w w' ∧ RMemAt w' p b n (setW n L f i v) := by
  by_cases hw : hasW n f i = true
  · have hw' := hw
    simp only [hasW, decide_eq_true_eq] at hw'
    obtain ⟨f, rfl⟩ := Int.eq_ofNat_of_zero_le hw'.1
    obtain ⟨i, rfl⟩ := Int.eq_ofNat_of_zero_le hw'.2.2.1
    refine (RSet_yes p b n L f i v w h (by omega) (by omega)).mono fun _ _ ⟨he, hx⟩ => ?_
    subst he; subst hx
    exact ⟨by rw [hw], (Chg.refl _ _).setCell (by simp) _, by simp only [setW, hw, if_true, Int.toNat_natCast]; exact h.set _ _⟩
  · have hw' : hasW n f i = false := by simpa using hw
    refine (RSet_no p b n L f i v w h hw').mono fun _ _ ⟨he, hx⟩ => ?_
    subst he; subst hx
    exact ⟨by rw [hw'], Chg.refl _ _, by simp only [setW, hw']; exact h⟩

/-- the word that a Get answers -/
def getW (n : Nat) (L : List Int) (f i : Int) : Int := if hasW n f i then L.getD (f.toNat * 8 + i.toNat) 0 else 0
theorem Get_at (p b n : Nat) (L : List Int) (f i : Int) (w : World) (h : MemAt w p b n L) :
    Calls Try.prog 15 #[.pointer (some ⟨p, 0, none⟩), .int .i64 f, .int .i64 i] w fun e w' => e = .returned (.tuple #[.int .u64 (getW n L f i), .bool (hasW n f i)]) ∧ w = w' := by
  by_cases hw : hasW n f i = true
  · have hw' := hw
    simp only [hasW, decide_eq_true_eq] at hw'
    obtain ⟨f, rfl⟩ := Int.eq_ofNat_of_zero_le hw'.1
    obtain ⟨i, rfl⟩ := Int.eq_ofNat_of_zero_le hw'.2.2.1
    exact (Get_yes p b n L f i w h (by omega) (by omega)).mono fun _ _ ⟨he, hx⟩ => ⟨by rw [he, hw]; simp only [getW, hw, if_true, Int.toNat_natCast], hx⟩
  · have hw' : hasW n f i = false := by simpa using hw
    exact (Get_no p b n L f i w h hw').mono fun _ _ ⟨he, hx⟩ => ⟨by rw [he, hw']; simp [getW, hw'], hx⟩
theorem RGet_at (p b n : Nat) (L : List Int) (f i : Int) (w : World) (h : RMemAt w p b n L) :
    Calls Try.prog 16 #[.pointer (some ⟨p, 0, none⟩), .int .i64 f, .int .i64 i] w fun e w' => e = .returned (.tuple #[.int .u64 (getW n L f i), .bool (hasW n f i)]) ∧ w = w' := by
  by_cases hw : hasW n f i = true
  · have hw' := hw
    simp only [hasW, decide_eq_true_eq] at hw'
    obtain ⟨f, rfl⟩ := Int.eq_ofNat_of_zero_le hw'.1
    obtain ⟨i, rfl⟩ := Int.eq_ofNat_of_zero_le hw'.2.2.1
    exact (RGet_yes p b n L f i w h (by omega) (by omega)).mono fun _ _ ⟨he, hx⟩ => ⟨by rw [he, hw]; simp only [getW, hw, if_true, Int.toNat_natCast], hx⟩
  · have hw' : hasW n f i = false := by simpa using hw
    exact (RGet_no p b n L f i w h hw').mono fun _ _ ⟨he, hx⟩ => ⟨by rw [he, hw']; simp [getW, hw'], hx⟩

/-- the words that a Frame answers: none, if there is no such frame -/
def frameW (n : Nat) (L : List Int) (f : Int) : List Int := if hasF n f then frameOf L f.toNat else []
theorem frameW_le (n : Nat) (L : List Int) (f : Int) : (frameW n L f).length ≤ 8 := by unfold frameW; split <;> simp [frameOf]; omega

theorem Frame_at (p b n : Nat) (L : List Int) (f : Int) (w : World) (h : MemAt w p b n L) :
    Calls Try.prog 20 #[.pointer (some ⟨p, 0, none⟩), .int .i64 f] w fun e w' =>
      ∃ A c, e = .returned (.slice A (frameW n L f).length c) ∧ Chg [] w w' ∧ SlU w' A (frameW n L f).length (frameW n L f) ∧ (∀ g o, A = some ⟨g, o, none⟩ → w.heap.size ≤ g) ∧ (A = none → (frameW n L f).length = 0 ∧ c = 0) := by
  by_cases hw : hasF n f = true
  · have hw' := hw
    simp only [hasF, decide_eq_true_eq] at hw'
    obtain ⟨f, rfl⟩ := Int.eq_ofNat_of_zero_le hw'.1
    have hfw : frameW n L f = frameOf L f := by simp [frameW, hw]
    rw [hfw, frameOf_len h.len (by omega)]
    exact (Frame_yes p b n L f w h (by omega)).mono fun _ _ ⟨he, hc, _, hb⟩ => ⟨_, _, he, hc, SlU.of_blk hb (frameOf_len h.len (by omega)), fun g o e => by injection e with e; injection e with e; omega, by simp⟩
  · have hw' : hasF n f = false := by simpa using hw
    have hfw : frameW n L f = [] := by simp [frameW, hw']
    rw [hfw]
    exact (Frame_no p b n L f w h hw').mono fun _ _ ⟨he, hx⟩ => ⟨none, 0, he, hx ▸ Chg.refl _ _, SlU.nil _, by simp, by simp⟩
theorem RFrame_at (p b n : Nat) (L : List Int) (f : Int) (w : World) (h : RMemAt w p b n L) :
    Calls Try.prog 21 #[.pointer (some ⟨p, 0, none⟩), .int .i64 f] w fun e w' =>
      ∃ A c, e = .returned (.slice A (frameW n L f).length c) ∧ Chg [] w w' ∧ SlU w' A (frameW n L f).length (frameW n L f) ∧ (∀ g o, A = some ⟨g, o, none⟩ → w.heap.size ≤ g) ∧ (A = none → (frameW n L f).length = 0 ∧ c = 0) := by
  by_cases hw : hasF n f = true
  · have hw' := hw
    simp only [hasF, decide_eq_true_eq] at hw'
    obtain ⟨f, rfl⟩ := Int.eq_ofNat_of_zero_le hw'.1
    have hfw : frameW n L f = frameOf L f := by simp [frameW, hw]
    rw [hfw, frameOf_len h.len (by omega)]
    exact (RFrame_yes p b n L f w h (by omega)).mono fun _ _ ⟨g, c, he, hc, hg, hb⟩ => ⟨_, _, he, hc, hb, fun g' o e => by injection e with e; injection e with e; omega, by simp⟩
  · have hw' : hasF n f = false := by simpa using hw
    have hfw : frameW n L f = [] := by simp [frameW, hw']
    rw [hfw]
    exact (RFrame_no p b n L f w h hw').mono fun _ _ ⟨he, hx⟩ => ⟨none, 0, he, hx ▸ Chg.refl _ _, SlU.nil _, by simp, by simp⟩

/-- does a Fill go through, and the words behind it -/
def fillB (n : Nat) (f : Int) (m : Nat) : Bool := hasF n f && decide (m = 8)
def fillW (n : Nat) (L : List Int) (f : Int) (xs : List Int) : List Int := if fillB n f xs.length then setAll L (f.toNat * 8) xs else L
theorem fillW_len (n : Nat) (L : List Int) (f : Int) (xs : List Int) : (fillW n L f xs).length = L.length := by unfold fillW; split <;> simp [setAll_len]

theorem Fill_at (p b n : Nat) (L : List Int) (f : Int) (A : Option Addr) (m c : Nat) (xs : List Int) (w : World) (h : MemAt w p b n L) (hs : SlU w A m xs) (hm : m ≤ 9223372036854775807) :
    Calls Try.prog 13 #[.pointer (some ⟨p, 0, none⟩), .int .i64 f, .slice A m c] w fun e w' => e = .returned (.bool (fillB n f m)) ∧ Chg [b] w w' ∧ MemAt w' p b n (fillW n L f xs) := by
  have hl := hs.len
  by_cases hw : hasF n f = true ∧ m = 8
  · obtain ⟨hw, rfl⟩ := hw
    have hw' := hw
    simp only [hasF, decide_eq_true_eq] at hw'
    obtain ⟨f, rfl⟩ := Int.eq_ofNat_of_zero_le hw'.1
    exact (Fill_yes p b n L f A c xs w h (by omega) hs).mono fun _ _ ⟨he, hc, _, hb⟩ => ⟨by rw [he]; simp [fillB, hw], hc, by simp only [fillW, fillB, hw, hl]; simpa using hb⟩
  · have hw' : hasF n f = false ∨ m ≠ 8 := by
      by_cases h8 : m = 8
      · left; by_cases h9 : hasF n f = true; exact absurd ⟨h9, h8⟩ hw; simpa using h9
      · exact .inr h8
    have hb : fillB n f m = false := by simp only [fillB, Bool.and_eq_false_iff, decide_eq_false_iff_not]; exact hw'
    exact (Fill_no p b n L f A m c w h hm hw').mono fun _ _ ⟨he, hx⟩ => ⟨by rw [he, hb], hx ▸ Chg.refl _ _, by simp only [fillW, hl, hb]; exact hx ▸ h⟩
theorem RFill_at (p b n : Nat) (L : List Int) (f : Int) (A : Option Addr) (m c : Nat) (xs : List Int) (w : World) (h : RMemAt w p b n L) (hs : SlU w A m xs) (hm : m ≤ 9223372036854775807) (hap : 0 < m → ∀ g o, A = some ⟨g, o, none⟩ → g ≠ b) :
    Calls Try.prog 14 #[.pointer (some ⟨p, 0, none⟩), .int .i64 f, .slice A m c] w fun e w' => e = .returned (.bool (fillB n f m)) ∧ Chg [b] w w' ∧ RMemAt w' p b n (fillW n L f xs) := by
  have hl := hs.len
  by_cases hw : hasF n f = true ∧ m = 8
  · obtain ⟨hw, rfl⟩ := hw
    have hw' := hw
    simp only [hasF, decide_eq_true_eq] at hw'
    obtain ⟨f, rfl⟩ := Int.eq_ofNat_of_zero_le hw'.1
    exact (RFill_yes p b n L f A c xs w h (by omega) hs (hap (by omega))).mono fun _ _ ⟨he, hc, _, hb⟩ => ⟨by rw [he]; simp [fillB, hw], hc, by simp only [fillW, fillB, hw, hl]; simpa using hb⟩
  · have hw' : hasF n f = false ∨ m ≠ 8 := by
      by_cases h8 : m = 8
      · left; by_cases h9 : hasF n f = true; exact absurd ⟨h9, h8⟩ hw; simpa using h9
      · exact .inr h8
    have hb : fillB n f m = false := by simp only [fillB, Bool.and_eq_false_iff, decide_eq_false_iff_not]; exact hw'
    exact (RFill_no p b n L f A m c w h hm hw').mono fun _ _ ⟨he, hx⟩ => ⟨by rw [he, hb], hx ▸ Chg.refl _ _, by simp only [fillW, hl, hb]; exact hx ▸ h⟩

/-- the words of the live question -/
def hL : List Int := setW 3 (setW 3 (setW 3 (zeros (8 * 3)) 1 7 5) 1 8 5) 3 0 5
def hO : List Int := fillW 3 (zeros (8 * 3)) 1 (frameW 3 hL 1)
theorem h_get : getW 3 hL 1 7 = 5 := by decide
theorem h_apart : eqL hL (zeros (8 * 3)) = false := by decide
theorem h_same : eqL hL hO = true := by decide
theorem h_len : (frameW 3 hL 1).length = 8 := by decide
theorem h_len3 : (frameW 3 hL 3).length = 0 := by decide

set_option maxRecDepth 100000 in
set_option maxHeartbeats 2000000 in
theorem head_any (w : World) : Calls Try.prog 9 #[] w fun e w' => e = .returned (.bool true) ∧ Chg [] w w' := by
  have x1 : hasW 3 1 7 = true := by decide
  have x2 : hasW 3 1 8 = false := by decide
  have x3 : hasW 3 3 0 = false := by decide
  have x4 : hasW 3 (-1) 0 = false := by decide
  have x5 : fillB 3 1 8 = true := by decide
  have x6 : fillB 3 1 0 = false := by decide
  have y1 := h_get
  have y2 := h_apart
  have y3 := h_same
  go_enter Try.func9, Try.ntmps9
  go_wp2_with fail
  refine (New_at 3 _ (by omega) (by omega)).mono ?_; rintro e w1 ⟨p1, b1, rfl, hc1, hm1, hp1, hb1⟩
  go_wp2_with fail
  refine (New_at 3 _ (by omega) (by omega)).mono ?_; rintro e w2 ⟨p2, b2, rfl, hc2, ho2, hp2, hb2⟩
  have hc := hc1.trans hc2 (by simp)
  have hn1 : p1 < w1.heap.size ∧ b1 < w1.heap.size := ⟨hm1.st.lt, hm1.ws.lt⟩
  have hm2 := hm1.chg hc2 (by simp) (by simp)
  clear hm1 hc1 hc2
  go_wp2_with fail
  refine (New_no 0 _ (by omega)).mono ?_; rintro e w' ⟨rfl, rfl⟩
  go_wp2_with fail
  refine (New_no 257 _ (by omega)).mono ?_; rintro e w' ⟨rfl, rfl⟩
  go_wp2_with fail
  refine (Set_at p1 b1 3 _ 1 7 5 _ hm2).mono ?_; rintro e w3 ⟨rfl, hc3, hm3⟩
  go_wp2_with fail
  refine (Set_at p1 b1 3 _ 1 8 5 _ hm3).mono ?_; rintro e w4 ⟨rfl, hc4, hm4⟩
  go_wp2_with fail
  refine (Set_at p1 b1 3 _ 3 0 5 _ hm4).mono ?_; rintro e w5 ⟨rfl, hc5, hm5⟩
  change MemAt w5 p1 b1 3 hL at hm5
  have hc25 := (hc3.trans hc4 (by simp)).trans hc5 (by simp)
  have ho5 := ho2.chg hc25 (by simp; omega) (by simp; omega)
  have hc05 := hc.trans hc25 (T := [b1]) (by intro i hi hm; simp at hm; omega)
  clear hm2 hm3 hm4 hc3 hc4 hc5 ho2 hc hc25
  go_wp2_with fail
  refine (Get_at p1 b1 3 _ 1 7 _ hm5).mono ?_; rintro e w' ⟨rfl, rfl⟩
  go_wp2_with fail
  refine (Get_at p1 b1 3 _ (-1) 0 _ hm5).mono ?_; rintro e w' ⟨rfl, rfl⟩
  go_wp2_with fail
  refine (Same_any p1 b1 3 _ p2 b2 3 _ _ hm5 ho5).mono ?_; rintro e w' ⟨rfl, q, rfl⟩
  go_wp2_with fail
  refine (Frame_at p1 b1 3 _ 1 _ (hm5.chg ((Chg.refl [] _).drewN q) (by simp) (by simp))).mono ?_; rintro e w6 ⟨A, c, rfl, hc6, hs6, hA6, _⟩
  have hc56 : Chg [] w5 w6 := ((Chg.refl [] w5).drewN q).trans hc6 (by simp)
  rw [h_len] at hs6 ⊢
  go_wp2_with fail
  refine (Fill_at p2 b2 3 _ 1 A 8 c _ _ (ho5.chg hc56 (by simp) (by simp)) hs6 (by omega)).mono ?_; rintro e w7 ⟨rfl, hc7, ho7⟩
  change MemAt w7 p2 b2 3 hO at ho7
  have hc57 : Chg [b2] w5 w7 := (hc56.weak (T := [b2]) (by simp)).trans hc7 (by simp)
  have hm7 := hm5.chg hc57 (by simp; omega) (by simp; omega)
  have hc07 := hc05.trans hc57 (by intro i hi hm; simp at hm; omega)
  clear hc56 hc6 hc7 hs6 hm5 ho5 hc05 hc57
  go_wp2_with fail
  refine (Same_any p1 b1 3 _ p2 b2 3 _ _ hm7 ho7).mono ?_; rintro e w' ⟨rfl, q2, rfl⟩
  go_wp2_with fail
  refine (Fill_at p2 b2 3 _ 1 none 0 0 _ _ (ho7.chg ((Chg.refl [] _).drewN q2) (by simp) (by simp)) (SlU.nil _) (by omega)).mono ?_; rintro e w8 ⟨rfl, hc8, ho8⟩
  have hm8 := hm7.chg (((Chg.refl [b2] w7).drewN q2).trans hc8 (by simp)) (by simp; omega) (by simp; omega)
  have hc08 := (hc07.drewN q2).trans hc8 (by intro i hi hm; simp at hm; omega)
  go_wp2_with fail
  refine (Frame_at p1 b1 3 _ 3 _ hm8).mono ?_; rintro e w9 ⟨A9, c9, rfl, hc9, hs9, hA9, _⟩
  rw [h_len3]
  have hm9 := hm8.chg hc9 (by simp) (by simp)
  have hc09 := hc08.trans hc9 (by simp)
  clear hm7 hm8 hc8 hc9 hs9 ho7 ho8 hc07 hc08
  go_wp2_with fail
  refine (Frames_any p1 b1 3 _ _ hm9).mono ?_; rintro e w' ⟨rfl, rfl⟩
  go_wp2_with fail
  go_ret
  exact ⟨rfl, hc09⟩

end Go.Proofs.Yteljchmadapnfaa
