/-
  The contracts of frame and its reference as the laws use them.
-/
import Derived.Test.YtdfmlodmaipnkaaGreatDoorRefB
namespace Go.Proofs.YtdfmlodmaipnkaaGreatDoor
open Go.RowKit

theorem MemAt.ne {p b n : Nat} {L : List Int} {w : World} (h : MemAt w p b n L) : p ≠ b := h.st.type_ne h.ws (by decide)

theorem New_at (n : Nat) (w : World) (h1 : 1 ≤ n) (h2 : n ≤ 256) :
    Calls Tryz.prog 18 #[.int .i64 n] w fun e w' => ∃ p b, e = .returned (.pointer (some ⟨p, 0, none⟩)) ∧ Chg [] w w' ∧ MemAt w' p b n (zeros (8 * n)) ∧ w.heap.size ≤ p ∧ w.heap.size ≤ b :=
  (New_yes n w h1 h2).mono fun _ _ ⟨he, hc, _, hm⟩ => ⟨_, _, he, hc, hm, by omega, Nat.le_refl _⟩
theorem RNew_at (n : Nat) (w : World) (h1 : 1 ≤ n) (h2 : n ≤ 256) :
    Calls Tryz.prog 23 #[.int .i64 n] w fun e w' => ∃ p b, e = .returned (.pointer (some ⟨p, 0, none⟩)) ∧ Chg [] w w' ∧ RMemAt w' p b n (zeros (8 * n)) ∧ w.heap.size ≤ p ∧ w.heap.size ≤ b :=
  (RNew_yes n w h1 h2).mono fun _ _ ⟨he, hc, _, hm⟩ => ⟨_, _, he, hc, hm, by omega, Nat.le_refl _⟩

/-- the words behind a Set -/
def setW (n : Nat) (L : List Int) (f i v : Int) : List Int := if hasW n f i then L.set (f.toNat * 8 + i.toNat) v else L
theorem setW_len (n : Nat) (L : List Int) (f i v : Int) : (setW n L f i v).length = L.length := by unfold setW; split <;> simp

theorem Set_at (p b n : Nat) (L : List Int) (f i v : Int) (w : World) (h : MemAt w p b n L) :
    Calls Tryz.prog 47 #[.pointer (some ⟨p, 0, none⟩), .int .i64 f, .int .i64 i, .int .u64 v] w fun e w' =>
      e = .returned (.bool (hasW n f i)) ∧ Chg [b] w w' ∧ MemAt w' p b n (setW n L f i v) := by
  by_cases hw : hasW n f i = true
  · have hw' := hw
    simp only [hasW, decide_eq_true_eq] at hw'
    obtain ⟨f, rfl⟩ := Int.eq_ofNat_of_zero_le hw'.1
    obtain ⟨i, rfl⟩ := Int.eq_ofNat_of_zero_le hw'.2.2.1
    refine (Set_yes p b n L f i v w h (by omega) (by omega)).mono fun _ _ ⟨he, hx⟩ => ?_
    subst he; subst hx
    exact ⟨by rw [hw], (Chg.refl _ _).setCell (by simp) _, by simp only [setW, hw, if_true, Int.toNat_natCast]; exact h.set _ _⟩
  · have hw' : hasW n f i = false := by simpa using hw
    refine (Set_no p b n L f i v w h hw').mono fun _ _ ⟨he, hx⟩ => ?_
    subst he; subst hx
    exact ⟨by rw [hw'], Chg.refl _ _, by simp only [setW, hw']; exact h⟩
theorem RSet_at (p b n : Nat) (L : List Int) (f i v : Int) (w : World) (h : RMemAt w p b n L) :
    Calls Tryz.prog 49 #[.pointer (some ⟨p, 0, none⟩), .int .i64 f, .int .i64 i, .int .u64 v] w fun e w' =>
      e = .returned (.bool (hasW n f i)) ∧ Chg [b] w w' ∧ RMemAt w' p b n (setW n L f i v) := by
  by_cases hw : hasW n f i = true
  · have hw' := hw
    simp only [hasW, decide_eq_true_eq] at hw'
    obtain ⟨f, rfl⟩ := Int.eq_ofNat_of_zero_le hw'.1
    obtain ⟨i, rfl⟩ := Int.eq_ofNat_of_zero_le hw'.2.2.1
    refine (RSet_yes p b n L f i v w h (by omega) (by omega)).mono fun _ _ ⟨he, hx⟩ => ?_
    subst he; subst hx
    exact ⟨by rw [hw], (Chg.refl _ _).setCell (by simp) _, by simp only [setW, hw, if_true, Int.toNat_natCast]; exact h.set _ _⟩
  · have hw' : hasW n f i = false := by simpa using hw
    refine (RSet_no p b n L f i v w h hw').mono fun _ _ ⟨he, hx⟩ => ?_
    subst he; subst hx
    exact ⟨by rw [hw'], Chg.refl _ _, by simp only [setW, hw']; exact h⟩

/-- the word that a Get answers -/
def getW (n : Nat) (L : List Int) (f i : Int) : Int := if hasW n f i then L.getD (f.toNat * 8 + i.toNat) 0 else 0
theorem Get_at (p b n : Nat) (L : List Int) (f i : Int) (w : World) (h : MemAt w p b n L) :
    Calls Tryz.prog 45 #[.pointer (some ⟨p, 0, none⟩), .int .i64 f, .int .i64 i] w fun e w' => e = .returned (.tuple #[.int .u64 (getW n L f i), .bool (hasW n f i)]) ∧ w = w' := by
  by_cases hw : hasW n f i = true
  · have hw' := hw
    simp only [hasW, decide_eq_true_eq] at hw'
    obtain ⟨f, rfl⟩ := Int.eq_ofNat_of_zero_le hw'.1
    obtain ⟨i, rfl⟩ := Int.eq_ofNat_of_zero_le hw'.2.2.1
    exact (Get_yes p b n L f i w h (by omega) (by omega)).mono fun _ _ ⟨he, hx⟩ => ⟨by rw [he, hw]; simp only [getW, hw, if_true, Int.toNat_natCast], hx⟩
  · have hw' : hasW n f i = false := by simpa using hw
    exact (Get_no p b n L f i w h hw').mono fun _ _ ⟨he, hx⟩ => ⟨by rw [he, hw']; simp [getW, hw'], hx⟩
theorem RGet_at (p b n : Nat) (L : List Int) (f i : Int) (w : World) (h : RMemAt w p b n L) :
    Calls Tryz.prog 58 #[.pointer (some ⟨p, 0, none⟩), .int .i64 f, .int .i64 i] w fun e w' => e = .returned (.tuple #[.int .u64 (getW n L f i), .bool (hasW n f i)]) ∧ w = w' := by
  by_cases hw : hasW n f i = true
  · have hw' := hw
    simp only [hasW, decide_eq_true_eq] at hw'
    obtain ⟨f, rfl⟩ := Int.eq_ofNat_of_zero_le hw'.1
    obtain ⟨i, rfl⟩ := Int.eq_ofNat_of_zero_le hw'.2.2.1
    exact (RGet_yes p b n L f i w h (by omega) (by omega)).mono fun _ _ ⟨he, hx⟩ => ⟨by rw [he, hw]; simp only [getW, hw, if_true, Int.toNat_natCast], hx⟩
  · have hw' : hasW n f i = false := by simpa using hw
    exact (RGet_no p b n L f i w h hw').mono fun _ _ ⟨he, hx⟩ => ⟨by rw [he, hw']; simp [getW, hw'], hx⟩

/-- the words that a Frame answers: none, if there is no such frame -/
def frameW (n : Nat) (L : List Int) (f : Int) : List Int := if hasF n f then frameOf L f.toNat else []
theorem frameW_le (n : Nat) (L : List Int) (f : Int) : (frameW n L f).length ≤ 8 := by unfold frameW; split <;> simp [frameOf]; omega

theorem Frame_at (p b n : Nat) (L : List Int) (f : Int) (w : World) (h : MemAt w p b n L) :
    Calls Tryz.prog 44 #[.pointer (some ⟨p, 0, none⟩), .int .i64 f] w fun e w' =>
      ∃ A c, e = .returned (.slice A (frameW n L f).length c) ∧ Chg [] w w' ∧ SlU w' A (frameW n L f).length (frameW n L f) ∧ (∀ g o, A = some ⟨g, o, none⟩ → w.heap.size ≤ g) ∧ (A = none → (frameW n L f).length = 0 ∧ c = 0) := by
  by_cases hw : hasF n f = true
  · have hw' := hw
    simp only [hasF, decide_eq_true_eq] at hw'
    obtain ⟨f, rfl⟩ := Int.eq_ofNat_of_zero_le hw'.1
    have hfw : frameW n L f = frameOf L f := by simp [frameW, hw]
    rw [hfw, frameOf_len h.len (by omega)]
    exact (Frame_yes p b n L f w h (by omega)).mono fun _ _ ⟨he, hc, _, hb⟩ => ⟨_, _, he, hc, SlU.of_blk hb (frameOf_len h.len (by omega)), fun g o e => by injection e with e; injection e with e; omega, by simp⟩
  · have hw' : hasF n f = false := by simpa using hw
    have hfw : frameW n L f = [] := by simp [frameW, hw']
    rw [hfw]
    exact (Frame_no p b n L f w h hw').mono fun _ _ ⟨he, hx⟩ => ⟨none, 0, he, hx ▸ Chg.refl _ _, SlU.nil _, by simp, by simp⟩
/-- does a Fill go through, and the words behind it -/
def fillB (n : Nat) (f : Int) (m : Nat) : Bool := hasF n f && decide (m = 8)
def fillW (n : Nat) (L : List Int) (f : Int) (xs : List Int) : List Int := if fillB n f xs.length then setAll L (f.toNat * 8) xs else L
theorem fillW_len (n : Nat) (L : List Int) (f : Int) (xs : List Int) : (fillW n L f xs).length = L.length := by unfold fillW; split <;> simp [setAll_len]

end Go.Proofs.YtdfmlodmaipnkaaGreatDoor
