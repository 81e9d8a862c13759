/-
  The contract of the document's SameWords; a list of calls in memory.
-/
import Derived.Test.YtdfmlodmaipnkaaGreatDoorFrameC
import Derived.Deep.QuietTactic
namespace Go.Proofs.YtdfmlodmaipnkaaGreatDoor
open Go.RowKit

theorem SlU.get {w : World} {A : Option Addr} {n : Nat} {xs : List Int} (h : SlU w A n xs) {k : Nat} (hk : k < n) :
    ∃ b off, A = some ⟨b, off, none⟩ ∧ b < w.heap.size ∧ w.cell? ⟨b, off + k, none⟩ = some (.int .u64 (xs.getD k 0)) := by
  obtain ⟨b, off, e, hb, hr⟩ := h.at_ (by omega)
  have hl := h.len
  refine ⟨b, off, e, hb, ?_⟩
  rw [hr k (xs.getD k 0)]
  simp only [List.getD_eq_getElem?_getD]
  rw [List.getElem?_eq_getElem (by omega)]; rfl

theorem take_step {xs ys : List Int} {k : Nat} (h : xs.take k = ys.take k) (e : xs.getD k 0 = ys.getD k 0) (hx : k < xs.length) (hy : k < ys.length) : xs.take (k + 1) = ys.take (k + 1) := by
  rw [List.take_succ_eq_append_getElem hx, List.take_succ_eq_append_getElem hy, h]
  simp only [List.getD_eq_getElem?_getD, List.getElem?_eq_getElem hx, List.getElem?_eq_getElem hy, Option.getD_some] at e
  rw [e]

set_option maxHeartbeats 1000000 in
theorem SameWords_any (A B : Option Addr) (n m c d : Nat) (xs ys : List Int) (w : World) (ha : SlU w A n xs) (hb : SlU w B m ys) (hn : n ≤ 9223372036854775807) (hm : m ≤ 9223372036854775807) :
    Calls Tryz.prog 14 #[.slice A n c, .slice B m d] w fun e w' => e = .returned (.bool (eqL xs ys)) ∧ ∃ q, w' = w.drewN q := by
  have HA := Lib.hid ha.len
  have HB := Lib.hid hb.len
  by_cases hne : n = m
  · subst hne
    have hb1 : ((n : Int) != n) = false := by simp
    go_enter Tryz.func14, Tryz.ntmps14
    go_wp2
    go_loopw [5] (fun i w' => ∃ k q : Nat, k ≤ n ∧ i = .int .i64 k ∧ w' = w.drewN q ∧ xs.take k = ys.take k) (fun i _ => n - (intOf i).toNat)
    case atStart => exact ⟨0, 0, by omega, rfl, rfl, rfl⟩
    case round =>
      obtain ⟨k, q, hk, rfl, rfl, hall⟩ := hrel
      have HT := Lib.hid hall
      clear hall
      by_cases hlt : k < n
      · obtain ⟨b1, o1, rfl, _, r1⟩ := ha.get hlt
        obtain ⟨b2, o2, rfl, _, r2⟩ := hb.get hlt
        have hstep : xs.getD k 0 = ys.getD k 0 → xs.take (k + 1) = ys.take (k + 1) := fun e => take_step HT.out e (by have := HA.out; omega) (by have := HB.out; omega)
        have hno : xs.getD k 0 ≠ ys.getD k 0 → eqL xs ys = false := fun e => by
          simp only [eqL, decide_eq_false_iff_not]; intro e'; exact e (by rw [e'])
        have HS := Lib.hid hstep
        have HN := Lib.hid hno
        clear hstep hno
        generalize xs.getD k 0 = x at *
        generalize ys.getD k 0 = y at *
        by_cases hxy : x = y
        · have hb2 : (x != y) = false := by simp [hxy]
          have HXY := Lib.hid hxy
          clear hxy
          go_wp2
          go_quiet (fail)
          go_wp2
          go_roundw
          case rel => exact ⟨k + 1, _, by omega, by go_num, rfl, HS.out HXY.out⟩
          case measure => simp [intOf]; omega
        · have hb2 : (x != y) = true := by simp [hxy]
          have HXY := Lib.hid hxy
          clear hxy
          go_wp2
          go_quiet (fail)
          go_wp2
          go_ret
          exact ⟨ret_bool (HN.out HXY.out).symm, q + nq, by rw [World.drewN_drewN]⟩
      · obtain rfl : k = n := by omega
        go_wp2
        go_ret
        refine ⟨ret_bool ?_, q, rfl⟩
        have h1 := HT.out
        rw [List.take_of_length_le (by rw [HA.out]; exact Nat.le_refl _), List.take_of_length_le (by rw [HB.out]; exact Nat.le_refl _)] at h1
        simp [eqL, h1]
  · have hb1 : ((n : Int) != m) = true := by simp; omega
    have hno : eqL xs ys = false := by simp only [eqL, decide_eq_false_iff_not]; intro e; subst e; have := HA.out; have := HB.out; omega
    clear hne
    have HN := Lib.hid hno
    clear hno
    go_enter Tryz.func14, Tryz.ntmps14
    go_wp2
    go_ret
    exact ⟨ret_bool HN.out.symm, 0, rfl⟩

/-- one call of a list of calls, as it lies in memory -/
structure OpAt (w : World) (b o : Nat) (what f i v : Int) (LA : Option Addr) (LN LC : Nat) (xs : List Int) : Prop where
  c0 : w.cell? ⟨b, o, none⟩ = some (.int .i64 what)
  c1 : w.cell? ⟨b, o + 1, none⟩ = some (.int .i64 f)
  c2 : w.cell? ⟨b, o + 2, none⟩ = some (.int .i64 i)
  c3 : w.cell? ⟨b, o + 3, none⟩ = some (.int .u64 v)
  c4 : w.cell? ⟨b, o + 4, none⟩ = some (.slice LA LN LC)
  ls : SlU w LA LN xs
  ln : LN ≤ 9223372036854775807
  lc : LN ≤ LC
  wf : -9223372036854775808 ≤ f ∧ f ≤ 9223372036854775807
  wi : -9223372036854775808 ≤ i ∧ i ≤ 9223372036854775807

/-- a list of calls, as it lies in memory -/
structure SlOp (w : World) (A : Option Addr) (n : Nat) : Prop where
  le : n ≤ 9223372036854775807
  at_ : 0 < n → ∃ b off, A = some ⟨b, off, none⟩ ∧ b < w.heap.size ∧ ∀ j, j < n → ∃ what f i v LA LN LC xs, OpAt w b (off + j * 5) what f i v LA LN LC xs

theorem OpAt.chg {w w' : World} {b o : Nat} {what f i v : Int} {LA : Option Addr} {LN LC : Nat} {xs : List Int} (h : OpAt w b o what f i v LA LN LC xs) (hc : Chg [] w w') (hb : b < w.heap.size) : OpAt w' b o what f i v LA LN LC xs :=
  ⟨(hc.cell hb (by simp)).trans h.c0, (hc.cell hb (by simp)).trans h.c1, (hc.cell hb (by simp)).trans h.c2, (hc.cell hb (by simp)).trans h.c3, (hc.cell hb (by simp)).trans h.c4,
   h.ls.chg hc (by simp), h.ln, h.lc, h.wf, h.wi⟩
theorem SlOp.chg {w w' : World} {A : Option Addr} {n : Nat} (h : SlOp w A n) (hc : Chg [] w w') : SlOp w' A n :=
  ⟨h.le, fun h0 => by
    obtain ⟨b, off, e, hb, hr⟩ := h.at_ h0
    refine ⟨b, off, e, Nat.lt_of_lt_of_le hb hc.size, fun j hj => ?_⟩
    obtain ⟨what, f, i, v, LA, LN, LC, xs, ho⟩ := hr j hj
    exact ⟨what, f, i, v, LA, LN, LC, xs, ho.chg hc hb⟩⟩
theorem SlOp.get {w : World} {A : Option Addr} {n : Nat} (h : SlOp w A n) {k : Nat} (hk : k < n) :
    ∃ b off, A = some ⟨b, off, none⟩ ∧ ∃ what f i v LA LN LC xs, OpAt w b (off + k * 5) what f i v LA LN LC xs := by
  obtain ⟨b, off, e, _, hr⟩ := h.at_ (by omega)
  exact ⟨b, off, e, hr k hk⟩

end Go.Proofs.YtdfmlodmaipnkaaGreatDoor
