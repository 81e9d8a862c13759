/-
 RefW in one text.
-/
import Derived.Test.YtmbgepafpcbakaaGreatDoorG4K
import Derived.Test.YtmbgepafpcbakaaGreatDoorG0K
import Derived.Laws.StructEq
import Derived.BigQuiet
import Derived.Laws.Shifts
namespace Go.Proofs.YtmbgepafpcbakaaGreatDoor
open Go.RowKit
def putK (e : Ent) : Nat → Nat
 | 0 => e.f.toNat * 4096
 | k + 1 => putK e k ||| (if e.flag k then fb k else 0)
theorem putK_lt (e : Ent) (k : Nat) (h : e.f < 1048576) : putK e k < 18446744073709551616 := by
 induction k with
 | zero => simp only [putK]; omega
 | succ k ih =>
  refine Nat.or_lt_two_pow (n := 64) ih ?_
  have := fb_lt k
  split <;> omega
def Ent.ok (e : Ent) : Bool := !e.bad && decide (0 ≤ e.f) && decide (e.f < 1048576)
theorem flag_cell (e : Ent) (k : Nat) (hk : k < 7) : e.cs[k]? = some (.bool (e.flag k)) := by
 obtain rfl | rfl | rfl | rfl | rfl | rfl | rfl : k = 0 ∨ k = 1 ∨ k = 2 ∨ k = 3 ∨ k = 4 ∨ k = 5 ∨ k = 6 := by omega
 all_goals rfl
theorem bits_as (g q i b : Nat) (t : Bool) (y : Int) (w : World) (hy : ((if t then b else 0 : Nat) : Int) = y) (hg : Blk w g 282 #[.int .u64 b, .pointer (some ⟨q, i, none⟩)]) (hq : w.cell? ⟨q, i, none⟩ = some (.bool t)) :
  Calls Tryz.prog 233 #[.pointer (some ⟨g, 0, none⟩)] w fun e w' => e = .returned (.int .u64 y) ∧ w = w' := by
 rw [← hy]; exact bits_any g q i b t w hg hq
set_option maxRecDepth 100000 in
set_option maxHeartbeats 2000000 in
theorem Put_no (e : Ent) (w : World) (h : e.ok = false) :
  Calls Tryz.prog 228 #[.agg e.cs] w fun x w' => x = .returned (.tuple #[.int .u64 0, .bool false]) ∧ Chg [] w w' := by
 obtain ⟨ep, ew, eu, ea, ed, es, en, eb, F⟩ := e
 unfold Ent.cs
 simp only [Ent.ok] at h
 cases eb
 ·simp at h
  by_cases h0 : F < 0
  ·clear h
   go_enter Tryz.func228, Tryz.ntmps228
   go_wp2_with fail
   go_ret2
   exact ⟨rfl, (Chg.refl [] w).alloc _⟩
  have h1 : F ≥ 1048576 := h (by omega)
  clear h
  go_enter Tryz.func228, Tryz.ntmps228
  go_wp2_with fail
  go_ret2
  exact ⟨rfl, (Chg.refl [] w).alloc _⟩
 go_enter Tryz.func228, Tryz.ntmps228
 go_wp2_with fail
 go_ret2
 exact ⟨rfl, (Chg.refl [] w).alloc _⟩
set_option maxRecDepth 100000 in
set_option maxHeartbeats 2000000 in
theorem Put_yes (e : Ent) (w : World) (h : e.ok = true) :
  Calls Tryz.prog 228 #[.agg e.cs] w fun x w' => x = .returned (.tuple #[.int .u64 (putK e 7 : Nat), .bool true]) ∧ Chg [] w w' := by
 obtain ⟨h1, h2, h3⟩ : e.bad = false ∧ 0 ≤ e.f ∧ e.f < 1048576 := by simpa [Ent.ok, and_assoc] using h
 have HC := Lib.hid (fun k hk => flag_cell e k hk)
 have HP := Lib.hid (fun k => putK_lt e k h3)
 have HS : Hid (∀ k, putK e (k + 1) = putK e k ||| (if e.flag k then fb k else 0)) := Lib.hid fun _ => rfl
 have hz : ((putK e 0 : Nat) : Int) = e.f * 4096 := by simp only [putK]; omega
 have hcs : e.cs = #[.bool e.p, .bool e.w, .bool e.u, .bool e.a, .bool e.d, .bool e.s, .bool e.n, .bool false, .int .i64 e.f] := by rw [← h1]; rfl
 have HCS := Lib.hid hcs
 have HZ := Lib.hid hz
 rw [hcs]
 clear hcs h1 h hz
 generalize e.p = ep at *
 generalize e.w = ew at *
 generalize e.u = eu at *
 generalize e.a = ea at *
 generalize e.d = ed at *
 generalize e.s = es at *
 generalize e.n = en at *
 generalize e.f = F at *
 have h3' : ¬ F < 0 := by omega
 have h3'' : ¬ F ≥ 1048576 := by omega
 go_enter Tryz.func228, Tryz.ntmps228
 go_wp2_with fail
 refine (flags_any _ _).mono ?_; rintro x w1 ⟨rfl, hc1, _⟩
 have hE := (Blk.new (w.alloc (Obj.cells #[.bool ep, .bool ew, .bool eu, .bool ea, .bool ed, .bool es, .bool en, .bool false, .int .i64 F] 172)) 279 #[.bool ep, .bool ew, .bool eu, .bool ea, .bool ed, .bool es, .bool en, .bool false, .int .i64 F]).chg_ hc1 (by simp)
 have hc0 := (((Chg.refl [] w).alloc _).alloc _).trans hc1 (by simp)
 rw [← HCS.out] at hE
 simp only [World.size_alloc] at hE
 clear hc1
 generalize hg : w.heap.size + 1 = g at *
 go_wp2_with fail
 go_loopw [4, 26] (fun r i w' => ∃ k : Nat, k ≤ 7 ∧ r = .int .u64 (putK e k : Nat) ∧ i = .int .i64 k ∧ Chg [] w w' ∧ Blk w' g 279 e.cs) (fun _ i _ => 7 - (intOf i).toNat)
 case atStart => exact ⟨0, by omega, by rw [HZ.out], rfl, hc0, hE⟩
 obtain ⟨k, hk, rfl, rfl, hck, hEk⟩ := hrel
 clear hc0 hE
 by_cases hlt : k < 7
 ·have hix := fun w => flagsV_at g k hlt w
  have hb : (if e.flag k then fb k else 0) < 18446744073709551616 := by have := fb_lt k; split <;> omega
  have hn : bits .or .u64 (putK e k : Nat) (if e.flag k then fb k else 0 : Nat) = (putK e (k + 1) : Nat) := by rw [HS.out]; exact u64_or_nat _ _ (HP.out k) hb
  have ht := HC.out k hlt
  rw [← hEk.cell] at ht
  generalize e.flag k = t at *
  generalize hy : ((if t then fb k else 0 : Nat) : Int) = y at hn
  have HY := Lib.hid hy
  clear hb hy
  go_wp2_with fail
  refine (bits_as wr.heap.size g k (fb k) t y _ HY.out (Blk.new _ _ _) ((World.cell?_alloc_old wr _ _ (Nat.ne_of_lt hEk.lt)).trans ht)).mono ?_; rintro x w2 ⟨rfl, rfl⟩
  go_wp2_with fail
  go_roundw
  case rel => exact ⟨k + 1, by omega, rfl, by go_num, hck.alloc _, hEk.alloc _⟩
  case measure => simp [intOf]; omega
 obtain rfl : k = 7 := by omega
 go_wp2_with fail
 go_ret2
 exact ⟨rfl, hck⟩
theorem and_bit (v n : Nat) : (v &&& 2 ^ n != 0) = v.testBit n := by
 rw [nat_bit, Nat.testBit_eq_decide_div_mod_eq]
 have h := Nat.two_pow_pos n
 rw [Bool.eq_iff_iff]
 simp only [bne_iff_ne, ne_eq, decide_eq_true_eq, Nat.mul_eq_zero]
 omega
def isB (i : Nat) : Bool := decide (i = 3) || decide (i = 4) || decide (8 ≤ i) && decide (i ≤ 11) || decide (32 ≤ i) && decide (i ≤ 62)
theorem mask_bit (i : Nat) : (9223372032559812376 : Nat).testBit i = isB i := by
 by_cases h : i < 64
 ·have : ∀ j : Fin 64, (9223372032559812376 : Nat).testBit j.1 = isB j.1 := by decide
  exact this ⟨i, h⟩
 rw [Nat.testBit_lt_two_pow (Nat.lt_of_lt_of_le (by decide : (9223372032559812376 : Nat) < 2 ^ 64) (Nat.pow_le_pow_right (by decide) (by omega)))]
 simp [isB]; omega
theorem bad_iff (v : Nat) : (getE v).bad = true ↔ ∃ i, isB i = true ∧ v.testBit i = true := by
 show (v &&& 9223372032559812376 != 0) = true ↔ _
 rw [bne_iff_ne]
 constructor
 ·intro h
  obtain ⟨i, hi⟩ := Nat.exists_testBit_of_ne_zero h
  rw [Nat.testBit_and, mask_bit, Bool.and_eq_true] at hi
  exact ⟨i, hi.2, hi.1⟩
 rintro ⟨i, h1, h2⟩ h0
 have : (v &&& 9223372032559812376).testBit i = true := by rw [Nat.testBit_and, mask_bit, h1, h2]; rfl
 rw [h0] at this; simp at this
theorem bad_not (v : Nat) : (getE v).bad = false ↔ ∀ i, isB i = true → v.testBit i = false := by
 rw [← Bool.not_eq_true, bad_iff]
 constructor
 ·intro h i hi
  cases hb : v.testBit i
  ·rfl
  exact absurd ⟨i, hi, hb⟩ h
 rintro h ⟨i, h1, h2⟩
 rw [h i h1] at h2; cases h2
theorem get_p (v : Nat) : (getE v).p = v.testBit 0 := and_bit v 0
theorem get_w (v : Nat) : (getE v).w = v.testBit 1 := and_bit v 1
theorem get_u (v : Nat) : (getE v).u = v.testBit 2 := and_bit v 2
theorem get_a (v : Nat) : (getE v).a = v.testBit 5 := and_bit v 5
theorem get_d (v : Nat) : (getE v).d = v.testBit 6 := and_bit v 6
theorem get_s (v : Nat) : (getE v).s = v.testBit 7 := and_bit v 7
theorem get_n (v : Nat) : (getE v).n = v.testBit 63 := and_bit v 63
def frameN (v : Nat) : Nat := v / 4096 % 1048576
theorem get_f (v : Nat) : (getE v).f = (frameN v : Int) := by simp [getE, frameN]
theorem frameN_bit (v j : Nat) : (frameN v).testBit j = (decide (j < 20) && v.testBit (j + 12)) := by
 unfold frameN
 rw [show (1048576 : Nat) = 2 ^ 20 by decide, show (4096 : Nat) = 2 ^ 12 by decide, Nat.testBit_mod_two_pow, Nat.testBit_div_two_pow]
theorem if_bit (t : Bool) (n i : Nat) : (if t then 2 ^ n else 0 : Nat).testBit i = (t && decide (n = i)) := by
 cases t
 ·simp
 simp [Nat.testBit_two_pow]
theorem put_bit (e : Ent) (i : Nat) : (putK e 7).testBit i = (decide (12 ≤ i) && e.f.toNat.testBit (i - 12) || e.p && decide (0 = i) || e.w && decide (1 = i) || e.u && decide (2 = i) || e.a && decide (5 = i) || e.d && decide (6 = i) || e.s && decide (7 = i) || e.n && decide (63 = i)) := by
 have h : putK e 7 = e.f.toNat * 2 ^ 12 ||| (if e.p then 2 ^ 0 else 0) ||| (if e.w then 2 ^ 1 else 0) ||| (if e.u then 2 ^ 2 else 0) ||| (if e.a then 2 ^ 5 else 0) ||| (if e.d then 2 ^ 6 else 0) ||| (if e.s then 2 ^ 7 else 0) ||| (if e.n then 2 ^ 63 else 0) := rfl
 rw [h]
 simp only [Nat.testBit_or, if_bit, Nat.testBit_mul_two_pow]
theorem Ent.ext_ {a b : Ent} (h1 : a.p = b.p) (h2 : a.w = b.w) (h3 : a.u = b.u) (h4 : a.a = b.a) (h5 : a.d = b.d) (h6 : a.s = b.s) (h7 : a.n = b.n) (h8 : a.bad = b.bad) (h9 : a.f = b.f) : a = b := by
 cases a; cases b; simp_all
theorem ok_parts {e : Ent} (h : e.ok = true) : e.bad = false ∧ 0 ≤ e.f ∧ e.f < 1048576 := by simpa [Ent.ok, and_assoc] using h
theorem get_put (e : Ent) (h : e.ok = true) : getE (putK e 7) = e := by
 obtain ⟨h1, h2, h3⟩ := ok_parts h
 refine Ent.ext_ ?_ ?_ ?_ ?_ ?_ ?_ ?_ ?_ ?_
 ·rw [get_p, put_bit]; simp
 ·rw [get_w, put_bit]; simp
 ·rw [get_u, put_bit]; simp
 ·rw [get_a, put_bit]; simp
 ·rw [get_d, put_bit]; simp
 ·rw [get_s, put_bit]; simp
 ·rw [get_n, put_bit]
  rw [Nat.testBit_lt_two_pow (i := 63 - 12) (Nat.lt_of_lt_of_le (show e.f.toNat < 2 ^ 20 by omega) (Nat.pow_le_pow_right (by decide) (by omega)))]
  simp
 ·rw [h1, bad_not]
  intro i hi
  rw [put_bit]
  have hf : (decide (12 ≤ i) && e.f.toNat.testBit (i - 12)) = false := by
   simp [isB] at hi
   by_cases h32 : 32 ≤ i
   ·rw [Nat.testBit_lt_two_pow (Nat.lt_of_lt_of_le (show e.f.toNat < 2 ^ 20 by omega) (Nat.pow_le_pow_right (by decide) (by omega)))]
    simp
   rw [decide_eq_false (by omega)]; rfl
  rw [hf]
  simp [isB] at hi
  simp; omega
 rw [get_f]
 have : frameN (putK e 7) = e.f.toNat := by
  apply Nat.eq_of_testBit_eq
  intro j
  rw [frameN_bit, put_bit]
  by_cases hj : j < 20
  ·rw [decide_eq_true hj, decide_eq_true (show 12 ≤ j + 12 by omega), Nat.add_sub_cancel]
   simp
   omega
  rw [decide_eq_false hj, Nat.testBit_lt_two_pow (i := j) (Nat.lt_of_lt_of_le (show e.f.toNat < 2 ^ 20 by omega) (Nat.pow_le_pow_right (by decide) (by omega)))]
  rfl
 rw [this]; omega
def putV (e : Ent) : Nat := if e.ok then putK e 7 else 0
theorem putV_ok {e : Ent} (h : e.ok = true) : putV e = putK e 7 := by simp [putV, h]
theorem putV_no {e : Ent} (h : e.ok = false) : putV e = 0 := by simp [putV, h]
theorem putV_lt (e : Ent) : putV e < 18446744073709551616 := by
 cases h : e.ok
 ·rw [putV_no h]; decide
 rw [putV_ok h]; exact putK_lt e 7 (ok_parts h).2.2
theorem Put_at (e : Ent) (w : World) : Calls Tryz.prog 228 #[.agg e.cs] w fun x w' => x = .returned (.tuple #[.int .u64 (putV e : Nat), .bool e.ok]) ∧ Chg [] w w' := by
 cases h : e.ok
 ·rw [putV_no h]; exact Put_no e w h
 rw [putV_ok h]; exact Put_yes e w h
end Go.Proofs.YtmbgepafpcbakaaGreatDoor
