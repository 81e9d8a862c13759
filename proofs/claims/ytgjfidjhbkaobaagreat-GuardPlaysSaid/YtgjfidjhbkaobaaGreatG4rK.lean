/-
 RefW in one text.
-/
import Derived.Test.YtgjfidjhbkaobaaGreatG4K
import Derived.Test.YtgjfidjhbkaobaaGreatG0K
import Derived.Laws.StructEq
import Derived.BigQuiet
import Derived.Laws.Shifts
namespace Go.Proofs.YtgjfidjhbkaobaaGreat
open Go.RowKit
def putK (e : Ent) : Nat → Nat
 | 0 => e.f.toNat * 4096
 | k + 1 => putK e k ||| (if e.flag k then fb k else 0)
theorem putK_lt (e : Ent) (k : Nat) (h : e.f < 1048576) : putK e k < 18446744073709551616 := by
 induction k with
 | zero => simp only [putK]; omega
 | succ k ih =>
  refine Nat.or_lt_two_pow (n := 64) ih ?_
  have := fb_lt k
  split <;> omega
def Ent.ok (e : Ent) : Bool := !e.bad && decide (0 ≤ e.f) && decide (e.f < 1048576)
theorem flag_cell (e : Ent) (k : Nat) (hk : k < 7) : e.cs[k]? = some (.bool (e.flag k)) := by
 obtain rfl | rfl | rfl | rfl | rfl | rfl | rfl : k = 0 ∨ k = 1 ∨ k = 2 ∨ k = 3 ∨ k = 4 ∨ k = 5 ∨ k = 6 := by omega
 all_goals rfl
theorem bits_as (g q i b : Nat) (t : Bool) (y : Int) (w : World) (hy : ((if t then b else 0 : Nat) : Int) = y) (hg : Blk w g 188 #[.int .u64 b, .pointer (some ⟨q, i, none⟩)]) (hq : w.cell? ⟨q, i, none⟩ = some (.bool t)) :
  Calls Tryz.prog 154 #[.pointer (some ⟨g, 0, none⟩)] w fun e w' => e = .returned (.int .u64 y) ∧ w = w' := by
 rw [← hy]; exact bits_any g q i b t w hg hq
set_option maxRecDepth 100000 in
set_option maxHeartbeats 2000000 in
theorem Put_no (e : Ent) (w : World) (h : e.ok = false) :
  Calls Tryz.prog 144 #[.agg e.cs] w fun x w' => x = .returned (.tuple #[.int .u64 0, .bool false]) ∧ Chg [] w w' := by
 obtain ⟨ep, ew, eu, ea, ed, es, en, eb, F⟩ := e
 unfold Ent.cs
 simp only [Ent.ok] at h
 cases eb
 ·simp at h
  by_cases h0 : F < 0
  ·clear h
   go_enter Tryz.func144, Tryz.ntmps144
   go_wp2_with fail
   go_ret2
   exact ⟨rfl, (Chg.refl [] w).alloc _⟩
  have h1 : F ≥ 1048576 := h (by omega)
  clear h
  go_enter Tryz.func144, Tryz.ntmps144
  go_wp2_with fail
  go_ret2
  exact ⟨rfl, (Chg.refl [] w).alloc _⟩
 go_enter Tryz.func144, Tryz.ntmps144
 go_wp2_with fail
 go_ret2
 exact ⟨rfl, (Chg.refl [] w).alloc _⟩
set_option maxRecDepth 100000 in
set_option maxHeartbeats 2000000 in
theorem Put_yes (e : Ent) (w : World) (h : e.ok = true) :
  Calls Tryz.prog 144 #[.agg e.cs] w fun x w' => x = .returned (.tuple #[.int .u64 (putK e 7 : Nat), .bool true]) ∧ Chg [] w w' := by
 obtain ⟨h1, h2, h3⟩ : e.bad = false ∧ 0 ≤ e.f ∧ e.f < 1048576 := by simpa [Ent.ok, and_assoc] using h
 have HC := Lib.hid (fun k hk => flag_cell e k hk)
 have HP := Lib.hid (fun k => putK_lt e k h3)
 have HS : Hid (∀ k, putK e (k + 1) = putK e k ||| (if e.flag k then fb k else 0)) := Lib.hid fun _ => rfl
 have hz : ((putK e 0 : Nat) : Int) = e.f * 4096 := by simp only [putK]; omega
 have hcs : e.cs = #[.bool e.p, .bool e.w, .bool e.u, .bool e.a, .bool e.d, .bool e.s, .bool e.n, .bool false, .int .i64 e.f] := by rw [← h1]; rfl
 have HCS := Lib.hid hcs
 have HZ := Lib.hid hz
 rw [hcs]
 clear hcs h1 h hz
 generalize e.p = ep at *
 generalize e.w = ew at *
 generalize e.u = eu at *
 generalize e.a = ea at *
 generalize e.d = ed at *
 generalize e.s = es at *
 generalize e.n = en at *
 generalize e.f = F at *
 have h3' : ¬ F < 0 := by omega
 have h3'' : ¬ F ≥ 1048576 := by omega
 go_enter Tryz.func144, Tryz.ntmps144
 go_wp2_with fail
 refine (flags_any _ _).mono ?_; rintro x w1 ⟨rfl, hc1, _⟩
 have hE := (Blk.new (w.alloc (Obj.cells #[.bool ep, .bool ew, .bool eu, .bool ea, .bool ed, .bool es, .bool en, .bool false, .int .i64 F] 158)) 185 #[.bool ep, .bool ew, .bool eu, .bool ea, .bool ed, .bool es, .bool en, .bool false, .int .i64 F]).chg_ hc1 (by simp)
 have hc0 := (((Chg.refl [] w).alloc _).alloc _).trans hc1 (by simp)
 rw [← HCS.out] at hE
 simp only [World.size_alloc] at hE
 clear hc1
 generalize hg : w.heap.size + 1 = g at *
 go_wp2_with fail
 go_loopw [4, 26] (fun r i w' => ∃ k : Nat, k ≤ 7 ∧ r = .int .u64 (putK e k : Nat) ∧ i = .int .i64 k ∧ Chg [] w w' ∧ Blk w' g 185 e.cs) (fun _ i _ => 7 - (intOf i).toNat)
 case atStart => exact ⟨0, by omega, by rw [HZ.out], rfl, hc0, hE⟩
 obtain ⟨k, hk, rfl, rfl, hck, hEk⟩ := hrel
 clear hc0 hE
 by_cases hlt : k < 7
 ·have hix := fun w => flagsV_at g k hlt w
  have hb : (if e.flag k then fb k else 0) < 18446744073709551616 := by have := fb_lt k; split <;> omega
  have hn : bits .or .u64 (putK e k : Nat) (if e.flag k then fb k else 0 : Nat) = (putK e (k + 1) : Nat) := by rw [HS.out]; exact u64_or_nat _ _ (HP.out k) hb
  have ht := HC.out k hlt
  rw [← hEk.cell] at ht
  generalize e.flag k = t at *
  generalize hy : ((if t then fb k else 0 : Nat) : Int) = y at hn
  have HY := Lib.hid hy
  clear hb hy
  go_wp2_with fail
  refine (bits_as wr.heap.size g k (fb k) t y _ HY.out (Blk.new _ _ _) ((World.cell?_alloc_old wr _ _ (Nat.ne_of_lt hEk.lt)).trans ht)).mono ?_; rintro x w2 ⟨rfl, rfl⟩
  go_wp2_with fail
  go_roundw
  case rel => exact ⟨k + 1, by omega, rfl, by go_num, hck.alloc _, hEk.alloc _⟩
  case measure => simp [intOf]; omega
 obtain rfl : k = 7 := by omega
 go_wp2_with fail
 go_ret2
 exact ⟨rfl, hck⟩
theorem and_bit (v n : Nat) : (v &&& 2 ^ n != 0) = v.testBit n := by
 rw [nat_bit, Nat.testBit_eq_decide_div_mod_eq]
 have h := Nat.two_pow_pos n
 rw [Bool.eq_iff_iff]
 simp only [bne_iff_ne, ne_eq, decide_eq_true_eq, Nat.mul_eq_zero]
 omega
def isB (i : Nat) : Bool := decide (i = 3) || decide (i = 4) || decide (8 ≤ i) && decide (i ≤ 11) || decide (32 ≤ i) && decide (i ≤ 62)
theorem mask_bit (i : Nat) : (9223372032559812376 : Nat).testBit i = isB i := by
 by_cases h : i < 64
 ·have : ∀ j : Fin 64, (9223372032559812376 : Nat).testBit j.1 = isB j.1 := by decide
  exact this ⟨i, h⟩
 rw [Nat.testBit_lt_two_pow (Nat.lt_of_lt_of_le (by decide : (9223372032559812376 : Nat) < 2 ^ 64) (Nat.pow_le_pow_right (by decide) (by omega)))]
 simp [isB]; omega
theorem bad_iff (v : Nat) : (getE v).bad = true ↔ ∃ i, isB i = true ∧ v.testBit i = true := by
 show (v &&& 9223372032559812376 != 0) = true ↔ _
 rw [bne_iff_ne]
 constructor
 ·intro h
  obtain ⟨i, hi⟩ := Nat.exists_testBit_of_ne_zero h
  rw [Nat.testBit_and, mask_bit, Bool.and_eq_true] at hi
  exact ⟨i, hi.2, hi.1⟩
 rintro ⟨i, h1, h2⟩ h0
 have : (v &&& 9223372032559812376).testBit i = true := by rw [Nat.testBit_and, mask_bit, h1, h2]; rfl
 rw [h0] at this; simp at this
theorem get_p (v : Nat) : (getE v).p = v.testBit 0 := and_bit v 0
theorem get_w (v : Nat) : (getE v).w = v.testBit 1 := and_bit v 1
theorem get_u (v : Nat) : (getE v).u = v.testBit 2 := and_bit v 2
theorem get_a (v : Nat) : (getE v).a = v.testBit 5 := and_bit v 5
theorem get_d (v : Nat) : (getE v).d = v.testBit 6 := and_bit v 6
theorem get_s (v : Nat) : (getE v).s = v.testBit 7 := and_bit v 7
theorem get_n (v : Nat) : (getE v).n = v.testBit 63 := and_bit v 63
theorem if_bit (t : Bool) (n i : Nat) : (if t then 2 ^ n else 0 : Nat).testBit i = (t && decide (n = i)) := by
 cases t
 ·simp
 simp [Nat.testBit_two_pow]
theorem Ent.ext_ {a b : Ent} (h1 : a.p = b.p) (h2 : a.w = b.w) (h3 : a.u = b.u) (h4 : a.a = b.a) (h5 : a.d = b.d) (h6 : a.s = b.s) (h7 : a.n = b.n) (h8 : a.bad = b.bad) (h9 : a.f = b.f) : a = b := by
 cases a; cases b; simp_all
theorem ok_parts {e : Ent} (h : e.ok = true) : e.bad = false ∧ 0 ≤ e.f ∧ e.f < 1048576 := by simpa [Ent.ok, and_assoc] using h
def Ent.eqb (a b : Ent) : Bool := a.p == b.p && (a.w == b.w && (a.u == b.u && (a.a == b.a && (a.d == b.d && (a.s == b.s && (a.n == b.n && (a.bad == b.bad && a.f == b.f)))))))
theorem eqb_iff (a b : Ent) : a.eqb b = true ↔ a = b := by
 simp only [Ent.eqb, Bool.and_eq_true, beq_iff_eq]
 constructor
 ·rintro ⟨h1, h2, h3, h4, h5, h6, h7, h8, h9⟩; exact Ent.ext_ h1 h2 h3 h4 h5 h6 h7 h8 h9
 rintro rfl; simp
def putV (e : Ent) : Nat := if e.ok then putK e 7 else 0
theorem putV_ok {e : Ent} (h : e.ok = true) : putV e = putK e 7 := by simp [putV, h]
theorem putV_no {e : Ent} (h : e.ok = false) : putV e = 0 := by simp [putV, h]
theorem putV_lt (e : Ent) : putV e < 18446744073709551616 := by
 cases h : e.ok
 ·rw [putV_no h]; decide
 rw [putV_ok h]; exact putK_lt e 7 (ok_parts h).2.2
theorem Put_at (e : Ent) (w : World) : Calls Tryz.prog 144 #[.agg e.cs] w fun x w' => x = .returned (.tuple #[.int .u64 (putV e : Nat), .bool e.ok]) ∧ Chg [] w w' := by
 cases h : e.ok
 ·rw [putV_no h]; exact Put_no e w h
 rw [putV_ok h]; exact Put_yes e w h
theorem div_pow_cast (v n : Nat) : (v : Int) / 2 ^ n = ((v / 2 ^ n : Nat) : Int) := by simp
theorem bit_int (v n : Nat) : (((v : Int) / 2 ^ n).tmod 2 == 1) = v.testBit n := by
 rw [div_pow_cast, Nat.testBit_eq_decide_div_mod_eq]
 generalize v / 2 ^ n = q
 rw [Int.tmod_eq_emod_of_nonneg (Int.natCast_nonneg q), Bool.eq_iff_iff]
 simp only [beq_iff_eq, decide_eq_true_eq]
 omega
set_option maxHeartbeats 400000 in
theorem bit_any (v n : Nat) (w : World) (_hv : v < 18446744073709551616) (hn : n < 64) :
  Calls Tryz.prog 139 #[.int .u64 v, .int .i64 n] w fun e w' => e = .returned (.bool (v.testBit n)) ∧ w = w' := by
 go_enter Tryz.func139, Tryz.ntmps139
 go_wp2
 go_ret
 exact ⟨ret_bool (bit_int v n), rfl⟩
set_option maxRecDepth 100000 in
set_option maxHeartbeats 1000000 in
theorem one_any (t : Bool) (n : Nat) (w : World) (hn : n = 0 ∨ n = 1 ∨ n = 2 ∨ n = 5 ∨ n = 6 ∨ n = 7 ∨ n = 63) :
  Calls Tryz.prog 152 #[.bool t, .int .i64 n] w fun e w' => e = .returned (.int .u64 ((if t then 2 ^ n else 0 : Nat) : Int)) ∧ w = w' := by
 rcases hn with rfl | rfl | rfl | rfl | rfl | rfl | rfl
 all_goals cases t
 all_goals
  go_enter Tryz.func152, Tryz.ntmps152
  go_wp2
  go_ret
  exact ⟨rfl, rfl⟩
theorem or_add {v n : Nat} (h : v.testBit n = false) : v ||| 2 ^ n = v + 2 ^ n := by
 have hr : v % 2 ^ (n + 1) < 2 ^ n := by
  rw [Nat.testBit_eq_decide_div_mod_eq, decide_eq_false_iff_not] at h
  have h2 := Nat.two_pow_pos n
  rw [Nat.pow_succ, Nat.mod_mul]
  have h0 : v / 2 ^ n % 2 = 0 := by omega
  rw [h0, Nat.mul_zero, Nat.add_zero]
  exact Nat.mod_lt _ h2
 have hlt : v % 2 ^ (n + 1) + 2 ^ n < 2 ^ (n + 1) := by
  have hp : 2 ^ (n + 1) = 2 ^ n * 2 := Nat.pow_succ ..
  generalize v % 2 ^ (n + 1) = r at hr ⊢
  generalize 2 ^ (n + 1) = b at hp ⊢
  omega
 have e1 : 2 ^ n ||| v % 2 ^ (n + 1) = 2 ^ n + v % 2 ^ (n + 1) := by
  have := Nat.two_pow_add_eq_or_of_lt hr 1
  simpa using this.symm
 have e2 := Nat.two_pow_add_eq_or_of_lt hlt (v / 2 ^ (n + 1))
 have e3 := Nat.two_pow_add_eq_or_of_lt (Nat.mod_lt v (Nat.two_pow_pos (n + 1))) (v / 2 ^ (n + 1))
 rw [Nat.div_add_mod] at e3
 calc v ||| 2 ^ n = (2 ^ (n + 1) * (v / 2 ^ (n + 1)) ||| v % 2 ^ (n + 1)) ||| 2 ^ n := by rw [← e3]
  _ = 2 ^ (n + 1) * (v / 2 ^ (n + 1)) ||| (2 ^ n ||| v % 2 ^ (n + 1)) := by rw [Nat.or_assoc, Nat.or_comm (2 ^ n)]
  _ = 2 ^ (n + 1) * (v / 2 ^ (n + 1)) ||| (v % 2 ^ (n + 1) + 2 ^ n) := by rw [e1, Nat.add_comm (2 ^ n)]
  _ = 2 ^ (n + 1) * (v / 2 ^ (n + 1)) + (v % 2 ^ (n + 1) + 2 ^ n) := by rw [← e2]
  _ = v + 2 ^ n := by rw [← Nat.add_assoc, Nat.div_add_mod]
def badK (v n : Nat) : Bool := (List.range n).any fun i => v.testBit i && isB i
theorem badK_succ (v n : Nat) : badK v (n + 1) = (badK v n || v.testBit n && isB n) := by simp [badK, List.range_succ]
theorem badK_all (v : Nat) : badK v 64 = (getE v).bad := by
 rw [Bool.eq_iff_iff, bad_iff]
 simp only [badK, List.any_eq_true, List.mem_range, Bool.and_eq_true]
 constructor
 ·rintro ⟨i, _, h1, h2⟩; exact ⟨i, h2, h1⟩
 rintro ⟨i, h1, h2⟩; exact ⟨i, by simp [isB] at h1; omega, h2, h1⟩
set_option maxRecDepth 100000 in
set_option maxHeartbeats 4000000 in
theorem RGet_any (v : Nat) (w : World) (hv : v < 18446744073709551616) :
  Calls Tryz.prog 108 #[.int .u64 v] w fun e w' => e = .returned (.agg (getE v).cs) ∧ Chg [] w w' := by
 have g0 := Lib.hid (get_p v)
 have g1 := Lib.hid (get_w v)
 have g2 := Lib.hid (get_u v)
 have g3 := Lib.hid (get_a v)
 have g4 := Lib.hid (get_d v)
 have g5 := Lib.hid (get_s v)
 have g6 := Lib.hid (get_n v)
 have HB0 := Lib.hid (badK_all v)
 have HZ : Hid (badK v 0 = false) := Lib.hid rfl
 have HS := Lib.hid (fun n => badK_succ v n)
 have hcs : (getE v).cs = #[.bool (getE v).p, .bool (getE v).w, .bool (getE v).u, .bool (getE v).a, .bool (getE v).d, .bool (getE v).s, .bool (getE v).n, .bool (getE v).bad, .int .i64 ((v : Int) / 4096 % 1048576)] := rfl
 have HR := Lib.hid hcs; clear hcs
 generalize (getE v).p = ep at *
 generalize (getE v).w = ew at *
 generalize (getE v).u = eu at *
 generalize (getE v).a = ea at *
 generalize (getE v).d = ed at *
 generalize (getE v).s = es at *
 generalize (getE v).n = en at *
 generalize (getE v).bad = eb at *
 go_enter Tryz.func108, Tryz.ntmps108
 go_wp2_with fail
 refine (bit_any v 0 _ hv (by decide)).mono ?_; rintro e w1 ⟨rfl, rfl⟩
 rw [← g0.out]
 go_wp2_with fail
 refine (bit_any v 1 _ hv (by decide)).mono ?_; rintro e w1 ⟨rfl, rfl⟩
 rw [← g1.out]
 go_wp2_with fail
 refine (bit_any v 2 _ hv (by decide)).mono ?_; rintro e w1 ⟨rfl, rfl⟩
 rw [← g2.out]
 go_wp2_with fail
 refine (bit_any v 5 _ hv (by decide)).mono ?_; rintro e w1 ⟨rfl, rfl⟩
 rw [← g3.out]
 go_wp2_with fail
 refine (bit_any v 6 _ hv (by decide)).mono ?_; rintro e w1 ⟨rfl, rfl⟩
 rw [← g4.out]
 go_wp2_with fail
 refine (bit_any v 7 _ hv (by decide)).mono ?_; rintro e w1 ⟨rfl, rfl⟩
 rw [← g5.out]
 go_wp2_with fail
 refine (bit_any v 63 _ hv (by decide)).mono ?_; rintro e w1 ⟨rfl, rfl⟩
 rw [← g6.out]
 clear g0 g1 g2 g3 g4 g5 g6
 go_wp2_with fail
 have hR := (Blk.new w 158 #[.bool false, .bool false, .bool false, .bool false, .bool false, .bool false, .bool false, .bool false, .int .i64 0]).alloc (Obj.cells #[.bool ep, .bool ew, .bool eu, .bool ea, .bool ed, .bool es, .bool en, .bool false, .int .i64 0] 158)
 have hP := Blk.new (w.alloc (Obj.cells #[.bool false, .bool false, .bool false, .bool false, .bool false, .bool false, .bool false, .bool false, .int .i64 0] 158)) 158 #[.bool ep, .bool ew, .bool eu, .bool ea, .bool ed, .bool es, .bool en, .bool false, .int .i64 0]
 have hc0 := ((Chg.refl [] w).alloc (Obj.cells #[.bool false, .bool false, .bool false, .bool false, .bool false, .bool false, .bool false, .bool false, .int .i64 0] 158)).alloc (Obj.cells #[.bool ep, .bool ew, .bool eu, .bool ea, .bool ed, .bool es, .bool en, .bool false, .int .i64 0] 158)
 simp only [World.size_alloc] at hP
 generalize hg1 : w.heap.size + 1 = g1 at *
 generalize hg0 : w.heap.size = g0 at *
 go_loopw [4] (fun i w' => ∃ n : Nat, n ≤ 64 ∧ i = .int .i64 n ∧ Chg [] w w' ∧ Blk w' g0 158 #[.bool false, .bool false, .bool false, .bool false, .bool false, .bool false, .bool false, .bool false, .int .i64 0] ∧ Blk w' g1 158 #[.bool ep, .bool ew, .bool eu, .bool ea, .bool ed, .bool es, .bool en, .bool (badK v n), .int .i64 0]) (fun i _ => 64 - (intOf i).toNat)
 case atStart => exact ⟨0, by omega, rfl, hc0, hR, by rw [HZ.out]; exact hP⟩
 obtain ⟨n, hn, rfl, hck, hRk, hPk⟩ := hrel
 clear hc0 hR hP
 have hne : g0 ≠ g1 := by omega
 by_cases hlt : n < 64
 ·have HB := HS.out n
  generalize badK v n = bk at *
  have e7 := hPk.cell 7
  have f7 := hPk.frozen 7
  simp at e7
  have HB := Lib.hid HB
  go_wp2_with fail
  refine (bit_any v n _ hv hlt).mono ?_; rintro e w1 ⟨rfl, rfl⟩
  have HB := HB.out
  generalize v.testBit n = t at *
  cases t
  ·rw [Bool.false_and, Bool.or_false] at HB
   go_wp2_with fail
   go_roundw
   case rel => exact ⟨n + 1, by omega, by go_num, hck, hRk, by rw [HB]; exact hPk⟩
   case measure => simp [intOf]; omega
  rw [Bool.true_and] at HB
  rcases (by omega : n < 3 ∨ n = 3 ∨ n = 4 ∨ 5 ≤ n ∧ n ≤ 7 ∨ 8 ≤ n ∧ n ≤ 11 ∨ 12 ≤ n ∧ n ≤ 31 ∨ 32 ≤ n ∧ n ≤ 62 ∨ n = 63) with hnn | hnn | hnn | hnn | hnn | hnn | hnn | hnn
  ·have hi : isB n = false := by simp [isB]; omega
   rw [hi] at HB
   have t3 : ((n : Int) == 3) = decide (n = 3) := by rw [Bool.eq_iff_iff]; simp; omega
   have t4 : ((n : Int) == 4) = decide (n = 4) := by rw [Bool.eq_iff_iff]; simp; omega
   rw [decide_eq_false (by omega)] at t3
   rw [decide_eq_false (by omega)] at t4
   go_wp2_with fail
   go_roundw
   case rel => exact ⟨n + 1, by omega, by go_num, hck, hRk, by rw [HB, Bool.or_false]; exact hPk⟩
   case measure => simp [intOf]; omega
  ·have hi : isB n = true := by simp [isB]; omega
   rw [hi] at HB
   have t3 : ((n : Int) == 3) = decide (n = 3) := by rw [Bool.eq_iff_iff]; simp; omega
   have t4 : ((n : Int) == 4) = decide (n = 4) := by rw [Bool.eq_iff_iff]; simp; omega
   rw [decide_eq_true (by omega)] at t3
   rw [decide_eq_false (by omega)] at t4
   go_wp2_with fail
   go_roundw
   case rel => exact ⟨n + 1, by omega, by go_num, (hck.setCell (by simp; omega) _), hRk.far (p := ⟨g1, 7, none⟩) hne _, by have := hPk.set_ 7 (.bool true); simp only [qI, qO, qU] at this; rw [HB, Bool.or_true]; exact this⟩
   case measure => simp [intOf]; omega
  ·have hi : isB n = true := by simp [isB]; omega
   rw [hi] at HB
   have t3 : ((n : Int) == 3) = decide (n = 3) := by rw [Bool.eq_iff_iff]; simp; omega
   have t4 : ((n : Int) == 4) = decide (n = 4) := by rw [Bool.eq_iff_iff]; simp; omega
   rw [decide_eq_false (by omega)] at t3
   rw [decide_eq_true (by omega)] at t4
   go_wp2_with fail
   go_roundw
   case rel => exact ⟨n + 1, by omega, by go_num, (hck.setCell (by simp; omega) _), hRk.far (p := ⟨g1, 7, none⟩) hne _, by have := hPk.set_ 7 (.bool true); simp only [qI, qO, qU] at this; rw [HB, Bool.or_true]; exact this⟩
   case measure => simp [intOf]; omega
  ·have hi : isB n = false := by simp [isB]; omega
   rw [hi] at HB
   have t3 : ((n : Int) == 3) = decide (n = 3) := by rw [Bool.eq_iff_iff]; simp; omega
   have t4 : ((n : Int) == 4) = decide (n = 4) := by rw [Bool.eq_iff_iff]; simp; omega
   rw [decide_eq_false (by omega)] at t3
   rw [decide_eq_false (by omega)] at t4
   go_wp2_with fail
   go_roundw
   case rel => exact ⟨n + 1, by omega, by go_num, hck, hRk, by rw [HB, Bool.or_false]; exact hPk⟩
   case measure => simp [intOf]; omega
  ·have hi : isB n = true := by simp [isB]; omega
   rw [hi] at HB
   have t3 : ((n : Int) == 3) = decide (n = 3) := by rw [Bool.eq_iff_iff]; simp; omega
   have t4 : ((n : Int) == 4) = decide (n = 4) := by rw [Bool.eq_iff_iff]; simp; omega
   rw [decide_eq_false (by omega)] at t3
   rw [decide_eq_false (by omega)] at t4
   go_wp2_with fail
   go_roundw
   case rel => exact ⟨n + 1, by omega, by go_num, (hck.setCell (by simp; omega) _), hRk.far (p := ⟨g1, 7, none⟩) hne _, by have := hPk.set_ 7 (.bool true); simp only [qI, qO, qU] at this; rw [HB, Bool.or_true]; exact this⟩
   case measure => simp [intOf]; omega
  ·have hi : isB n = false := by simp [isB]; omega
   rw [hi] at HB
   have t3 : ((n : Int) == 3) = decide (n = 3) := by rw [Bool.eq_iff_iff]; simp; omega
   have t4 : ((n : Int) == 4) = decide (n = 4) := by rw [Bool.eq_iff_iff]; simp; omega
   rw [decide_eq_false (by omega)] at t3
   rw [decide_eq_false (by omega)] at t4
   go_wp2_with fail
   go_roundw
   case rel => exact ⟨n + 1, by omega, by go_num, hck, hRk, by rw [HB, Bool.or_false]; exact hPk⟩
   case measure => simp [intOf]; omega
  ·have hi : isB n = true := by simp [isB]; omega
   rw [hi] at HB
   have t3 : ((n : Int) == 3) = decide (n = 3) := by rw [Bool.eq_iff_iff]; simp; omega
   have t4 : ((n : Int) == 4) = decide (n = 4) := by rw [Bool.eq_iff_iff]; simp; omega
   rw [decide_eq_false (by omega)] at t3
   rw [decide_eq_false (by omega)] at t4
   go_wp2_with fail
   go_roundw
   case rel => exact ⟨n + 1, by omega, by go_num, (hck.setCell (by simp; omega) _), hRk.far (p := ⟨g1, 7, none⟩) hne _, by have := hPk.set_ 7 (.bool true); simp only [qI, qO, qU] at this; rw [HB, Bool.or_true]; exact this⟩
   case measure => simp [intOf]; omega
  have hi : isB n = false := by simp [isB]; omega
  rw [hi] at HB
  have t3 : ((n : Int) == 3) = decide (n = 3) := by rw [Bool.eq_iff_iff]; simp; omega
  have t4 : ((n : Int) == 4) = decide (n = 4) := by rw [Bool.eq_iff_iff]; simp; omega
  rw [decide_eq_false (by omega)] at t3
  rw [decide_eq_false (by omega)] at t4
  go_wp2_with fail
  go_roundw
  case rel => exact ⟨n + 1, by omega, by go_num, hck, hRk, by rw [HB, Bool.or_false]; exact hPk⟩
  case measure => simp [intOf]; omega
 obtain rfl : n = 64 := by omega
 rw [HB0.out] at hPk
 have e0 := hPk.cell 0
 have e1 := hPk.cell 1
 have e2 := hPk.cell 2
 have e3 := hPk.cell 3
 have e4 := hPk.cell 4
 have e5 := hPk.cell 5
 have e6 := hPk.cell 6
 have e7 := hPk.cell 7
 have e8 := hPk.cell 8
 have f8 := hPk.frozen 8
 have r0 := hRk.cell 0
 have q0 := hRk.frozen 0
 have r1 := hRk.cell 1
 have q1 := hRk.frozen 1
 have r2 := hRk.cell 2
 have q2 := hRk.frozen 2
 have r3 := hRk.cell 3
 have q3 := hRk.frozen 3
 have r4 := hRk.cell 4
 have q4 := hRk.frozen 4
 have r5 := hRk.cell 5
 have q5 := hRk.frozen 5
 have r6 := hRk.cell 6
 have q6 := hRk.frozen 6
 have r7 := hRk.cell 7
 have q7 := hRk.frozen 7
 have r8 := hRk.cell 8
 have q8 := hRk.frozen 8
 have hne' : ¬ g1 = g0 := by omega
 have hne2 : ¬ g0 = g1 := by omega
 simp at e0 e1 e2 e3 e4 e5 e6 e7 e8 r0 r1 r2 r3 r4 r5 r6 r7 r8
 go_wp2_with fail
 have hB := ((((((((((hRk.far (p := ⟨g1, 8, none⟩) hne (.int .i64 ((v : Int) / 4096 % 1048576))).set_ 0 (.bool ep)).set_ 1 (.bool ew)).set_ 2 (.bool eu)).set_ 3 (.bool ea)).set_ 4 (.bool ed)).set_ 5 (.bool es)).set_ 6 (.bool en)).set_ 7 (.bool eb)).set_ 8 (.int .i64 ((v : Int) / 4096 % 1048576)))
 simp only [qI, qO, qU] at hB
 refine bodyPost_ret (cell_ret rfl hB rfl Tryz.underlying158 rfl (by kernel_rfl)) rfl ?_
 exact ⟨by rw [HR.out], ((((((((((hck.setCell (by simp; omega) _).setCell (by simp; omega) _).setCell (by simp; omega) _).setCell (by simp; omega) _).setCell (by simp; omega) _).setCell (by simp; omega) _).setCell (by simp; omega) _).setCell (by simp; omega) _).setCell (by simp; omega) _).setCell (by simp; omega) _)⟩
end Go.Proofs.YtgjfidjhbkaobaaGreat
