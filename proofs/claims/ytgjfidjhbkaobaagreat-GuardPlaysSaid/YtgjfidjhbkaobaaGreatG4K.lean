/-
 PteA, PteB, VaA, RightA, RightB, RightR in one text.
-/
import Derived.Test.YtgjfidjhbkaobaaGreatG0K
import Derived.BigRegion
import Derived.Laws.BitsAllLaws
import Derived.Test.YtgjfidjhbkaobaaGreatProg
import Derived.BigQuiet
import Derived.Laws.Shifts
import Derived.Laws.StructEq
import Derived.StillTailTactics
namespace Go.Proofs.YtgjfidjhbkaobaaGreat
open Go.RowKit
theorem cast_ne0 (n : Nat) : ((n : Int) != 0) = (n != 0) := by
 rw [Bool.eq_iff_iff]; simp
set_option maxHeartbeats 400000 in
theorem read_any (g q i v b : Nat) (u : Value) (w : World) (hg : Blk w g 188 #[.int .u64 b, .pointer (some ⟨q, i, none⟩)]) (hq : w.cell? ⟨q, i, none⟩ = some u) (hf : w.frozen? ⟨q, i, none⟩ = false)
  (hv : v < 18446744073709551616) (hb : b < 18446744073709551616) :
  Calls Tryz.prog 148 #[.pointer (some ⟨g, 0, none⟩), .int .u64 v] w fun e w' => e = .returned (.tuple #[]) ∧ (w.setCell ⟨q, i, none⟩ (.bool (v &&& b != 0))).drew = w' := by
 have c0 := hg.cell 0
 have c1 := hg.cell 1
 simp at c0 c1
 have ha := u64_and_nat v b hv hb
 go_enter Tryz.func148, Tryz.ntmps148
 go_wp2
 go_region
 go_wp2
 go_end0
 exact ⟨rfl, by rw [← cast_ne0]⟩
set_option maxHeartbeats 400000 in
theorem bits_any (g q i b : Nat) (t : Bool) (w : World) (hg : Blk w g 188 #[.int .u64 b, .pointer (some ⟨q, i, none⟩)]) (hq : w.cell? ⟨q, i, none⟩ = some (.bool t)) :
  Calls Tryz.prog 154 #[.pointer (some ⟨g, 0, none⟩)] w fun e w' => e = .returned (.int .u64 (if t then b else 0 : Nat)) ∧ w = w' := by
 have c0 := hg.cell 0
 have c1 := hg.cell 1
 simp at c0 c1
 cases t
 ·go_enter Tryz.func154, Tryz.ntmps154
  go_wp2
  all_goals go_ret
  all_goals exact ⟨rfl, rfl⟩
 go_enter Tryz.func154, Tryz.ntmps154
 go_wp2
 all_goals go_ret
 all_goals exact ⟨rfl, rfl⟩
def fb (k : Nat) : Nat := [1, 2, 4, 32, 64, 128, 9223372036854775808].getD k 0
theorem fb_lt (k : Nat) : fb k < 18446744073709551616 := by
 match k with
 | 0 | 1 | 2 | 3 | 4 | 5 | 6 => decide
 | k + 7 => simp [fb]
def flagsV (q : Nat) : Value := .agg #[.int .u64 1, .pointer (some ⟨q, 0, none⟩), .int .u64 2, .pointer (some ⟨q, 1, none⟩), .int .u64 4, .pointer (some ⟨q, 2, none⟩), .int .u64 32, .pointer (some ⟨q, 3, none⟩),
 .int .u64 64, .pointer (some ⟨q, 4, none⟩), .int .u64 128, .pointer (some ⟨q, 5, none⟩), .int .u64 9223372036854775808, .pointer (some ⟨q, 6, none⟩)]
theorem flagsV_at (q k : Nat) (hk : k < 7) (w : World) : (Instr.index 189 (flagsV q) (.int .i64 k)).run Tryz.prog w = .ok (.agg #[.int .u64 (fb k), .pointer (some ⟨q, k, none⟩)]) w := by
 obtain rfl | rfl | rfl | rfl | rfl | rfl | rfl : k = 0 ∨ k = 1 ∨ k = 2 ∨ k = 3 ∨ k = 4 ∨ k = 5 ∨ k = 6 := by omega
 all_goals kernel_rfl
set_option maxHeartbeats 1000000 in
theorem flags_any (q : Nat) (w : World) :
  Calls Tryz.prog 147 #[.pointer (some ⟨q, 0, none⟩)] w fun e w' => e = .returned (flagsV q) ∧ Chg [] w w' ∧ w'.heap.size = w.heap.size + 1 := by
 go_enter Tryz.func147, Tryz.ntmps147
 go_wp2
 go_region
 go_wp2
 try simp only [Exit.inBlock, Exit.then]
 refine bodyPost_ret (cell_ret rfl ((Blk.new _ _ _).drew) rfl Tryz.underlying189 rfl (by kernel_rfl)) rfl ?_
 exact ⟨rfl, ((Chg.refl [] w).alloc _).drew, by simp⟩
structure Ent where
 p : Bool
 w : Bool
 u : Bool
 a : Bool
 d : Bool
 s : Bool
 n : Bool
 bad : Bool
 f : Int
def Ent.cs (e : Ent) : Array Value := #[.bool e.p, .bool e.w, .bool e.u, .bool e.a, .bool e.d, .bool e.s, .bool e.n, .bool e.bad, .int .i64 e.f]
def Ent.flag (e : Ent) (k : Nat) : Bool := [e.p, e.w, e.u, e.a, e.d, e.s, e.n].getD k false
def entK (v k : Nat) (F : Int) : Array Value := #[.bool (decide (0 < k) && v &&& fb 0 != 0), .bool (decide (1 < k) && v &&& fb 1 != 0), .bool (decide (2 < k) && v &&& fb 2 != 0), .bool (decide (3 < k) && v &&& fb 3 != 0),
 .bool (decide (4 < k) && v &&& fb 4 != 0), .bool (decide (5 < k) && v &&& fb 5 != 0), .bool (decide (6 < k) && v &&& fb 6 != 0), .bool false, .int .i64 F]
theorem entK_set (v k : Nat) (F : Int) (hk : k < 7) : (entK v k F).setIfInBounds k (.bool (v &&& fb k != 0)) = entK v (k + 1) F := by
 obtain rfl | rfl | rfl | rfl | rfl | rfl | rfl : k = 0 ∨ k = 1 ∨ k = 2 ∨ k = 3 ∨ k = 4 ∨ k = 5 ∨ k = 6 := by omega
 all_goals simp [entK]
theorem entK_none (v : Nat) (F : Int) : entK v 0 F = #[.bool false, .bool false, .bool false, .bool false, .bool false, .bool false, .bool false, .bool false, .int .i64 F] := by simp [entK]
theorem entK_cell (v k j : Nat) (F : Int) (hj : j < 7) : ∃ t, (entK v k F)[j]? = some (.bool t) := by
 obtain rfl | rfl | rfl | rfl | rfl | rfl | rfl : j = 0 ∨ j = 1 ∨ j = 2 ∨ j = 3 ∨ j = 4 ∨ j = 5 ∨ j = 6 := by omega
 all_goals exact ⟨_, rfl⟩
def restN (v : Nat) : Nat → Nat
 | 0 => v &&& (18446744073709551615 - 4294963200)
 | k + 1 => restN v k &&& (18446744073709551615 - fb k)
theorem restN_lt (v k : Nat) (h : v < 18446744073709551616) : restN v k < 18446744073709551616 := by
 induction k with
 | zero => exact Nat.lt_of_le_of_lt Nat.and_le_left h
 | succ k ih => exact Nat.lt_of_le_of_lt Nat.and_le_left ih
theorem restN_all (v : Nat) : restN v 7 = v &&& 9223372032559812376 := by
 simp [restN, fb, Nat.and_assoc]
def getE (v : Nat) : Ent := ⟨v &&& 1 != 0, v &&& 2 != 0, v &&& 4 != 0, v &&& 32 != 0, v &&& 64 != 0, v &&& 128 != 0, v &&& 9223372036854775808 != 0, v &&& 9223372032559812376 != 0, (v : Int) / 4096 % 1048576⟩
theorem frame_and (v : Nat) : v &&& 4294963200 = v / 4096 % 1048576 * 4096 := by
 apply Nat.eq_of_testBit_eq
 intro i
 rw [show (4294963200 : Nat) = (2 ^ 20 - 1) * 2 ^ 12 by decide, show (1048576 : Nat) = 2 ^ 20 by decide, show (4096 : Nat) = 2 ^ 12 by decide]
 simp only [Nat.testBit_and, Nat.testBit_mul_two_pow, Nat.testBit_mod_two_pow, Nat.testBit_div_two_pow, Nat.testBit_two_pow_sub_one]
 by_cases h : 12 ≤ i
 ·simp [h, Bool.and_comm]
 simp [h]
set_option maxRecDepth 100000 in
set_option maxHeartbeats 2000000 in
theorem Get_any (v : Nat) (w : World) (hv : v < 18446744073709551616) :
  Calls Tryz.prog 127 #[.int .u64 v] w fun e w' => e = .returned (.agg (getE v).cs) ∧ Chg [] w w' := by
 have ha : bits .and .u64 (v : Int) 4294963200 = (v / 4096 % 1048576 * 4096 : Nat) := by
  rw [← frame_and]; exact u64_and_nat v 4294963200 hv (by decide)
 have hr : bits .andNot .u64 (v : Int) 4294963200 = (restN v 0 : Nat) := u64_andNot_nat v 4294963200 hv (by decide)
 go_enter Tryz.func127, Tryz.ntmps127
 go_wp2_with fail
 refine (flags_any _ _).mono ?_; rintro e w1 ⟨rfl, hc1, _⟩
 have hR := (((Blk.new w 158 #[.bool false, .bool false, .bool false, .bool false, .bool false, .bool false, .bool false, .bool false, .int .i64 0]).alloc (Obj.cells #[.bool false, .bool false, .bool false, .bool false, .bool false, .bool false, .bool false, .bool false, .int .i64 ((v : Int) / 4096 % 1048576)] 185))).chg_ hc1 (by simp)
 have hE := (Blk.new (w.alloc (Obj.cells #[.bool false, .bool false, .bool false, .bool false, .bool false, .bool false, .bool false, .bool false, .int .i64 0] 158)) 185 #[.bool false, .bool false, .bool false, .bool false, .bool false, .bool false, .bool false, .bool false, .int .i64 ((v : Int) / 4096 % 1048576)]).chg_ hc1 (by simp)
 have hc0 := (((Chg.refl [] w).alloc _).alloc _).trans hc1 (by simp)
 rw [← entK_none v] at hE
 simp only [World.size_alloc] at hE
 clear hc1
 generalize hF : (v : Int) / 4096 % 1048576 = F at *
 generalize hg : w.heap.size + 1 = g at *
 generalize hg0 : w.heap.size = g0 at *
 go_wp2_with fail
 go_loopw [4, 15] (fun r i w' => ∃ k : Nat, k ≤ 7 ∧ r = .int .u64 (restN v k : Nat) ∧ i = .int .i64 k ∧ Chg [] w w' ∧ Blk w' g0 158 #[.bool false, .bool false, .bool false, .bool false, .bool false, .bool false, .bool false, .bool false, .int .i64 0] ∧ Blk w' g 185 (entK v k F)) (fun _ i _ => 7 - (intOf i).toNat)
 case atStart => exact ⟨0, by omega, rfl, rfl, hc0, hR, hE⟩
 obtain ⟨k, hk, rfl, rfl, hck, hRk, hEk⟩ := hrel
 clear hc0 hR hE
 by_cases hlt : k < 7
 ·have hix := fun w => flagsV_at g k hlt w
  have hn : bits .andNot .u64 (restN v k : Nat) (fb k) = (restN v (k + 1) : Nat) := u64_andNot_nat _ _ (restN_lt v k hv) (fb_lt k)
  obtain ⟨t, ht⟩ := entK_cell v k k F hlt
  rw [← hEk.cell] at ht
  have hfz := hEk.frozen k
  go_wp2_with fail
  refine (read_any wr.heap.size g k v (fb k) _ _ (Blk.new _ _ _) ((World.cell?_alloc_old wr _ _ (Nat.ne_of_lt hEk.lt)).trans ht) ((hEk.alloc _).frozen k) hv (fb_lt k)).mono ?_; rintro e w2 ⟨rfl, hw2⟩
  have hF2 : Blk w2 wr.heap.size 188 #[.int .u64 (fb k), .pointer (some ⟨g, k, none⟩)] := by
   rw [← hw2]; exact ((Blk.new _ _ _).far (Nat.ne_of_gt hEk.lt) _).drew
  have hE2 : Blk w2 g 185 (entK v (k + 1) F) := by
   rw [← hw2, ← entK_set v k F hlt]; exact ((hEk.alloc _).set_ k _).drew
  have hne : g0 ≠ g := by omega
  have hR2 : Blk w2 g0 158 #[.bool false, .bool false, .bool false, .bool false, .bool false, .bool false, .bool false, .bool false, .int .i64 0] := by
   rw [← hw2]; exact ((hRk.alloc _).far hne _).drew
  have hc2 : Chg [] w w2 := by
   rw [← hw2]; exact ((hck.alloc _).setCell (by simp; omega) _).drew
  have c0 := hF2.cell 0
  simp at c0
  clear hw2 hck hRk hEk ht hfz
  go_wp2_with fail
  go_roundw
  case rel => exact ⟨k + 1, by omega, rfl, by go_num, hc2, hR2, hE2⟩
  case measure => simp [intOf]; omega
 obtain rfl : k = 7 := by omega
 have hbad : ((restN v 7 : Nat) != (0 : Int)) = (getE v).bad := by rw [cast_ne0, restN_all]; rfl
 have hcs : entK v 7 F = #[.bool (getE v).p, .bool (getE v).w, .bool (getE v).u, .bool (getE v).a, .bool (getE v).d, .bool (getE v).s, .bool (getE v).n, .bool false, .int .i64 F] := by simp [entK, getE, fb]
 rw [hcs] at hEk
 have hf : (getE v).f = F := hF
 have hres : (getE v).cs = #[.bool (getE v).p, .bool (getE v).w, .bool (getE v).u, .bool (getE v).a, .bool (getE v).d, .bool (getE v).s, .bool (getE v).n, .bool (getE v).bad, .int .i64 F] := by rw [← hf]; rfl
 clear hF hcs hf
 have HR := Lib.hid hres; clear hres
 generalize (getE v).p = ep at *
 generalize (getE v).w = ew at *
 generalize (getE v).u = eu at *
 generalize (getE v).a = ea at *
 generalize (getE v).d = ed at *
 generalize (getE v).s = es at *
 generalize (getE v).n = en at *
 generalize (getE v).bad = eb at *
 have e0 := hEk.cell 0
 have e1 := hEk.cell 1
 have e2 := hEk.cell 2
 have e3 := hEk.cell 3
 have e4 := hEk.cell 4
 have e5 := hEk.cell 5
 have e6 := hEk.cell 6
 have e7 := hEk.cell 7
 have e8 := hEk.cell 8
 have f7 := hEk.frozen 7
 have r0 := hRk.cell 0
 have q0 := hRk.frozen 0
 have r1 := hRk.cell 1
 have q1 := hRk.frozen 1
 have r2 := hRk.cell 2
 have q2 := hRk.frozen 2
 have r3 := hRk.cell 3
 have q3 := hRk.frozen 3
 have r4 := hRk.cell 4
 have q4 := hRk.frozen 4
 have r5 := hRk.cell 5
 have q5 := hRk.frozen 5
 have r6 := hRk.cell 6
 have q6 := hRk.frozen 6
 have r7 := hRk.cell 7
 have q7 := hRk.frozen 7
 have r8 := hRk.cell 8
 have q8 := hRk.frozen 8
 have hne : ¬ g0 = g := by omega
 have hne' : ¬ g = g0 := by omega
 simp at e0 e1 e2 e3 e4 e5 e6 e7 e8 r0 r1 r2 r3 r4 r5 r6 r7 r8
 go_wp2_with fail
 have hB := ((((((((((hRk.far (p := ⟨g, 7, none⟩) hne (.bool eb)).set_ 0 (.bool ep)).set_ 1 (.bool ew)).set_ 2 (.bool eu)).set_ 3 (.bool ea)).set_ 4 (.bool ed)).set_ 5 (.bool es)).set_ 6 (.bool en)).set_ 7 (.bool eb)).set_ 8 (.int .i64 F))
 simp only [qI, qO, qU] at hB
 refine bodyPost_ret (cell_ret rfl hB rfl Tryz.underlying158 rfl (by kernel_rfl)) rfl ?_
 exact ⟨by rw [HR.out], ((((((((((hck.setCell (by simp; omega) _).setCell (by simp; omega) _).setCell (by simp; omega) _).setCell (by simp; omega) _).setCell (by simp; omega) _).setCell (by simp; omega) _).setCell (by simp; omega) _).setCell (by simp; omega) _).setCell (by simp; omega) _).setCell (by simp; omega) _)⟩
theorem i64_low (n : Int) (k : Nat) (hk : k < 63) : bits .and .i64 n ((2 ^ k - 1 : Nat) : Int) = n % ((2 ^ k : Nat) : Int) := by
 have hp : 2 ^ k < 2 ^ 63 := Nat.pow_lt_pow_of_lt (by decide) hk
 have h0 : 0 < 2 ^ k := Nat.two_pow_pos k
 have hm : (BitVec.ofInt 64 ((2 ^ k - 1 : Nat) : Int)).toNat = 2 ^ k - 1 := by
  rw [BitVec.ofInt_natCast, BitVec.toNat_ofNat]; exact Nat.mod_eq_of_lt (by omega)
 have key : (BitVec.ofInt 64 n &&& BitVec.ofInt 64 ((2 ^ k - 1 : Nat) : Int)).toNat = (n % ((2 ^ 64 : Nat) : Int)).toNat % 2 ^ k := by
  rw [BitVec.toNat_and, BitVec.toNat_ofInt, hm, Nat.and_two_pow_sub_one_eq_mod]
 show IntKind.i64.wrap ((BitVec.ofInt 64 n &&& BitVec.ofInt 64 ((2 ^ k - 1 : Nat) : Int)).toNat : Nat) = _
 rw [key, IntKind.wrap_i64]
 have hd : ((2 ^ k : Nat) : Int) ∣ ((2 ^ 64 : Nat) : Int) := Int.natCast_dvd_natCast.2 (Nat.pow_dvd_pow 2 (by omega))
 have e1 : (((n % ((2 ^ 64 : Nat) : Int)).toNat % 2 ^ k : Nat) : Int) = n % ((2 ^ k : Nat) : Int) := by
  rw [Int.natCast_emod, Int.toNat_of_nonneg (Int.emod_nonneg _ (by decide)), Int.emod_emod_of_dvd _ hd]
 have h1 := Int.emod_nonneg n (show ((2 ^ k : Nat) : Int) ≠ 0 by omega)
 have h2 := Int.emod_lt_of_pos n (show (0 : Int) < ((2 ^ k : Nat) : Int) by omega)
 rw [e1]
 generalize n % ((2 ^ k : Nat) : Int) = z at *
 omega
structure Rg where
 w : Bool
 u : Bool
 x : Bool
def Rg.cs (r : Rg) : Array Value := #[.bool r.w, .bool r.u, .bool r.x]
theorem Rg.ext_ {a b : Rg} (h1 : a.w = b.w) (h2 : a.u = b.u) (h3 : a.x = b.x) : a = b := by
 cases a; cases b; simp at h1 h2 h3; simp [h1, h2, h3]
def Rg.eqb (a b : Rg) : Bool := a.w == b.w && (a.u == b.u && a.x == b.x)
theorem Rg.eqb_iff (a b : Rg) : a.eqb b = true ↔ a = b := by
 simp only [Rg.eqb, Bool.and_eq_true, beq_iff_eq]
 constructor
 ·rintro ⟨h1, h2, h3⟩; exact Rg.ext_ h1 h2 h3
 rintro rfl; simp
end Go.Proofs.YtgjfidjhbkaobaaGreat
