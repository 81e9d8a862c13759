/-
 PteA, PteB, VaA, RightA, RightB, RightR in one text.
-/
import Derived.Test.YtmbgepafpcbakaaGreatDoorG0K
import Derived.BigRegion
import Derived.Laws.BitsAllLaws
import Derived.Test.YtmbgepafpcbakaaGreatDoorProg
import Derived.BigQuiet
import Derived.Laws.Shifts
import Derived.Laws.StructEq
import Derived.StillTailTactics
namespace Go.Proofs.YtmbgepafpcbakaaGreatDoor
open Go.RowKit
theorem cast_ne0 (n : Nat) : ((n : Int) != 0) = (n != 0) := by
 rw [Bool.eq_iff_iff]; simp
set_option maxHeartbeats 400000 in
theorem read_any (g q i v b : Nat) (u : Value) (w : World) (hg : Blk w g 282 #[.int .u64 b, .pointer (some ⟨q, i, none⟩)]) (hq : w.cell? ⟨q, i, none⟩ = some u) (hf : w.frozen? ⟨q, i, none⟩ = false)
  (hv : v < 18446744073709551616) (hb : b < 18446744073709551616) :
  Calls Tryz.prog 212 #[.pointer (some ⟨g, 0, none⟩), .int .u64 v] w fun e w' => e = .returned (.tuple #[]) ∧ (w.setCell ⟨q, i, none⟩ (.bool (v &&& b != 0))).drew = w' := by
 have c0 := hg.cell 0
 have c1 := hg.cell 1
 simp at c0 c1
 have ha := u64_and_nat v b hv hb
 go_enter Tryz.func212, Tryz.ntmps212
 go_wp2
 go_region
 go_wp2
 go_end0
 exact ⟨rfl, by rw [← cast_ne0]⟩
set_option maxHeartbeats 400000 in
theorem bits_any (g q i b : Nat) (t : Bool) (w : World) (hg : Blk w g 282 #[.int .u64 b, .pointer (some ⟨q, i, none⟩)]) (hq : w.cell? ⟨q, i, none⟩ = some (.bool t)) :
  Calls Tryz.prog 233 #[.pointer (some ⟨g, 0, none⟩)] w fun e w' => e = .returned (.int .u64 (if t then b else 0 : Nat)) ∧ w = w' := by
 have c0 := hg.cell 0
 have c1 := hg.cell 1
 simp at c0 c1
 cases t
 ·go_enter Tryz.func233, Tryz.ntmps233
  go_wp2
  all_goals go_ret
  all_goals exact ⟨rfl, rfl⟩
 go_enter Tryz.func233, Tryz.ntmps233
 go_wp2
 all_goals go_ret
 all_goals exact ⟨rfl, rfl⟩
def fb (k : Nat) : Nat := [1, 2, 4, 32, 64, 128, 9223372036854775808].getD k 0
theorem fb_lt (k : Nat) : fb k < 18446744073709551616 := by
 match k with
 | 0 | 1 | 2 | 3 | 4 | 5 | 6 => decide
 | k + 7 => simp [fb]
def flagsV (q : Nat) : Value := .agg #[.int .u64 1, .pointer (some ⟨q, 0, none⟩), .int .u64 2, .pointer (some ⟨q, 1, none⟩), .int .u64 4, .pointer (some ⟨q, 2, none⟩), .int .u64 32, .pointer (some ⟨q, 3, none⟩),
 .int .u64 64, .pointer (some ⟨q, 4, none⟩), .int .u64 128, .pointer (some ⟨q, 5, none⟩), .int .u64 9223372036854775808, .pointer (some ⟨q, 6, none⟩)]
theorem flagsV_at (q k : Nat) (hk : k < 7) (w : World) : (Instr.index 283 (flagsV q) (.int .i64 k)).run Tryz.prog w = .ok (.agg #[.int .u64 (fb k), .pointer (some ⟨q, k, none⟩)]) w := by
 obtain rfl | rfl | rfl | rfl | rfl | rfl | rfl : k = 0 ∨ k = 1 ∨ k = 2 ∨ k = 3 ∨ k = 4 ∨ k = 5 ∨ k = 6 := by omega
 all_goals kernel_rfl
set_option maxHeartbeats 1000000 in
theorem flags_any (q : Nat) (w : World) :
  Calls Tryz.prog 211 #[.pointer (some ⟨q, 0, none⟩)] w fun e w' => e = .returned (flagsV q) ∧ Chg [] w w' ∧ w'.heap.size = w.heap.size + 1 := by
 go_enter Tryz.func211, Tryz.ntmps211
 go_wp2
 go_region
 go_wp2
 try simp only [Exit.inBlock, Exit.then]
 refine bodyPost_ret (cell_ret rfl ((Blk.new _ _ _).drew) rfl Tryz.underlying283 rfl (by kernel_rfl)) rfl ?_
 exact ⟨rfl, ((Chg.refl [] w).alloc _).drew, by simp⟩
structure Ent where
 p : Bool
 w : Bool
 u : Bool
 a : Bool
 d : Bool
 s : Bool
 n : Bool
 bad : Bool
 f : Int
def Ent.cs (e : Ent) : Array Value := #[.bool e.p, .bool e.w, .bool e.u, .bool e.a, .bool e.d, .bool e.s, .bool e.n, .bool e.bad, .int .i64 e.f]
def Ent.flag (e : Ent) (k : Nat) : Bool := [e.p, e.w, e.u, e.a, e.d, e.s, e.n].getD k false
def entK (v k : Nat) (F : Int) : Array Value := #[.bool (decide (0 < k) && v &&& fb 0 != 0), .bool (decide (1 < k) && v &&& fb 1 != 0), .bool (decide (2 < k) && v &&& fb 2 != 0), .bool (decide (3 < k) && v &&& fb 3 != 0),
 .bool (decide (4 < k) && v &&& fb 4 != 0), .bool (decide (5 < k) && v &&& fb 5 != 0), .bool (decide (6 < k) && v &&& fb 6 != 0), .bool false, .int .i64 F]
theorem entK_set (v k : Nat) (F : Int) (hk : k < 7) : (entK v k F).setIfInBounds k (.bool (v &&& fb k != 0)) = entK v (k + 1) F := by
 obtain rfl | rfl | rfl | rfl | rfl | rfl | rfl : k = 0 ∨ k = 1 ∨ k = 2 ∨ k = 3 ∨ k = 4 ∨ k = 5 ∨ k = 6 := by omega
 all_goals simp [entK]
theorem entK_none (v : Nat) (F : Int) : entK v 0 F = #[.bool false, .bool false, .bool false, .bool false, .bool false, .bool false, .bool false, .bool false, .int .i64 F] := by simp [entK]
theorem entK_cell (v k j : Nat) (F : Int) (hj : j < 7) : ∃ t, (entK v k F)[j]? = some (.bool t) := by
 obtain rfl | rfl | rfl | rfl | rfl | rfl | rfl : j = 0 ∨ j = 1 ∨ j = 2 ∨ j = 3 ∨ j = 4 ∨ j = 5 ∨ j = 6 := by omega
 all_goals exact ⟨_, rfl⟩
def restN (v : Nat) : Nat → Nat
 | 0 => v &&& (18446744073709551615 - 4294963200)
 | k + 1 => restN v k &&& (18446744073709551615 - fb k)
theorem restN_lt (v k : Nat) (h : v < 18446744073709551616) : restN v k < 18446744073709551616 := by
 induction k with
 | zero => exact Nat.lt_of_le_of_lt Nat.and_le_left h
 | succ k ih => exact Nat.lt_of_le_of_lt Nat.and_le_left ih
theorem restN_all (v : Nat) : restN v 7 = v &&& 9223372032559812376 := by
 simp [restN, fb, Nat.and_assoc]
def getE (v : Nat) : Ent := ⟨v &&& 1 != 0, v &&& 2 != 0, v &&& 4 != 0, v &&& 32 != 0, v &&& 64 != 0, v &&& 128 != 0, v &&& 9223372036854775808 != 0, v &&& 9223372032559812376 != 0, (v : Int) / 4096 % 1048576⟩
theorem frame_and (v : Nat) : v &&& 4294963200 = v / 4096 % 1048576 * 4096 := by
 apply Nat.eq_of_testBit_eq
 intro i
 rw [show (4294963200 : Nat) = (2 ^ 20 - 1) * 2 ^ 12 by decide, show (1048576 : Nat) = 2 ^ 20 by decide, show (4096 : Nat) = 2 ^ 12 by decide]
 simp only [Nat.testBit_and, Nat.testBit_mul_two_pow, Nat.testBit_mod_two_pow, Nat.testBit_div_two_pow, Nat.testBit_two_pow_sub_one]
 by_cases h : 12 ≤ i
 ·simp [h, Bool.and_comm]
 simp [h]
set_option maxRecDepth 100000 in
set_option maxHeartbeats 2000000 in
theorem Get_any (v : Nat) (w : World) (hv : v < 18446744073709551616) :
  Calls Tryz.prog 154 #[.int .u64 v] w fun e w' => e = .returned (.agg (getE v).cs) ∧ Chg [] w w' := by
 have ha : bits .and .u64 (v : Int) 4294963200 = (v / 4096 % 1048576 * 4096 : Nat) := by
  rw [← frame_and]; exact u64_and_nat v 4294963200 hv (by decide)
 have hr : bits .andNot .u64 (v : Int) 4294963200 = (restN v 0 : Nat) := u64_andNot_nat v 4294963200 hv (by decide)
 go_enter Tryz.func154, Tryz.ntmps154
 go_wp2_with fail
 refine (flags_any _ _).mono ?_; rintro e w1 ⟨rfl, hc1, _⟩
 have hR := (((Blk.new w 172 #[.bool false, .bool false, .bool false, .bool false, .bool false, .bool false, .bool false, .bool false, .int .i64 0]).alloc (Obj.cells #[.bool false, .bool false, .bool false, .bool false, .bool false, .bool false, .bool false, .bool false, .int .i64 ((v : Int) / 4096 % 1048576)] 279))).chg_ hc1 (by simp)
 have hE := (Blk.new (w.alloc (Obj.cells #[.bool false, .bool false, .bool false, .bool false, .bool false, .bool false, .bool false, .bool false, .int .i64 0] 172)) 279 #[.bool false, .bool false, .bool false, .bool false, .bool false, .bool false, .bool false, .bool false, .int .i64 ((v : Int) / 4096 % 1048576)]).chg_ hc1 (by simp)
 have hc0 := (((Chg.refl [] w).alloc _).alloc _).trans hc1 (by simp)
 rw [← entK_none v] at hE
 simp only [World.size_alloc] at hE
 clear hc1
 generalize hF : (v : Int) / 4096 % 1048576 = F at *
 generalize hg : w.heap.size + 1 = g at *
 generalize hg0 : w.heap.size = g0 at *
 go_wp2_with fail
 go_loopw [4, 15] (fun r i w' => ∃ k : Nat, k ≤ 7 ∧ r = .int .u64 (restN v k : Nat) ∧ i = .int .i64 k ∧ Chg [] w w' ∧ Blk w' g0 172 #[.bool false, .bool false, .bool false, .bool false, .bool false, .bool false, .bool false, .bool false, .int .i64 0] ∧ Blk w' g 279 (entK v k F)) (fun _ i _ => 7 - (intOf i).toNat)
 case atStart => exact ⟨0, by omega, rfl, rfl, hc0, hR, hE⟩
 obtain ⟨k, hk, rfl, rfl, hck, hRk, hEk⟩ := hrel
 clear hc0 hR hE
 by_cases hlt : k < 7
 ·have hix := fun w => flagsV_at g k hlt w
  have hn : bits .andNot .u64 (restN v k : Nat) (fb k) = (restN v (k + 1) : Nat) := u64_andNot_nat _ _ (restN_lt v k hv) (fb_lt k)
  obtain ⟨t, ht⟩ := entK_cell v k k F hlt
  rw [← hEk.cell] at ht
  have hfz := hEk.frozen k
  go_wp2_with fail
  refine (read_any wr.heap.size g k v (fb k) _ _ (Blk.new _ _ _) ((World.cell?_alloc_old wr _ _ (Nat.ne_of_lt hEk.lt)).trans ht) ((hEk.alloc _).frozen k) hv (fb_lt k)).mono ?_; rintro e w2 ⟨rfl, hw2⟩
  have hF2 : Blk w2 wr.heap.size 282 #[.int .u64 (fb k), .pointer (some ⟨g, k, none⟩)] := by
   rw [← hw2]; exact ((Blk.new _ _ _).far (Nat.ne_of_gt hEk.lt) _).drew
  have hE2 : Blk w2 g 279 (entK v (k + 1) F) := by
   rw [← hw2, ← entK_set v k F hlt]; exact ((hEk.alloc _).set_ k _).drew
  have hne : g0 ≠ g := by omega
  have hR2 : Blk w2 g0 172 #[.bool false, .bool false, .bool false, .bool false, .bool false, .bool false, .bool false, .bool false, .int .i64 0] := by
   rw [← hw2]; exact ((hRk.alloc _).far hne _).drew
  have hc2 : Chg [] w w2 := by
   rw [← hw2]; exact ((hck.alloc _).setCell (by simp; omega) _).drew
  have c0 := hF2.cell 0
  simp at c0
  clear hw2 hck hRk hEk ht hfz
  go_wp2_with fail
  go_roundw
  case rel => exact ⟨k + 1, by omega, rfl, by go_num, hc2, hR2, hE2⟩
  case measure => simp [intOf]; omega
 obtain rfl : k = 7 := by omega
 have hbad : ((restN v 7 : Nat) != (0 : Int)) = (getE v).bad := by rw [cast_ne0, restN_all]; rfl
 have hcs : entK v 7 F = #[.bool (getE v).p, .bool (getE v).w, .bool (getE v).u, .bool (getE v).a, .bool (getE v).d, .bool (getE v).s, .bool (getE v).n, .bool false, .int .i64 F] := by simp [entK, getE, fb]
 rw [hcs] at hEk
 have hf : (getE v).f = F := hF
 have hres : (getE v).cs = #[.bool (getE v).p, .bool (getE v).w, .bool (getE v).u, .bool (getE v).a, .bool (getE v).d, .bool (getE v).s, .bool (getE v).n, .bool (getE v).bad, .int .i64 F] := by rw [← hf]; rfl
 clear hF hcs hf
 have HR := Lib.hid hres; clear hres
 generalize (getE v).p = ep at *
 generalize (getE v).w = ew at *
 generalize (getE v).u = eu at *
 generalize (getE v).a = ea at *
 generalize (getE v).d = ed at *
 generalize (getE v).s = es at *
 generalize (getE v).n = en at *
 generalize (getE v).bad = eb at *
 have e0 := hEk.cell 0
 have e1 := hEk.cell 1
 have e2 := hEk.cell 2
 have e3 := hEk.cell 3
 have e4 := hEk.cell 4
 have e5 := hEk.cell 5
 have e6 := hEk.cell 6
 have e7 := hEk.cell 7
 have e8 := hEk.cell 8
 have f7 := hEk.frozen 7
 have r0 := hRk.cell 0
 have q0 := hRk.frozen 0
 have r1 := hRk.cell 1
 have q1 := hRk.frozen 1
 have r2 := hRk.cell 2
 have q2 := hRk.frozen 2
 have r3 := hRk.cell 3
 have q3 := hRk.frozen 3
 have r4 := hRk.cell 4
 have q4 := hRk.frozen 4
 have r5 := hRk.cell 5
 have q5 := hRk.frozen 5
 have r6 := hRk.cell 6
 have q6 := hRk.frozen 6
 have r7 := hRk.cell 7
 have q7 := hRk.frozen 7
 have r8 := hRk.cell 8
 have q8 := hRk.frozen 8
 have hne : ¬ g0 = g := by omega
 have hne' : ¬ g = g0 := by omega
 simp at e0 e1 e2 e3 e4 e5 e6 e7 e8 r0 r1 r2 r3 r4 r5 r6 r7 r8
 go_wp2_with fail
 have hB := ((((((((((hRk.far (p := ⟨g, 7, none⟩) hne (.bool eb)).set_ 0 (.bool ep)).set_ 1 (.bool ew)).set_ 2 (.bool eu)).set_ 3 (.bool ea)).set_ 4 (.bool ed)).set_ 5 (.bool es)).set_ 6 (.bool en)).set_ 7 (.bool eb)).set_ 8 (.int .i64 F))
 simp only [qI, qO, qU] at hB
 refine bodyPost_ret (cell_ret rfl hB rfl Tryz.underlying172 rfl (by kernel_rfl)) rfl ?_
 exact ⟨by rw [HR.out], ((((((((((hck.setCell (by simp; omega) _).setCell (by simp; omega) _).setCell (by simp; omega) _).setCell (by simp; omega) _).setCell (by simp; omega) _).setCell (by simp; omega) _).setCell (by simp; omega) _).setCell (by simp; omega) _).setCell (by simp; omega) _).setCell (by simp; omega) _)⟩
def Dr (w w' : World) : Prop := ∃ n, w' = w.drewN n
theorem Dr.refl (w : World) : Dr w w := ⟨0, rfl⟩
theorem Dr.of (w : World) (n : Nat) : Dr w (w.drewN n) := ⟨n, rfl⟩
theorem Dr.chg {a b : World} (h : Dr a b) : Chg [] a b := by
 obtain ⟨n, rfl⟩ := h
 exact (Chg.refl [] a).drewN n
theorem i64_low (n : Int) (k : Nat) (hk : k < 63) : bits .and .i64 n ((2 ^ k - 1 : Nat) : Int) = n % ((2 ^ k : Nat) : Int) := by
 have hp : 2 ^ k < 2 ^ 63 := Nat.pow_lt_pow_of_lt (by decide) hk
 have h0 : 0 < 2 ^ k := Nat.two_pow_pos k
 have hm : (BitVec.ofInt 64 ((2 ^ k - 1 : Nat) : Int)).toNat = 2 ^ k - 1 := by
  rw [BitVec.ofInt_natCast, BitVec.toNat_ofNat]; exact Nat.mod_eq_of_lt (by omega)
 have key : (BitVec.ofInt 64 n &&& BitVec.ofInt 64 ((2 ^ k - 1 : Nat) : Int)).toNat = (n % ((2 ^ 64 : Nat) : Int)).toNat % 2 ^ k := by
  rw [BitVec.toNat_and, BitVec.toNat_ofInt, hm, Nat.and_two_pow_sub_one_eq_mod]
 show IntKind.i64.wrap ((BitVec.ofInt 64 n &&& BitVec.ofInt 64 ((2 ^ k - 1 : Nat) : Int)).toNat : Nat) = _
 rw [key, IntKind.wrap_i64]
 have hd : ((2 ^ k : Nat) : Int) ∣ ((2 ^ 64 : Nat) : Int) := Int.natCast_dvd_natCast.2 (Nat.pow_dvd_pow 2 (by omega))
 have e1 : (((n % ((2 ^ 64 : Nat) : Int)).toNat % 2 ^ k : Nat) : Int) = n % ((2 ^ k : Nat) : Int) := by
  rw [Int.natCast_emod, Int.toNat_of_nonneg (Int.emod_nonneg _ (by decide)), Int.emod_emod_of_dvd _ hd]
 have h1 := Int.emod_nonneg n (show ((2 ^ k : Nat) : Int) ≠ 0 by omega)
 have h2 := Int.emod_lt_of_pos n (show (0 : Int) < ((2 ^ k : Nat) : Int) by omega)
 rw [e1]
 generalize n % ((2 ^ k : Nat) : Int) = z at *
 omega
set_option maxHeartbeats 400000 in
theorem cuti_03 (p : Int) (w : World) :
  Calls Tryz.prog 215 #[.int .i64 p, .int .i64 0, .int .i64 3] w fun e w' => e = .returned (.int .i64 (p % 8)) ∧ Dr w w' := by
 have hb : bits .and .i64 p 7 = p % 8 := i64_low p 3 (by decide)
 go_enter Tryz.func215, Tryz.ntmps215
 go_wp2
 go_quiet (fail)
 go_wp2
 go_ret
 exact ⟨rfl, Dr.of w nq⟩
set_option maxHeartbeats 400000 in
theorem cuti_33 (p : Int) (w : World) :
  Calls Tryz.prog 215 #[.int .i64 p, .int .i64 3, .int .i64 3] w fun e w' => e = .returned (.int .i64 (p / 8 % 8)) ∧ Dr w w' := by
 have hb : bits .and .i64 (p / 8) 7 = p / 8 % 8 := i64_low (p / 8) 3 (by decide)
 go_enter Tryz.func215, Tryz.ntmps215
 go_wp2
 go_quiet (fail)
 go_wp2
 go_ret
 exact ⟨rfl, Dr.of w nq⟩
set_option maxHeartbeats 400000 in
theorem cuti_63 (p : Int) (w : World) :
  Calls Tryz.prog 215 #[.int .i64 p, .int .i64 6, .int .i64 3] w fun e w' => e = .returned (.int .i64 (p / 64 % 8)) ∧ Dr w w' := by
 have hb : bits .and .i64 (p / 64) 7 = p / 64 % 8 := i64_low (p / 64) 3 (by decide)
 go_enter Tryz.func215, Tryz.ntmps215
 go_wp2
 go_quiet (fail)
 go_wp2
 go_ret
 exact ⟨rfl, Dr.of w nq⟩
def idxI (p l : Int) : Int := if l = 3 then p % 512 / 64 else if l = 2 then p % 512 / 8 % 8 else if l = 1 then p % 8 else 0
set_option maxHeartbeats 400000 in
theorem Idx_any (p l : Int) (w : World) (h0 : -9223372036854775808 ≤ l) (h1 : l ≤ 9223372036854775807) :
  Calls Tryz.prog 158 #[.int .i64 p, .int .i64 l] w fun e w' => e = .returned (.int .i64 (idxI p l)) ∧ Dr w w' := by
 by_cases h3 : l = 3
 ·subst h3
  go_enter Tryz.func158, Tryz.ntmps158
  go_wp2_with fail
  refine (cuti_63 p w).mono ?_; rintro e w1 ⟨rfl, h1⟩
  go_wp2_with fail
  go_ret
  exact ⟨ret_int (by unfold idxI; simp; omega), h1⟩
 by_cases h2 : l = 2
 ·subst h2
  go_enter Tryz.func158, Tryz.ntmps158
  go_wp2_with fail
  refine (cuti_33 p w).mono ?_; rintro e w1 ⟨rfl, h1⟩
  go_wp2_with fail
  go_ret
  exact ⟨ret_int (by unfold idxI; simp; omega), h1⟩
 by_cases h4 : l = 1
 ·subst h4
  go_enter Tryz.func158, Tryz.ntmps158
  go_wp2_with fail
  refine (cuti_03 p w).mono ?_; rintro e w1 ⟨rfl, h1⟩
  go_wp2_with fail
  go_ret
  exact ⟨ret_int (by unfold idxI; simp), h1⟩
 have hz : idxI p l = 0 := by unfold idxI; rw [if_neg h3, if_neg h2, if_neg h4]
 rw [hz]
 clear hz
 by_cases h5 : l < 1
 ·clear h3 h2 h4
  go_enter Tryz.func158, Tryz.ntmps158
  go_wp2_with fail
  go_ret
  exact ⟨rfl, Dr.refl w⟩
 have h6 : 3 < l := by omega
 clear h3 h2 h4
 go_enter Tryz.func158, Tryz.ntmps158
 go_wp2_with fail
 go_ret
 exact ⟨rfl, Dr.refl w⟩
structure Rg where
 w : Bool
 u : Bool
 x : Bool
def Rg.cs (r : Rg) : Array Value := #[.bool r.w, .bool r.u, .bool r.x]
theorem Rg.ext_ {a b : Rg} (h1 : a.w = b.w) (h2 : a.u = b.u) (h3 : a.x = b.x) : a = b := by
 cases a; cases b; simp at h1 h2 h3; simp [h1, h2, h3]
def Rg.eqb (a b : Rg) : Bool := a.w == b.w && (a.u == b.u && a.x == b.x)
theorem Rg.eqb_iff (a b : Rg) : a.eqb b = true ↔ a = b := by
 simp only [Rg.eqb, Bool.and_eq_true, beq_iff_eq]
 constructor
 ·rintro ⟨h1, h2, h3⟩; exact Rg.ext_ h1 h2 h3
 rintro rfl; simp
theorem Rg.eqb_self (a : Rg) : a.eqb a = true := (Rg.eqb_iff a a).2 rfl
set_option maxRecDepth 100000 in
theorem run_eqR (a b : Rg) (w : World) : (binOp .eql 54 (.agg a.cs) (.agg b.cs)).run Tryz.prog w = .ok (.bool (a.eqb b)) w := by
 have h : (Op.equalIn 10000 54 (.agg a.cs) (.agg b.cs)).run Tryz.prog w = .ok (a.eqb b) w := by
  rw [run_equalIn_struct w 9999 _ _ _ (by kernel_rfl) (by kernel_rfl)]
  simp only [Program.fieldsOf, Tryz.underlying54]
  exact (fields_bool (by decide) rfl (part_bool w _ Tryz.underlying4 a.cs 0 a.w rfl) (part_bool w _ Tryz.underlying4 b.cs 0 b.w rfl) (fields_bool (by decide) rfl (part_bool w _ Tryz.underlying4 a.cs 1 a.u rfl) (part_bool w _ Tryz.underlying4 b.cs 1 b.u rfl) (fields_last (by decide) rfl (part_bool w _ Tryz.underlying4 a.cs 2 a.x rfl) (part_bool w _ Tryz.underlying4 b.cs 2 b.x rfl) fields_nil)))
 rw [run_eql_struct, h]; rfl
structure SlR (w : World) (A : Option Addr) (n : Nat) (L : List Rg) : Prop where
 len : L.length = n
 at_ : 0 < n → ∃ b off, A = some ⟨b, off, none⟩ ∧ b < w.heap.size ∧ ∀ j r, L[j]? = some r → w.cell? ⟨b, off + j * 3 + 0, none⟩ = some (.bool r.w) ∧ w.cell? ⟨b, off + j * 3 + 1, none⟩ = some (.bool r.u) ∧ w.cell? ⟨b, off + j * 3 + 2, none⟩ = some (.bool r.x)
theorem SlR.chg {S : List Nat} {w w' : World} {A : Option Addr} {n : Nat} {L : List Rg} (h : SlR w A n L) (hc : Chg S w w') (hn : ∀ b off, A = some ⟨b, off, none⟩ → b ∉ S) : SlR w' A n L :=
 ⟨h.len, fun h0 => by
  obtain ⟨b, off, rfl, hb, hr⟩ := h.at_ h0
  refine ⟨b, off, rfl, Nat.lt_of_lt_of_le hb hc.size, fun j r hj => ?_⟩
  obtain ⟨h1, h2, h3⟩ := hr j r hj
  exact ⟨(hc.cell (p := ⟨b, _, none⟩) hb (hn b off rfl)).trans h1, (hc.cell (p := ⟨b, _, none⟩) hb (hn b off rfl)).trans h2, (hc.cell (p := ⟨b, _, none⟩) hb (hn b off rfl)).trans h3⟩⟩
theorem SlR.new {w w' : World} {A : Option Addr} {n : Nat} {L : List Rg} (h : SlR w A n L) (hc : Chg [] w w') : SlR w' A n L := h.chg hc (by simp)
theorem SlR.get {w : World} {A : Option Addr} {n : Nat} {L : List Rg} (h : SlR w A n L) {k : Nat} (hk : k < n) :
  ∃ b off r, A = some ⟨b, off, none⟩ ∧ b < w.heap.size ∧ L[k]? = some r ∧ w.cell? ⟨b, off + k * 3, none⟩ = some (.bool r.w) ∧ w.cell? ⟨b, off + k * 3 + 1, none⟩ = some (.bool r.u) ∧ w.cell? ⟨b, off + k * 3 + 2, none⟩ = some (.bool r.x) := by
 obtain ⟨b, off, e, hb, hr⟩ := h.at_ (by omega)
 have hl := h.len
 have hj : L[k]? = some (L[k]'(by omega)) := List.getElem?_eq_getElem (by omega)
 obtain ⟨h1, h2, h3⟩ := hr k _ hj
 exact ⟨b, off, _, e, hb, hj, h1, h2, h3⟩
def Rg.all : Rg := ⟨true, true, true⟩
def Rg.and (a b : Rg) : Rg := ⟨a.w && b.w, a.u && b.u, a.x && b.x⟩
def meetL (L : List Rg) : Rg := ⟨L.all (·.w), L.all (·.u), L.all (·.x)⟩
theorem meet_snoc {L : List Rg} {k : Nat} {r : Rg} (h : L[k]? = some r) : meetL (L.take (k + 1)) = (meetL (L.take k)).and r := by
 have hk := (List.getElem?_eq_some_iff.1 h).1
 have he := (List.getElem?_eq_some_iff.1 h).2
 rw [List.take_succ_eq_append_getElem hk, he]
 simp [meetL, Rg.and]
def under (a b : Rg) : Bool := (a.and b).eqb a
set_option maxHeartbeats 400000 in
theorem All_any (w : World) : Calls Tryz.prog 91 #[] w fun e w' => e = .returned (.agg Rg.all.cs) ∧ Chg [] w w' := by
 go_enter Tryz.func91, Tryz.ntmps91
 go_wp2_with fail
 try simp only [Exit.inBlock, Exit.then]
 refine bodyPost_ret (cell_ret rfl (Blk.new _ _ _) rfl Tryz.underlying54 rfl (by kernel_rfl)) rfl ?_
 exact ⟨rfl, (Chg.refl [] w).alloc _⟩
set_option maxRecDepth 100000 in
set_option maxHeartbeats 2000000 in
theorem Meet_any (A : Option Addr) (n c : Nat) (L : List Rg) (w : World) (h : SlR w A n L) (hn : n ≤ 9223372036854775807) :
  Calls Tryz.prog 93 #[.slice A n c] w fun e w' => e = .returned (.agg (meetL L).cs) ∧ Chg [] w w' := by
 have hlen := h.len
 have C1 := fun w => All_any w
 simp only [Rg.cs, Rg.all] at C1
 go_enter Tryz.func93, Tryz.ntmps93
 go_wp2_with fail
 refine (C1 _).mono ?_; rintro e w1 ⟨rfl, hc1⟩
 have hR := (Blk.new w 54 #[.bool false, .bool false, .bool false]).chg_ hc1 (by simp)
 have hcR := ((Chg.refl [] w).alloc (Obj.cells #[.bool false, .bool false, .bool false] 54)).trans hc1 (by simp)
 have hrz : w.heap.size < w1.heap.size := hR.lt
 generalize hg : w.heap.size = g at *
 clear hc1
 go_wp2_with fail
 go_loopw [9] (fun i w' => ∃ k : Nat, k ≤ n ∧ i = .int .i64 k ∧ Chg [] w w' ∧ Blk w' g 54 #[.bool false, .bool false, .bool false] ∧ Blk w' w1.heap.size 54 (meetL (L.take k)).cs) (fun i _ => n - (intOf i).toNat)
 case atStart =>
  exact ⟨0, by omega, rfl, hcR.alloc _, hR.alloc _, Blk.new _ _ _⟩
 clear hcR hR
 obtain ⟨k, hk, rfl, hcR, hR, hM⟩ := hrel
 by_cases hlt : k < n
 ·obtain ⟨b, off, r, rfl, hb, hr, e0, e1, e2⟩ := (h.new hcR).get hlt
  have hm := meet_snoc hr
  have HM := Lib.hid hm
  clear hm hr h C1 hlen
  obtain ⟨m0, m1, m2⟩ := blk3 hM
  have hbm : b ≠ w1.heap.size ∨ b = w1.heap.size := by omega
  generalize hmt : meetL (L.take k) = m at *
  obtain ⟨mw, mu, mx⟩ := m
  have HMT := Lib.hid hmt
  clear hmt hbm
  have hgz : w1.heap.size < wr.heap.size := hM.lt
  simp only at e0 e1 e2 m0 m1 m2
  have fz0 := hM.frozen 0; have fz1 := hM.frozen 1; have fz2 := hM.frozen 2
  cases mw <;> cases mu <;> cases mx
  all_goals
   go_wp2_with fail
   go_roundw
   case rel =>
    refine ⟨k + 1, by omega, by go_num, (((hcR.setCell (p := ⟨w1.heap.size, 0, none⟩) ?_ _).setCell (p := ⟨w1.heap.size, 1, none⟩) ?_ _).setCell (p := ⟨w1.heap.size, 2, none⟩) ?_ _).alloc _, (((hR.far (p := ⟨w1.heap.size, 0, none⟩) ?_ _).far (p := ⟨w1.heap.size, 1, none⟩) ?_ _).far (p := ⟨w1.heap.size, 2, none⟩) ?_ _).alloc _, ?_⟩
    ·intro hh; simp only at hh; omega
    ·intro hh; simp only at hh; omega
    ·intro hh; simp only at hh; omega
    ·simp only; omega
    ·simp only; omega
    ·simp only; omega
    rw [HM.out]; exact ((((hM.set_ 0 _).set_ 1 _).set_ 2 _).alloc _)
   case measure => simp [intOf]; omega
 obtain rfl : k = n := by omega
 have hl := h.len
 rw [← hl, List.take_length] at hM
 clear h C1 hlen hl
 obtain ⟨m0, m1, m2⟩ := blk3 hM
 obtain ⟨q0, q1, q2⟩ := blk3 hR
 have fz0 := hR.frozen 0; have fz1 := hR.frozen 1; have fz2 := hR.frozen 2
 go_wp2_with fail
 try simp only [Exit.inBlock, Exit.then]
 have hR2 := ((hR.set_ 0 (.bool (meetL L).w)).set_ 1 (.bool (meetL L).u)).set_ 2 (.bool (meetL L).x)
 refine bodyPost_ret (cell_ret rfl hR2 rfl Tryz.underlying54 rfl (by kernel_rfl)) rfl ?_
 refine ⟨rfl, ((hcR.setCell (p := ⟨g, 0, none⟩) ?_ _).setCell (p := ⟨g, 1, none⟩) ?_ _).setCell (p := ⟨g, 2, none⟩) ?_ _⟩
 ·intro hh; simp only at hh; omega
 ·intro hh; simp only at hh; omega
 intro hh; simp only at hh; omega
theorem SlR.made {w : World} {g n : Nat} {t : TypeId} {cs : Array Value} (L : List Rg) (hb : Blk w g t cs) (hl : L.length = n) (h : ∀ j r, L[j]? = some r → cs[j * 3 + 0]? = some (.bool r.w) ∧ cs[j * 3 + 1]? = some (.bool r.u) ∧ cs[j * 3 + 2]? = some (.bool r.x)) : SlR w (some ⟨g, 0, none⟩) n L :=
 ⟨hl, fun _ => ⟨g, 0, rfl, hb.lt, fun j r hj => by
  obtain ⟨h1, h2, h3⟩ := h j r hj
  rw [Nat.zero_add, hb.cell, hb.cell, hb.cell]
  exact ⟨h1, h2, h3⟩⟩⟩
theorem SlR.made2 {w : World} {g : Nat} {t : TypeId} (a b : Rg) (hb : Blk w g t #[.bool a.w, .bool a.u, .bool a.x, .bool b.w, .bool b.u, .bool b.x]) : SlR w (some ⟨g, 0, none⟩) 2 [a, b] := by
  refine SlR.made _ hb rfl fun j r hj => ?_
  match j with
  | 0 => obtain rfl : a = r := by simpa using hj
         exact ⟨rfl, rfl, rfl⟩
  | 1 => obtain rfl : b = r := by simpa using hj
         exact ⟨rfl, rfl, rfl⟩
  | j + 2 => simp at hj
theorem meet2 (a b : Rg) : meetL [a, b] = a.and b := by simp [meetL, Rg.and]
set_option maxRecDepth 100000 in
set_option maxHeartbeats 2000000 in
theorem Under_any (a b : Rg) (w : World) :
  Calls Tryz.prog 206 #[.agg a.cs, .agg b.cs] w fun e w' => e = .returned (.bool (under a b)) ∧ Chg [] w w' := by
 have hq := fun w => run_eqR (a.and b) a w
 have hM : ∀ (g : Nat) (w : World), Blk w g 54 #[.bool a.w, .bool a.u, .bool a.x, .bool b.w, .bool b.u, .bool b.x] →
   Calls Tryz.prog 93 #[.slice (some ⟨g, 0, none⟩) 2 2] w fun e w' => e = .returned (.agg (a.and b).cs) ∧ Chg [] w w' := fun g w h => by
  have := Meet_any _ 2 2 [a, b] w (SlR.made2 a b h) (by decide)
  rwa [meet2] at this
 unfold under
 generalize (a.and b).eqb a = t at *
 generalize a.and b = m at *
 obtain ⟨aw, au, ax⟩ := a
 obtain ⟨bw, bu, bx⟩ := b
 obtain ⟨mw, mu, mx⟩ := m
 simp only [Rg.cs] at *
 go_enter Tryz.func206, Tryz.ntmps206
 go_wp2_with fail
 have hA := (Blk.new w 54 #[.bool aw, .bool au, .bool ax]).alloc (Obj.cells #[.bool bw, .bool bu, .bool bx] 54)
 have hB := Blk.new (w.alloc (Obj.cells #[.bool aw, .bool au, .bool ax] 54)) 54 #[.bool bw, .bool bu, .bool bx]
 rw [show (w.alloc (Obj.cells #[.bool aw, .bool au, .bool ax] 54)).heap.size = w.heap.size + 1 by simp] at hB
 have hc := ((Chg.refl [] w).alloc (Obj.cells #[.bool aw, .bool au, .bool ax] 54)).alloc (Obj.cells #[.bool bw, .bool bu, .bool bx] 54)
 generalize (w.alloc (Obj.cells #[.bool aw, .bool au, .bool ax] 54)).alloc (Obj.cells #[.bool bw, .bool bu, .bool bx] 54) = w0 at *
 generalize w.heap.size = g at *
 obtain ⟨a0, a1, a2⟩ := blk3 hA
 obtain ⟨b0, b1, b2⟩ := blk3 hB
 have hlt := hA.lt
 go_region_held3 (fun w' => w'.cell? ⟨g, 0, none⟩ = some (.bool aw) ∧ w'.cell? ⟨g, 1, none⟩ = some (.bool au) ∧ w'.cell? ⟨g, 2, none⟩ = some (.bool ax) ∧ w'.cell? ⟨g + 1, 0, none⟩ = some (.bool bw) ∧ w'.cell? ⟨g + 1, 1, none⟩ = some (.bool bu) ∧ w'.cell? ⟨g + 1, 2, none⟩ = some (.bool bx))
  (first
   | exact ⟨a0, a1, a2, b0, b1, b2⟩
   | exact ⟨d0, d1, d2, k0, k1, k2⟩
   | go_keep)
  ((first
   | (go_at_call 93; refine (hM _ _ (Blk.drew (Blk.new w0 _ _))).mono ?_; rintro e w1 ⟨rfl, hc1⟩; have hA1 := (Blk.drew (hA.alloc (Obj.cells #[.bool aw, .bool au, .bool ax, .bool bw, .bool bu, .bool bx] 54))).chg_ hc1 (by simp); have hB1 := (Blk.drew (hB.alloc (Obj.cells #[.bool aw, .bool au, .bool ax, .bool bw, .bool bu, .bool bx] 54))).chg_ hc1 (by simp); obtain ⟨d0, d1, d2⟩ := blk3 hA1; obtain ⟨k0, k1, k2⟩ := blk3 hB1; have hcw := ((hc.alloc (Obj.cells #[.bool aw, .bool au, .bool ax, .bool bw, .bool bu, .bool bx] 54)).drew).trans hc1 (by simp); clear hc1)
   | fail "HERE"))
 go_wp2_with fail
 go_ret
 exact ⟨rfl, hcw⟩
theorem cell_tmp_ret {P : Program} {fn : Func} {p q : Tmp} {ty : TypeId} (h : fn.results = #[.cell p ty, .tmp q]) {tmps : Array Value} {w : World} {g : Nat} {t : TypeId} {cs : Array Value} {d : TypeDesc} (hb : Blk w g t cs)
  (hp : tmps.getD p undef = .pointer (some ⟨g, 0, none⟩)) (hu : P.underlying ty = some d) (hd : (match d with | .struct _ | .array _ _ => true | _ => false) = true) (hi : (P.info? ty).map (·.size) = some cs.size) :
  (results fn tmps).run P w = .ok (.tuple #[.agg cs, tmps.getD q undef]) w := by
 have hp' : tmps[p]?.getD undef = .pointer (some ⟨g, 0, none⟩) := by simpa using hp
 simp [results, h, hp', asAddr, run_loadVar_row w g t ty cs (0, 0) d hb hu hd hi]
def askR (k : Int) (t : Bool) : Rg := if k = 0 ∨ k = 1 ∨ k = 2 then ⟨decide (k = 1), t, decide (k = 2)⟩ else ⟨false, false, false⟩
def kindB (k : Int) : Bool := decide (k = 0 ∨ k = 1 ∨ k = 2)
set_option maxRecDepth 100000 in
set_option maxHeartbeats 2000000 in
theorem asks_any (k : Int) (t : Bool) (w : World) :
  Calls Tryz.prog 205 #[.int .i64 k, .bool t] w fun e w' => e = .returned (.tuple #[.agg (askR k t).cs, .bool (kindB k)]) ∧ Chg [] w w' := by
 have hA := (Blk.new w 54 #[.bool false, .bool false, .bool false]).alloc (Obj.cells #[.bool false, .bool false, .bool false] 54)
 have hc := ((Chg.refl [] w).alloc (Obj.cells #[.bool false, .bool false, .bool false] 54)).alloc (Obj.cells #[.bool false, .bool false, .bool false] 54)
 by_cases h0 : k = 0
 ·subst h0
  go_enter Tryz.func205, Tryz.ntmps205
  go_wp2_with fail
  try simp only [Exit.inBlock, Exit.then]
  refine bodyPost_ret (cell_tmp_ret rfl ((Blk.new w _ _).alloc _) rfl Tryz.underlying54 rfl (by kernel_rfl)) rfl ?_
  exact ⟨rfl, ((Chg.refl [] w).alloc _).alloc _⟩
 have e0 : (k == 0) = false := by simp [h0]
 by_cases h1 : k = 1
 ·subst h1
  go_enter Tryz.func205, Tryz.ntmps205
  go_wp2_with fail
  try simp only [Exit.inBlock, Exit.then]
  refine bodyPost_ret (cell_tmp_ret rfl ((Blk.new w _ _).alloc _) rfl Tryz.underlying54 rfl (by kernel_rfl)) rfl ?_
  exact ⟨rfl, ((Chg.refl [] w).alloc _).alloc _⟩
 have e1 : (k == 1) = false := by simp [h1]
 by_cases h2 : k = 2
 ·subst h2
  go_enter Tryz.func205, Tryz.ntmps205
  go_wp2_with fail
  try simp only [Exit.inBlock, Exit.then]
  refine bodyPost_ret (cell_tmp_ret rfl ((Blk.new w _ _).alloc _) rfl Tryz.underlying54 rfl (by kernel_rfl)) rfl ?_
  exact ⟨rfl, ((Chg.refl [] w).alloc _).alloc _⟩
 have e2 : (k == 2) = false := by simp [h2]
 have hr : askR k t = ⟨false, false, false⟩ := by simp [askR, h0, h1, h2]
 have hk : kindB k = false := by simp [kindB, h0, h1, h2]
 rw [hr, hk]
 go_enter Tryz.func205, Tryz.ntmps205
 go_wp2_with fail
 try simp only [Exit.inBlock, Exit.then]
 refine bodyPost_ret (cell_tmp_ret rfl ((Blk.new w _ _).alloc _) rfl Tryz.underlying54 rfl (by kernel_rfl)) rfl ?_
 exact ⟨rfl, ((Chg.refl [] w).alloc _).alloc _⟩
def mayB (r : Rg) (k : Int) (t : Bool) : Bool := kindB k && under (askR k t) r
set_option maxRecDepth 100000 in
set_option maxHeartbeats 2000000 in
theorem May_any (r : Rg) (k : Int) (t : Bool) (w : World) :
  Calls Tryz.prog 146 #[.agg r.cs, .int .i64 k, .bool t] w fun e w' => e = .returned (.bool (mayB r k t)) ∧ Chg [] w w' := by
 have hA := fun w => asks_any k t w
 have hU := fun w => Under_any (askR k t) r w
 unfold mayB
 generalize under (askR k t) r = u at *
 generalize askR k t = a at *
 generalize kindB k = b at *
 obtain ⟨rw, ru, rx⟩ := r
 obtain ⟨aw, au, ax⟩ := a
 simp only [Rg.cs] at *
 cases b
 ·go_enter Tryz.func146, Tryz.ntmps146
  go_wp2_with fail
  refine (hA _).mono ?_; rintro e w1 ⟨rfl, hc1⟩
  have hcw := ((Chg.refl [] w).alloc (Obj.cells #[.bool rw, .bool ru, .bool rx] 54)).trans hc1 (by simp)
  go_wp2_with fail
  go_ret
  exact ⟨rfl, hcw.alloc _⟩
 go_enter Tryz.func146, Tryz.ntmps146
 go_wp2_with fail
 refine (hA _).mono ?_; rintro e w1 ⟨rfl, hc1⟩
 have hcw := ((Chg.refl [] w).alloc (Obj.cells #[.bool rw, .bool ru, .bool rx] 54)).trans hc1 (by simp)
 have hR1 := (Blk.new w 54 #[.bool rw, .bool ru, .bool rx]).chg_ hc1 (by simp)
 obtain ⟨a0, a1, a2⟩ := blk3 hR1
 obtain ⟨b0, b1, b2⟩ := blk3 (hR1.alloc (Obj.cells #[.bool aw, .bool au, .bool ax] 54))
 clear hc1 hR1
 go_wp2_with fail
 refine (hU _).mono ?_; rintro e w2 ⟨rfl, hc2⟩
 go_wp2_with fail
 go_ret
 exact ⟨rfl, (hcw.alloc _).trans hc2 (by simp)⟩
def pN (b : Bool) (c : Int) : Int := if b then c else 0
theorem pN_le (b : Bool) {c : Int} (h : 0 ≤ c) : 0 ≤ pN b c ∧ pN b c ≤ c := by cases b <;> simp [pN] <;> omega
set_option maxHeartbeats 400000 in
theorem part_any (b : Bool) (c : Int) (w : World) : Calls Tryz.prog 226 #[.bool b, .int .i64 c] w fun e w' => e = .returned (.int .i64 (pN b c)) ∧ w' = w := by
 cases b
 all_goals
  go_enter Tryz.func226, Tryz.ntmps226
  go_wp2_with fail
  go_ret
  exact ⟨rfl, rfl⟩
def codeN (k : Int) (t th bad : Bool) : Int := pN th 1 + pN (k == 1) 2 + pN t 4 + pN (th && bad) 8 + pN (k == 2) 16
set_option maxRecDepth 100000 in
set_option maxHeartbeats 2000000 in
theorem Code_any (k : Int) (t th bad : Bool) (w : World) :
  Calls Tryz.prog 207 #[.int .i64 k, .bool t, .bool th, .bool bad] w fun e w' => e = .returned (.int .i64 (codeN k t th bad)) ∧ w' = w := by
 have p1 := fun w => part_any th 1 w
 have p2 := fun w => part_any (k == 1) 2 w
 have p3 := fun w => part_any t 4 w
 have p4 := fun w => part_any (th && bad) 8 w
 have p5 := fun w => part_any (k == 2) 16 w
 have b1 := pN_le th (c := 1) (by decide)
 have b2 := pN_le (k == 1) (c := 2) (by decide)
 have b3 := pN_le t (c := 4) (by decide)
 have b4 := pN_le (th && bad) (c := 8) (by decide)
 have b5 := pN_le (k == 2) (c := 16) (by decide)
 unfold codeN
 generalize pN th 1 = x1 at *
 generalize pN (k == 1) 2 = x2 at *
 generalize pN t 4 = x3 at *
 generalize pN (th && bad) 8 = x4 at *
 generalize pN (k == 2) 16 = x5 at *
 generalize hk1 : (k == 1) = k1 at *
 generalize hk2 : (k == 2) = k2 at *
 cases th
 all_goals
  simp only [Bool.false_and, Bool.true_and] at p4
  go_enter Tryz.func207, Tryz.ntmps207
  go_wp2_with fail
  refine (p1 _).mono ?_; rintro e w1 ⟨rfl, rfl⟩
  go_wp2_with fail
  refine (p2 _).mono ?_; rintro e w1 ⟨rfl, rfl⟩
  go_wp2_with fail
  refine (p3 _).mono ?_; rintro e w1 ⟨rfl, rfl⟩
  go_wp2_with fail
  refine (p4 _).mono ?_; rintro e w1 ⟨rfl, rfl⟩
  go_wp2_with fail
  refine (p5 _).mono ?_; rintro e w1 ⟨rfl, rfl⟩
  go_wp2_with fail
  go_ret
  exact ⟨rfl, rfl⟩
set_option maxHeartbeats 400000 in
theorem Of_any (p0 p1 p2 p3 p4 p5 p6 p7 : Bool) (f : Int) (w : World) :
  Calls Tryz.prog 94 #[.agg #[.bool p0, .bool p1, .bool p2, .bool p3, .bool p4, .bool p5, .bool p6, .bool p7, .int .i64 f]] w fun e w' => e = .returned (.agg #[.bool p1, .bool p2, .bool !p6]) ∧ Chg [] w w' := by
 go_enter Tryz.func94, Tryz.ntmps94
 go_wp2_with fail
 try simp only [Exit.inBlock, Exit.then]
 have hB := Blk.new (w.alloc (Obj.cells #[.bool p0, .bool p1, .bool p2, .bool p3, .bool p4, .bool p5, .bool p6, .bool p7, .int .i64 f] 172)) 54 #[.bool p1, .bool p2, .bool !p6]
 rw [show (w.alloc (Obj.cells #[.bool p0, .bool p1, .bool p2, .bool p3, .bool p4, .bool p5, .bool p6, .bool p7, .int .i64 f] 172)).heap.size = w.heap.size + 1 by simp] at hB
 refine bodyPost_ret (cell_ret rfl hB rfl Tryz.underlying54 rfl (by kernel_rfl)) rfl ?_
 exact ⟨rfl, ((Chg.refl [] w).alloc _).alloc _⟩
set_option maxRecDepth 100000 in
set_option maxHeartbeats 1000000 in
theorem RUnder_any (a b : Rg) (w : World) :
  Calls Tryz.prog 41 #[.agg a.cs, .agg b.cs] w fun e w' => e = .returned (.bool (under a b)) ∧ Chg [] w w' := by
 obtain ⟨aw, au, ax⟩ := a
 obtain ⟨bw, bu, bx⟩ := b
 simp only [Rg.cs]
 cases aw <;> cases au <;> cases ax <;> cases bw <;> cases bu
 all_goals
  go_enter Tryz.func41, Tryz.ntmps41
  go_wp2_with fail
  go_ret
  exact ⟨ret_bool (by first | rfl | (cases bx <;> rfl)), ((Chg.refl [] w).alloc _).alloc _⟩
end Go.Proofs.YtmbgepafpcbakaaGreatDoor
