/-
 FrameA, FrameB, FrameC, RefA, RefB, FrameAt in one text.
-/
import Derived.Test.YtmbgepafpcbakaaGreatDoorProg
import Derived.Test.YtmbgepafpcbakaaGreatDoorG0K
import Derived.Deep.QuietTactic
namespace Go.Proofs.YtmbgepafpcbakaaGreatDoor
open Go.RowKit
structure MemAt (w : World) (p b n : Nat) (L : List Int) : Prop where
 st : Blk w p 152 #[.slice (some ⟨b, 0, none⟩) n n]
 ws : Blk w b 149 (u64s L)
 len : L.length = 8 * n
 pos : 1 ≤ n
 le : n ≤ 256
def hasF (n : Nat) (f : Int) : Bool := decide (0 ≤ f ∧ f < n)
def hasW (n : Nat) (f i : Int) : Bool := decide (0 ≤ f ∧ f < n ∧ 0 ≤ i ∧ i < 8)
set_option maxHeartbeats 400000 in
theorem hasFrame_any (p b n : Nat) (L : List Int) (f : Int) (w : World) (h : MemAt w p b n L) :
  Calls Tryz.prog 79 #[.pointer (some ⟨p, 0, none⟩), .int .i64 f] w fun e w' => e = .returned (.bool (hasF n f)) ∧ w = w' := by
 have c0 := h.st.cell 0
 simp at c0
 have hn := h.le
 go_enter Tryz.func79, Tryz.ntmps79
 go_wp2
 all_goals go_ret
 all_goals exact ⟨ret_bool (by simp [hasF]; omega), rfl⟩
set_option maxHeartbeats 400000 in
theorem hasWord_any (p b n : Nat) (L : List Int) (f i : Int) (w : World) (h : MemAt w p b n L) :
  Calls Tryz.prog 172 #[.pointer (some ⟨p, 0, none⟩), .int .i64 f, .int .i64 i] w fun e w' => e = .returned (.bool (hasW n f i)) ∧ w = w' := by
 by_cases hf : hasF n f = true
 ·go_enter Tryz.func172, Tryz.ntmps172
  go_wp2_with (go_at_call 79; refine (hasFrame_any p b n L f _ h).mono ?_; rintro e w' ⟨rfl, rfl⟩)
  all_goals go_ret
  all_goals exact ⟨ret_bool (by simp [hasF] at hf; rw [Bool.eq_iff_iff]; simp [hasW]; omega), rfl⟩
 have hf' : hasF n f = false := by simpa using hf
 go_enter Tryz.func172, Tryz.ntmps172
 go_wp2_with (go_at_call 79; refine (hasFrame_any p b n L f _ h).mono ?_; rintro e w' ⟨rfl, rfl⟩)
 all_goals go_ret
 all_goals exact ⟨ret_bool (by simp [hasF] at hf'; rw [Bool.eq_iff_iff]; simp [hasW]; omega), rfl⟩
set_option maxHeartbeats 400000 in
theorem Get_no (p b n : Nat) (L : List Int) (f i : Int) (w : World) (h : MemAt w p b n L) (hw : hasW n f i = false) :
  Calls Tryz.prog 167 #[.pointer (some ⟨p, 0, none⟩), .int .i64 f, .int .i64 i] w fun e w' => e = .returned (.tuple #[.int .u64 0, .bool false]) ∧ w = w' := by
 go_enter Tryz.func167, Tryz.ntmps167
 go_wp2_with (go_at_call 172; refine (hasWord_any p b n L f i _ h).mono ?_; rintro e w' ⟨rfl, rfl⟩)
 go_ret2
 exact ⟨rfl, rfl⟩
theorem MemAt.word {p b n : Nat} {L : List Int} {w : World} (h : MemAt w p b n L) {f i : Nat} (hf : f < n) (hi : i < 8) : w.cell? ⟨b, f * 8 + i, none⟩ = some (.int .u64 (L.getD (f * 8 + i) 0)) := by
 have hl := h.len
 rw [h.ws.cell, u64s_get]
 simp only [List.getD_eq_getElem?_getD]
 rw [List.getElem?_eq_getElem (by omega)]
 simp
set_option maxHeartbeats 400000 in
theorem Get_yes (p b n : Nat) (L : List Int) (f i : Nat) (w : World) (h : MemAt w p b n L) (hf : f < n) (hi : i < 8) :
  Calls Tryz.prog 167 #[.pointer (some ⟨p, 0, none⟩), .int .i64 f, .int .i64 i] w fun e w' => e = .returned (.tuple #[.int .u64 (L.getD (f * 8 + i) 0), .bool true]) ∧ w = w' := by
 have hw : hasW n f i = true := by simp [hasW]; omega
 have c0 := h.st.cell 0
 simp at c0
 have c1 := h.word hf hi
 have hn := h.le
 generalize L.getD (f * 8 + i) 0 = x at *
 go_enter Tryz.func167, Tryz.ntmps167
 go_wp2_with (go_at_call 172; refine (hasWord_any p b n L f i _ h).mono ?_; rintro e w' ⟨rfl, rfl⟩)
 go_ret2
 exact ⟨rfl, rfl⟩
set_option maxHeartbeats 400000 in
theorem Set_no (p b n : Nat) (L : List Int) (f i v : Int) (w : World) (h : MemAt w p b n L) (hw : hasW n f i = false) :
  Calls Tryz.prog 104 #[.pointer (some ⟨p, 0, none⟩), .int .i64 f, .int .i64 i, .int .u64 v] w fun e w' => e = .returned (.bool false) ∧ w = w' := by
 go_enter Tryz.func104, Tryz.ntmps104
 go_wp2_with (go_at_call 172; refine (hasWord_any p b n L f i _ h).mono ?_; rintro e w' ⟨rfl, rfl⟩)
 go_ret
 exact ⟨rfl, rfl⟩
theorem MemAt.set {p b n : Nat} {L : List Int} {w : World} (h : MemAt w p b n L) (k : Nat) (v : Int) : MemAt (w.setCell ⟨b, k, none⟩ (.int .u64 v)) p b n (L.set k v) := by
 have hne : p ≠ b := by
  intro e; have h1 := h.st; have h2 := h.ws; subst e; unfold Blk at h1 h2; rw [h1] at h2; injection h2 with h2; injection h2 with _ h3; revert h3; decide
 exact ⟨h.st.far hne _, u64s_set L k v ▸ h.ws.set_ k _, by simp [h.len], h.pos, h.le⟩
set_option maxHeartbeats 400000 in
theorem Set_yes (p b n : Nat) (L : List Int) (f i : Nat) (v : Int) (w : World) (h : MemAt w p b n L) (hf : f < n) (hi : i < 8) :
  Calls Tryz.prog 104 #[.pointer (some ⟨p, 0, none⟩), .int .i64 f, .int .i64 i, .int .u64 v] w fun e w' =>
   e = .returned (.bool true) ∧ w.setCell ⟨b, f * 8 + i, none⟩ (.int .u64 v) = w' := by
 have hw : hasW n f i = true := by simp [hasW]; omega
 have c0 := h.st.cell 0
 simp at c0
 have c1 := h.word hf hi
 have c2 := h.ws.frozen (f * 8 + i)
 have hn := h.le
 generalize L.getD (f * 8 + i) 0 = x at *
 go_enter Tryz.func104, Tryz.ntmps104
 go_wp2_with (go_at_call 172; refine (hasWord_any p b n L f i _ h).mono ?_; rintro e w' ⟨rfl, rfl⟩)
 go_ret
 exact ⟨rfl, rfl⟩
theorem words_info : ((Tryz.prog.info? 149).map (fun i => (i.zero, i.size, i.bytes))) = some (some (.agg #[.int .u64 0, .int .u64 0, .int .u64 0, .int .u64 0, .int .u64 0, .int .u64 0, .int .u64 0, .int .u64 0]), 8, 64) := by kernel_rfl
theorem u64_info : ((Tryz.prog.info? 59).map (fun i => (i.zero, i.size, i.bytes))) = some (some (.int .u64 0), 1, 8) := by kernel_rfl
theorem make_words (n : Nat) (hn : n ≤ 256) (w : World) :
  (Instr.makeSlice 150 (.int .i64 n) (.int .i64 n)).run Tryz.prog w = .ok (.slice (some ⟨w.heap.size, 0, none⟩) n n) (w.alloc (.cells (u64s (zeros (n * 8))) 149)) := by
 obtain ⟨i, hi, hz, hs, hb⟩ := info_parts words_info
 rw [run_mk Tryz.underlying150 hi hz n (by rw [hb]; omega) (by omega) w, hs, ← u64s_zero]
 rw [madeCells_const (Value.agg #[.int .u64 0, .int .u64 0, .int .u64 0, .int .u64 0, .int .u64 0, .int .u64 0, .int .u64 0, .int .u64 0]).cells (.int .u64 0) _ 8 (by decide) rfl]
theorem make_u64s (n : Nat) (hn : n ≤ 1073741824) (w : World) :
  (Instr.makeSlice 68 (.int .i64 n) (.int .i64 n)).run Tryz.prog w = .ok (.slice (some ⟨w.heap.size, 0, none⟩) n n) (w.alloc (.cells (u64s (zeros n)) 59)) := by
 obtain ⟨i, hi, hz, hs, hb⟩ := info_parts u64_info
 rw [run_mk Tryz.underlying68 hi hz n (by rw [hb]; omega) (by omega) w, hs, ← u64s_zero]
 rw [madeCells_const (Value.int .u64 0).cells (.int .u64 0) _ 1 (by decide) rfl, Nat.mul_one]
set_option maxHeartbeats 400000 in
theorem New_no (n : Int) (w : World) (h : n < 1 ∨ 256 < n) :
  Calls Tryz.prog 46 #[.int .i64 n] w fun e w' => e = .returned (.pointer none) ∧ w = w' := by
 go_enter Tryz.func46, Tryz.ntmps46
 go_wp2
 all_goals go_ret
 all_goals exact ⟨rfl, rfl⟩
set_option maxHeartbeats 400000 in
theorem New_yes (n : Nat) (w : World) (h1 : 1 ≤ n) (h2 : n ≤ 256) :
  Calls Tryz.prog 46 #[.int .i64 n] w fun e w' => e = .returned (.pointer (some ⟨w.heap.size + 1, 0, none⟩)) ∧ Chg [] w w' ∧ w'.heap.size = w.heap.size + 2 ∧ MemAt w' (w.heap.size + 1) w.heap.size n (zeros (8 * n)) := by
 have hm := make_words n h2
 go_enter Tryz.func46, Tryz.ntmps46
 go_wp2
 all_goals go_ret
 all_goals refine ⟨rfl, ((Chg.refl _ _).alloc _).alloc _, by simp, ?_⟩
 all_goals exact ⟨by have := Blk.new (w.alloc (.cells (u64s (zeros (n * 8))) 149)) 152 #[.slice (some ⟨w.heap.size, 0, none⟩) n n]; simpa using this, by rw [Nat.mul_comm 8 n]; exact (Blk.new w _ _).alloc _, by simp [zeros], h1, h2⟩
def frameOf (L : List Int) (f : Nat) : List Int := (L.drop (f * 8)).take 8
set_option maxHeartbeats 400000 in
theorem Frame_no (p b n : Nat) (L : List Int) (f : Int) (w : World) (h : MemAt w p b n L) (hf : hasF n f = false) :
  Calls Tryz.prog 31 #[.pointer (some ⟨p, 0, none⟩), .int .i64 f] w fun e w' => e = .returned (.slice none 0 0) ∧ w = w' := by
 go_enter Tryz.func31, Tryz.ntmps31
 go_wp2_with (go_at_call 79; refine (hasFrame_any p b n L f _ h).mono ?_; rintro e w' ⟨rfl, rfl⟩)
 go_ret
 exact ⟨rfl, rfl⟩
theorem frameOf_len {L : List Int} {n f : Nat} (hl : L.length = 8 * n) (hf : f < n) : (frameOf L f).length = 8 := by simp [frameOf]; omega
theorem frameOf_get {L : List Int} {f : Nat} (k : Nat) (hk : k < 8) : (frameOf L f)[k]? = L[f * 8 + k]? := by simp [frameOf, hk]
def part8 (x : List Int) (k : Nat) : List Int := x.take k ++ zeros (8 - k)
theorem part8_zero (x : List Int) : part8 x 0 = zeros 8 := by simp [part8]
theorem part8_full (x : List Int) (h : x.length = 8) : part8 x 8 = x := by simp [part8, zeros, List.take_of_length_le (Nat.le_of_eq h)]
theorem part8_set (x : List Int) (h : x.length = 8) (k : Nat) (hk : k < 8) : (part8 x k).set k (x.getD k 0) = part8 x (k + 1) := by
 apply List.ext_getElem?
 intro j
 simp only [part8, zeros, List.getElem?_set, List.getElem?_append, List.length_append, List.length_take, List.length_replicate, List.getElem?_take, List.getElem?_replicate, List.getD_eq_getElem?_getD]
 by_cases e : k = j
 ·subst e
  rw [List.getElem?_eq_getElem (show k < x.length by omega)]
  rw [if_pos rfl, if_pos (by omega), if_pos (by omega), if_pos (by omega)]; rfl
 rw [if_neg e]
 by_cases h1 : j < min k x.length
 ·rw [if_pos h1, if_pos (by omega), if_pos (by omega), if_pos (by omega)]
 rw [if_neg h1, if_neg (show ¬ j < min (k+1) x.length by omega)]
 by_cases h2 : j < 8
 ·rw [if_pos (by omega), if_pos (by omega)]
 rw [if_neg (by omega), if_neg (by omega)]
set_option maxHeartbeats 400000 in
theorem Frame_yes (p b n : Nat) (L : List Int) (f : Nat) (w : World) (h : MemAt w p b n L) (hf : f < n) :
  Calls Tryz.prog 31 #[.pointer (some ⟨p, 0, none⟩), .int .i64 f] w fun e w' => e = .returned (.slice (some ⟨w.heap.size, 0, none⟩) 8 8) ∧ Chg [] w w' ∧ w'.heap.size = w.heap.size + 1 ∧ Blk w' w.heap.size 59 (u64s (frameOf L f)) := by
 have hw : hasF n f = true := by simp [hasF]; omega
 have hm : ∀ w : World, (Instr.makeSlice 68 (.int .i64 8) (.int .i64 8)).run Tryz.prog w = .ok (.slice (some ⟨w.heap.size, 0, none⟩) 8 8) (w.alloc (.cells (u64s (zeros 8)) 59)) := fun w => make_u64s 8 (by omega) w
 have hn := h.le
 have hpb : p ≠ w.heap.size ∧ b ≠ w.heap.size := ⟨Nat.ne_of_lt h.st.lt, Nat.ne_of_lt h.ws.lt⟩
 go_enter Tryz.func31, Tryz.ntmps31
 go_wp2_with (go_at_call 79; refine (hasFrame_any p b n L f _ h).mono ?_; rintro e w' ⟨rfl, rfl⟩)
 go_loopw [12] (fun i w' => ∃ k : Nat, k ≤ 8 ∧ i = .int .i64 k ∧ Chg [] w w' ∧ w'.heap.size = w.heap.size + 1 ∧ Blk w' w.heap.size 59 (u64s (part8 (frameOf L f) k))) (fun i _ => 8 - (intOf i).toNat)
 case atStart => exact ⟨0, by omega, rfl, (Chg.refl _ _).alloc _, by simp, by rw [part8_zero]; exact Blk.new _ _ _⟩
 obtain ⟨k, hk, rfl, hc, hz, hb⟩ := hrel
 have HZ := Lib.hid hz; clear hz
 have hM : MemAt wr p b n L := ⟨hc.blk h.st (by simp), hc.blk h.ws (by simp), h.len, h.pos, h.le⟩
 have c0 := hM.st.cell 0
 simp at c0
 by_cases hlt : k < 8
 ·have c1 := hM.word hf hlt
  have c2 := hb.frozen k
  have hl8 := frameOf_len h.len hf
  have hst := part8_set _ hl8 k hlt
  have hv : (frameOf L f).getD k 0 = L.getD (f * 8 + k) 0 := by simp only [List.getD_eq_getElem?_getD]; rw [frameOf_get k hlt]
  rw [hv] at hst
  have c3 : ∃ u, wr.cell? ⟨w.heap.size, k, none⟩ = some (.int .u64 u) := by
   rw [hb.cell, u64s_get]
   have hl : (part8 (frameOf L f) k).length = 8 := by simp [part8, zeros, hl8]; omega
   rw [List.getElem?_eq_getElem (by omega)]; exact ⟨_, rfl⟩
  obtain ⟨u, c3⟩ := c3
  generalize L.getD (f * 8 + k) 0 = x at *
  have HS := Lib.hid hst; clear hst
  have HV := Lib.hid hv; clear hv
  have HL := Lib.hid hl8; clear hl8
  go_wp2
  go_roundw
  case rel => exact ⟨k + 1, by omega, by go_num, hc.setCell (by simp) _, by simpa using HZ.out, by rw [← HS.out, ← u64s_set]; exact hb.set_ k _⟩
  case measure => simp [intOf]; omega
 obtain rfl : k = 8 := by omega
 go_wp2
 go_ret
 exact ⟨rfl, hc, HZ.out, by rw [← part8_full _ (frameOf_len h.len hf)]; exact hb⟩
theorem SlU.get {w : World} {A : Option Addr} {n : Nat} {xs : List Int} (h : SlU w A n xs) {k : Nat} (hk : k < n) :
  ∃ b off, A = some ⟨b, off, none⟩ ∧ b < w.heap.size ∧ w.cell? ⟨b, off + k, none⟩ = some (.int .u64 (xs.getD k 0)) := by
 obtain ⟨b, off, e, hb, hr⟩ := h.at_ (by omega)
 have hl := h.len
 refine ⟨b, off, e, hb, ?_⟩
 rw [hr k (xs.getD k 0)]
 simp only [List.getD_eq_getElem?_getD]
 rw [List.getElem?_eq_getElem (by omega)]; rfl
theorem take_step {xs ys : List Int} {k : Nat} (h : xs.take k = ys.take k) (e : xs.getD k 0 = ys.getD k 0) (hx : k < xs.length) (hy : k < ys.length) : xs.take (k + 1) = ys.take (k + 1) := by
 rw [List.take_succ_eq_append_getElem hx, List.take_succ_eq_append_getElem hy, h]
 simp only [List.getD_eq_getElem?_getD, List.getElem?_eq_getElem hx, List.getElem?_eq_getElem hy, Option.getD_some] at e
 rw [e]
set_option maxHeartbeats 1000000 in
theorem SameWords_any (A B : Option Addr) (n m c d : Nat) (xs ys : List Int) (w : World) (ha : SlU w A n xs) (hb : SlU w B m ys) (hn : n ≤ 9223372036854775807) (hm : m ≤ 9223372036854775807) :
  Calls Tryz.prog 30 #[.slice A n c, .slice B m d] w fun e w' => e = .returned (.bool (eqL xs ys)) ∧ ∃ q, w' = w.drewN q := by
 have HA := Lib.hid ha.len
 have HB := Lib.hid hb.len
 by_cases hne : n = m
 ·subst hne
  have hb1 : ((n : Int) != n) = false := by simp
  go_enter Tryz.func30, Tryz.ntmps30
  go_wp2
  go_loopw [5] (fun i w' => ∃ k q : Nat, k ≤ n ∧ i = .int .i64 k ∧ w' = w.drewN q ∧ xs.take k = ys.take k) (fun i _ => n - (intOf i).toNat)
  case atStart => exact ⟨0, 0, by omega, rfl, rfl, rfl⟩
  obtain ⟨k, q, hk, rfl, rfl, hall⟩ := hrel
  have HT := Lib.hid hall
  clear hall
  by_cases hlt : k < n
  ·obtain ⟨b1, o1, rfl, _, r1⟩ := ha.get hlt
   obtain ⟨b2, o2, rfl, _, r2⟩ := hb.get hlt
   have hstep : xs.getD k 0 = ys.getD k 0 → xs.take (k + 1) = ys.take (k + 1) := fun e => take_step HT.out e (by have := HA.out; omega) (by have := HB.out; omega)
   have hno : xs.getD k 0 ≠ ys.getD k 0 → eqL xs ys = false := fun e => by
    simp only [eqL, decide_eq_false_iff_not]; intro e'; exact e (by rw [e'])
   have HS := Lib.hid hstep
   have HN := Lib.hid hno
   clear hstep hno
   generalize xs.getD k 0 = x at *
   generalize ys.getD k 0 = y at *
   by_cases hxy : x = y
   ·have hb2 : (x != y) = false := by simp [hxy]
    have HXY := Lib.hid hxy
    clear hxy
    go_wp2
    go_quiet (fail)
    go_wp2
    go_roundw
    case rel => exact ⟨k + 1, _, by omega, by go_num, rfl, HS.out HXY.out⟩
    case measure => simp [intOf]; omega
   have hb2 : (x != y) = true := by simp [hxy]
   have HXY := Lib.hid hxy
   clear hxy
   go_wp2
   go_quiet (fail)
   go_wp2
   go_ret
   exact ⟨ret_bool (HN.out HXY.out).symm, q + nq, by rw [World.drewN_drewN]⟩
  obtain rfl : k = n := by omega
  go_wp2
  go_ret
  refine ⟨ret_bool ?_, q, rfl⟩
  have h1 := HT.out
  rw [List.take_of_length_le (by rw [HA.out]; exact Nat.le_refl _), List.take_of_length_le (by rw [HB.out]; exact Nat.le_refl _)] at h1
  simp [eqL, h1]
 have hb1 : ((n : Int) != m) = true := by simp; omega
 have hno : eqL xs ys = false := by simp only [eqL, decide_eq_false_iff_not]; intro e; subst e; have := HA.out; have := HB.out; omega
 clear hne
 have HN := Lib.hid hno
 clear hno
 go_enter Tryz.func30, Tryz.ntmps30
 go_wp2
 go_ret
 exact ⟨ret_bool HN.out.symm, 0, rfl⟩
theorem MemAt.chg {p b n : Nat} {L : List Int} {w w' : World} {S : List Nat} (h : MemAt w p b n L) (hc : Chg S w w') (hp : p ∉ S) (hb : b ∉ S) : MemAt w' p b n L :=
 ⟨hc.blk h.st hp, hc.blk h.ws hb, h.len, h.pos, h.le⟩
theorem New_at (n : Nat) (w : World) (h1 : 1 ≤ n) (h2 : n ≤ 256) :
  Calls Tryz.prog 46 #[.int .i64 n] w fun e w' => ∃ p b, e = .returned (.pointer (some ⟨p, 0, none⟩)) ∧ Chg [] w w' ∧ MemAt w' p b n (zeros (8 * n)) ∧ w.heap.size ≤ p ∧ w.heap.size ≤ b :=
 (New_yes n w h1 h2).mono fun _ _ ⟨he, hc, _, hm⟩ => ⟨_, _, he, hc, hm, by omega, Nat.le_refl _⟩
def setW (n : Nat) (L : List Int) (f i v : Int) : List Int := if hasW n f i then L.set (f.toNat * 8 + i.toNat) v else L
theorem setW_len (n : Nat) (L : List Int) (f i v : Int) : (setW n L f i v).length = L.length := by unfold setW; split <;> simp
theorem Set_at (p b n : Nat) (L : List Int) (f i v : Int) (w : World) (h : MemAt w p b n L) :
  Calls Tryz.prog 104 #[.pointer (some ⟨p, 0, none⟩), .int .i64 f, .int .i64 i, .int .u64 v] w fun e w' =>
   e = .returned (.bool (hasW n f i)) ∧ Chg [b] w w' ∧ MemAt w' p b n (setW n L f i v) := by
 by_cases hw : hasW n f i = true
 ·have hw' := hw
  simp only [hasW, decide_eq_true_eq] at hw'
  obtain ⟨f, rfl⟩ := Int.eq_ofNat_of_zero_le hw'.1
  obtain ⟨i, rfl⟩ := Int.eq_ofNat_of_zero_le hw'.2.2.1
  refine (Set_yes p b n L f i v w h (by omega) (by omega)).mono fun _ _ ⟨he, hx⟩ => ?_
  subst he; subst hx
  exact ⟨by rw [hw], (Chg.refl _ _).setCell (by simp) _, by simp only [setW, hw, if_true, Int.toNat_natCast]; exact h.set _ _⟩
 have hw' : hasW n f i = false := by simpa using hw
 refine (Set_no p b n L f i v w h hw').mono fun _ _ ⟨he, hx⟩ => ?_
 subst he; subst hx
 exact ⟨by rw [hw'], Chg.refl _ _, by simp only [setW, hw']; exact h⟩
def getW (n : Nat) (L : List Int) (f i : Int) : Int := if hasW n f i then L.getD (f.toNat * 8 + i.toNat) 0 else 0
theorem Get_at (p b n : Nat) (L : List Int) (f i : Int) (w : World) (h : MemAt w p b n L) :
  Calls Tryz.prog 167 #[.pointer (some ⟨p, 0, none⟩), .int .i64 f, .int .i64 i] w fun e w' => e = .returned (.tuple #[.int .u64 (getW n L f i), .bool (hasW n f i)]) ∧ w = w' := by
 by_cases hw : hasW n f i = true
 ·have hw' := hw
  simp only [hasW, decide_eq_true_eq] at hw'
  obtain ⟨f, rfl⟩ := Int.eq_ofNat_of_zero_le hw'.1
  obtain ⟨i, rfl⟩ := Int.eq_ofNat_of_zero_le hw'.2.2.1
  exact (Get_yes p b n L f i w h (by omega) (by omega)).mono fun _ _ ⟨he, hx⟩ => ⟨by rw [he, hw]; simp only [getW, hw, if_true, Int.toNat_natCast], hx⟩
 have hw' : hasW n f i = false := by simpa using hw
 exact (Get_no p b n L f i w h hw').mono fun _ _ ⟨he, hx⟩ => ⟨by rw [he, hw']; simp [getW, hw'], hx⟩
def frameW (n : Nat) (L : List Int) (f : Int) : List Int := if hasF n f then frameOf L f.toNat else []
theorem Frame_at (p b n : Nat) (L : List Int) (f : Int) (w : World) (h : MemAt w p b n L) :
  Calls Tryz.prog 31 #[.pointer (some ⟨p, 0, none⟩), .int .i64 f] w fun e w' =>
   ∃ A c, e = .returned (.slice A (frameW n L f).length c) ∧ Chg [] w w' ∧ SlU w' A (frameW n L f).length (frameW n L f) ∧ (∀ g o, A = some ⟨g, o, none⟩ → w.heap.size ≤ g) ∧ (A = none → (frameW n L f).length = 0 ∧ c = 0) := by
 by_cases hw : hasF n f = true
 ·have hw' := hw
  simp only [hasF, decide_eq_true_eq] at hw'
  obtain ⟨f, rfl⟩ := Int.eq_ofNat_of_zero_le hw'.1
  have hfw : frameW n L f = frameOf L f := by simp [frameW, hw]
  rw [hfw, frameOf_len h.len (by omega)]
  exact (Frame_yes p b n L f w h (by omega)).mono fun _ _ ⟨he, hc, _, hb⟩ => ⟨_, _, he, hc, SlU.of_blk hb (frameOf_len h.len (by omega)), fun g o e => by injection e with e; injection e with e; omega, by simp⟩
 have hw' : hasF n f = false := by simpa using hw
 have hfw : frameW n L f = [] := by simp [frameW, hw']
 rw [hfw]
 exact (Frame_no p b n L f w h hw').mono fun _ _ ⟨he, hx⟩ => ⟨none, 0, he, hx ▸ Chg.refl _ _, SlU.nil _, by simp, by simp⟩
def fillB (n : Nat) (f : Int) (m : Nat) : Bool := hasF n f && decide (m = 8)
def fillW (n : Nat) (L : List Int) (f : Int) (xs : List Int) : List Int := if fillB n f xs.length then setAll L (f.toNat * 8) xs else L
theorem fillW_len (n : Nat) (L : List Int) (f : Int) (xs : List Int) : (fillW n L f xs).length = L.length := by unfold fillW; split <;> simp [setAll_len]
end Go.Proofs.YtmbgepafpcbakaaGreatDoor
