/-
 PutR, StoreRA, StoreRB, StoreRC, StoreRD, StoreRE, StoreRF in one text.
-/
import Derived.Test.YtgjfidjhbkaobaaGreatG4rK
import Derived.Test.YtgjfidjhbkaobaaGreatStoreWK
namespace Go.Proofs.YtgjfidjhbkaobaaGreat
open Go.RowKit
theorem or_if {v n : Nat} (t : Bool) (h : v.testBit n = false) : v ||| (if t then 2 ^ n else 0) = v + (if t then 2 ^ n else 0) := by
 cases t
 ·simp
 exact or_add h
theorem put_sum (e : Ent) (h : e.ok = true) : putK e 7 = e.f.toNat * 2 ^ 12 + (if e.p then 2 ^ 0 else 0) + (if e.w then 2 ^ 1 else 0) + (if e.u then 2 ^ 2 else 0) + (if e.a then 2 ^ 5 else 0) + (if e.d then 2 ^ 6 else 0) + (if e.s then 2 ^ 7 else 0) + (if e.n then 2 ^ 63 else 0) := by
 have hp : putK e 7 = e.f.toNat * 2 ^ 12 ||| (if e.p then 2 ^ 0 else 0) ||| (if e.w then 2 ^ 1 else 0) ||| (if e.u then 2 ^ 2 else 0) ||| (if e.a then 2 ^ 5 else 0) ||| (if e.d then 2 ^ 6 else 0) ||| (if e.s then 2 ^ 7 else 0) ||| (if e.n then 2 ^ 63 else 0) := rfl
 have hF : e.f.toNat.testBit 51 = false := Nat.testBit_lt_two_pow (Nat.lt_of_lt_of_le (show e.f.toNat < 2 ^ 20 by have := ok_parts h; omega) (Nat.pow_le_pow_right (by decide) (by decide)))
 rw [hp]
 rw [or_if e.n (by simp only [Nat.testBit_or, if_bit, Nat.testBit_mul_two_pow, hF]; simp)]
 rw [or_if e.s (by simp only [Nat.testBit_or, if_bit, Nat.testBit_mul_two_pow]; simp)]
 rw [or_if e.d (by simp only [Nat.testBit_or, if_bit, Nat.testBit_mul_two_pow]; simp)]
 rw [or_if e.a (by simp only [Nat.testBit_or, if_bit, Nat.testBit_mul_two_pow]; simp)]
 rw [or_if e.u (by simp only [Nat.testBit_or, if_bit, Nat.testBit_mul_two_pow]; simp)]
 rw [or_if e.w (by simp only [Nat.testBit_or, if_bit, Nat.testBit_mul_two_pow]; simp)]
 rw [or_if e.p (by simp only [Nat.testBit_mul_two_pow]; simp)]
set_option maxRecDepth 100000 in
set_option maxHeartbeats 2000000 in
theorem RPut_no (e : Ent) (w : World) (h : e.ok = false) :
  Calls Tryz.prog 136 #[.agg e.cs] w fun x w' => x = .returned (.tuple #[.int .u64 0, .bool false]) ∧ Chg [] w w' := by
 obtain ⟨ep, ew, eu, ea, ed, es, en, eb, F⟩ := e
 unfold Ent.cs
 simp only [Ent.ok] at h
 cases eb
 ·simp at h
  by_cases h0 : F < 0
  ·clear h
   go_enter Tryz.func136, Tryz.ntmps136
   go_wp2_with fail
   go_ret2
   exact ⟨rfl, (Chg.refl [] w).alloc _⟩
  have h1 : F ≥ 1048576 := h (by omega)
  clear h
  go_enter Tryz.func136, Tryz.ntmps136
  go_wp2_with fail
  go_ret2
  exact ⟨rfl, (Chg.refl [] w).alloc _⟩
 go_enter Tryz.func136, Tryz.ntmps136
 go_wp2_with fail
 go_ret2
 exact ⟨rfl, (Chg.refl [] w).alloc _⟩
theorem if_le (t : Bool) (n : Nat) : 0 ≤ ((if t then n else 0 : Nat) : Int) ∧ ((if t then n else 0 : Nat) : Int) ≤ n := by cases t <;> simp
set_option maxRecDepth 100000 in
set_option maxHeartbeats 2000000 in
theorem RPut_yes (e : Ent) (w : World) (h : e.ok = true) :
  Calls Tryz.prog 136 #[.agg e.cs] w fun x w' => x = .returned (.tuple #[.int .u64 (putK e 7 : Nat), .bool true]) ∧ Chg [] w w' := by
 obtain ⟨h1, h2, h3⟩ := ok_parts h
 have hsum : ((putK e 7 : Nat) : Int) = e.f * 4096 + ((if e.p then 2 ^ 0 else 0 : Nat) : Int) + ((if e.w then 2 ^ 1 else 0 : Nat) : Int) + ((if e.u then 2 ^ 2 else 0 : Nat) : Int) + ((if e.a then 2 ^ 5 else 0 : Nat) : Int) + ((if e.d then 2 ^ 6 else 0 : Nat) : Int) + ((if e.s then 2 ^ 7 else 0 : Nat) : Int) + ((if e.n then 2 ^ 63 else 0 : Nat) : Int) := by
  rw [put_sum e h]; omega
 have hlt := putK_lt e 7 h3
 have hcs : e.cs = #[.bool e.p, .bool e.w, .bool e.u, .bool e.a, .bool e.d, .bool e.s, .bool e.n, .bool false, .int .i64 e.f] := by rw [← h1]; rfl
 rw [hcs]
 clear hcs h1 h
 generalize putK e 7 = N at *
 have H0 : ∀ w0 : World, Calls Tryz.prog 152 #[.bool e.p, .int .i64 0] w0 fun x w' => x = .returned (.int .u64 ((if e.p then 2 ^ 0 else 0 : Nat) : Int)) ∧ w' = w0 := fun w0 => (one_any e.p 0 w0 (by decide)).mono fun _ _ h => ⟨h.1, h.2.symm⟩
 have B0 := if_le e.p (2 ^ 0)
 have H1 : ∀ w0 : World, Calls Tryz.prog 152 #[.bool e.w, .int .i64 1] w0 fun x w' => x = .returned (.int .u64 ((if e.w then 2 ^ 1 else 0 : Nat) : Int)) ∧ w' = w0 := fun w0 => (one_any e.w 1 w0 (by decide)).mono fun _ _ h => ⟨h.1, h.2.symm⟩
 have B1 := if_le e.w (2 ^ 1)
 have H2 : ∀ w0 : World, Calls Tryz.prog 152 #[.bool e.u, .int .i64 2] w0 fun x w' => x = .returned (.int .u64 ((if e.u then 2 ^ 2 else 0 : Nat) : Int)) ∧ w' = w0 := fun w0 => (one_any e.u 2 w0 (by decide)).mono fun _ _ h => ⟨h.1, h.2.symm⟩
 have B2 := if_le e.u (2 ^ 2)
 have H3 : ∀ w0 : World, Calls Tryz.prog 152 #[.bool e.a, .int .i64 5] w0 fun x w' => x = .returned (.int .u64 ((if e.a then 2 ^ 5 else 0 : Nat) : Int)) ∧ w' = w0 := fun w0 => (one_any e.a 5 w0 (by decide)).mono fun _ _ h => ⟨h.1, h.2.symm⟩
 have B3 := if_le e.a (2 ^ 5)
 have H4 : ∀ w0 : World, Calls Tryz.prog 152 #[.bool e.d, .int .i64 6] w0 fun x w' => x = .returned (.int .u64 ((if e.d then 2 ^ 6 else 0 : Nat) : Int)) ∧ w' = w0 := fun w0 => (one_any e.d 6 w0 (by decide)).mono fun _ _ h => ⟨h.1, h.2.symm⟩
 have B4 := if_le e.d (2 ^ 6)
 have H5 : ∀ w0 : World, Calls Tryz.prog 152 #[.bool e.s, .int .i64 7] w0 fun x w' => x = .returned (.int .u64 ((if e.s then 2 ^ 7 else 0 : Nat) : Int)) ∧ w' = w0 := fun w0 => (one_any e.s 7 w0 (by decide)).mono fun _ _ h => ⟨h.1, h.2.symm⟩
 have B5 := if_le e.s (2 ^ 7)
 have H6 : ∀ w0 : World, Calls Tryz.prog 152 #[.bool e.n, .int .i64 63] w0 fun x w' => x = .returned (.int .u64 ((if e.n then 2 ^ 63 else 0 : Nat) : Int)) ∧ w' = w0 := fun w0 => (one_any e.n 63 w0 (by decide)).mono fun _ _ h => ⟨h.1, h.2.symm⟩
 have B6 := if_le e.n (2 ^ 63)
 generalize e.p = ep at *
 generalize e.w = ew at *
 generalize e.u = eu at *
 generalize e.a = ea at *
 generalize e.d = ed at *
 generalize e.s = es at *
 generalize e.n = en at *
 generalize e.f = F at *
 generalize ((if ep then 2 ^ 0 else 0 : Nat) : Int) = y0 at *
 generalize ((if ew then 2 ^ 1 else 0 : Nat) : Int) = y1 at *
 generalize ((if eu then 2 ^ 2 else 0 : Nat) : Int) = y2 at *
 generalize ((if ea then 2 ^ 5 else 0 : Nat) : Int) = y3 at *
 generalize ((if ed then 2 ^ 6 else 0 : Nat) : Int) = y4 at *
 generalize ((if es then 2 ^ 7 else 0 : Nat) : Int) = y5 at *
 generalize ((if en then 2 ^ 63 else 0 : Nat) : Int) = y6 at *
 have HS := Lib.hid hsum
 clear hsum hlt
 simp only [Nat.reducePow, Int.cast_ofNat_Int] at B0 B1 B2 B3 B4 B5 B6
 have h3' : ¬ F < 0 := by omega
 have h3'' : ¬ F ≥ 1048576 := by omega
 go_enter Tryz.func136, Tryz.ntmps136
 go_wp2_with fail
 go_quiet ((go_at_call 152; first | exact Calls.quiet_of_same (H0 _) | exact Calls.quiet_of_same (H1 _) | exact Calls.quiet_of_same (H2 _) | exact Calls.quiet_of_same (H3 _) | exact Calls.quiet_of_same (H4 _) | exact Calls.quiet_of_same (H5 _) | exact Calls.quiet_of_same (H6 _)))
 go_wp2_with fail
 go_ret2
 have HT : y0 + y1 + y2 + y3 + y4 + y5 + y6 + F * 4096 = N := by have := HS.out; omega
 exact ⟨by rw [← HT]; rfl, ((Chg.refl [] w).alloc _).drewN _⟩
theorem RPut_at (e : Ent) (w : World) : Calls Tryz.prog 136 #[.agg e.cs] w fun x w' => x = .returned (.tuple #[.int .u64 (putV e : Nat), .bool e.ok]) ∧ Chg [] w w' := by
 cases h : e.ok
 ·rw [putV_no h]; exact RPut_no e w h
 rw [putV_ok h]; exact RPut_yes e w h
end Go.Proofs.YtgjfidjhbkaobaaGreat
namespace Go.Proofs.YtgjfidjhbkaobaaGreat
open Go.RowKit Go.Maps
abbrev RP := Int × Ky × Option Addr × Nat
def rpE : Enc RP := ⟨fun x => [.int .i64 x.1, .int .i64 x.2.1.g, .int .i64 x.2.1.lev, .int .i64 x.2.1.role, .slice x.2.2.1 8 x.2.2.2], 5, by decide, fun _ => rfl, fun x u hu => by
 simp only [List.mem_cons, List.not_mem_nil, or_false] at hu
 rcases hu with rfl | rfl | rfl | rfl | rfl <;> rfl⟩
def rowsR (L : List Pg) (R : List (Option Addr × Nat)) : List RP := List.zipWith (fun q r => (q.f, q.k, r)) L R
theorem rowsR_at {L : List Pg} {R : List (Option Addr × Nat)} {j : Nat} {q : Pg} {r : Option Addr × Nat} (hq : L[j]? = some q) (hr : R[j]? = some r) : (rowsR L R)[j]? = some (q.f, q.k, r) := by
 unfold rowsR; rw [List.getElem?_zipWith, hq, hr]
structure RStX (w : World) (q rp rb fp n a m : Nat) (s : Sr) (LA : Option Addr) (lc : Nat) (R : List (Option Addr × Nat)) (FS : List Nat) : Prop where
 st : Blk w q 112 #[.pointer (some ⟨rp, 0, none⟩), .pointer (some ⟨fp, 0, none⟩), .slice LA s.L.length lc]
 hm : RMemAt w rp rb n s.W
 hf : RAt w FS fp a m s.fr
 hl : OwnG rpE w 115 (.slice LA s.L.length lc) (rowsR s.L R)
 len : R.length = s.L.length
 hs : ∀ (j : Nat) (q : Pg) (r : Option Addr × Nat), s.L[j]? = some q → R[j]? = some r → OwnG sltE w 72 (.slice r.1 8 r.2) q.s
section
variable {w w' : World} {q rp rb fp n a m : Nat} {s : Sr} {LA : Option Addr} {lc : Nat} {R : List (Option Addr × Nat)} {FS : List Nat}
theorem RStX.new (h : RStX w q rp rb fp n a m s LA lc R FS) (y : Chg [] w w') : RStX w' q rp rb fp n a m s LA lc R FS :=
 ⟨h.st.chg_ y (by simp), h.hm.chg y (by simp) (by simp), h.hf.chg y (by simp), h.hl.new y, h.len, fun j q r hq hr => (h.hs j q r hq hr).new y⟩
theorem RStX.page (h : RStX w q rp rb fp n a m s LA lc R FS) {j : Nat} (hj : j < s.L.length) : ∃ (b off : Nat) (p : Pg) (r : Option Addr × Nat), LA = some ⟨b, off, none⟩ ∧ s.L[j]? = some p ∧ R[j]? = some r ∧
  w.cell? ⟨b, off + j * 5, none⟩ = some (.int .i64 p.f) ∧ w.cell? ⟨b, off + j * 5 + 1, none⟩ = some (.int .i64 p.k.g) ∧ w.cell? ⟨b, off + j * 5 + 2, none⟩ = some (.int .i64 p.k.lev) ∧ w.cell? ⟨b, off + j * 5 + 3, none⟩ = some (.int .i64 p.k.role) ∧ w.cell? ⟨b, off + j * 5 + 4, none⟩ = some (.slice r.1 8 r.2) := by
 obtain ⟨b, off, x, e, _, hx, hat⟩ := h.hl.slg.get hj
 have hr := List.getElem?_eq_getElem (show j < R.length by rw [h.len]; exact hj)
 have hq := List.getElem?_eq_getElem hj
 rw [rowsR_at hq hr] at hx
 cases hx
 exact ⟨b, off, _, _, e, hq, hr, hat 0 _ rfl, hat 1 _ rfl, hat 2 _ rfl, hat 3 _ rfl, hat 4 _ rfl⟩
end
def atI (L : List Pg) (p : Int) : Int := match L.findIdx? fun q => q.f == p with
 | some j => (j : Int)
 | none => -1
theorem atI_yes {L : List Pg} {p : Int} {j : Nat} {q : Pg} (hq : L[j]? = some q) (hf : q.f = p) (hn : ∀ i q', i < j → L[i]? = some q' → q'.f ≠ p) : atI L p = (j : Int) := by
 unfold atI
 have : L.findIdx? (fun q => q.f == p) = some j := by
  rw [List.findIdx?_eq_some_iff_getElem]
  obtain ⟨hj, e⟩ := List.getElem?_eq_some_iff.1 hq
  refine ⟨hj, by rw [e]; simpa using hf, fun i hi => ?_⟩
  have := hn i _ hi (List.getElem?_eq_getElem (by omega))
  simpa using this
 rw [this]
theorem atI_no {L : List Pg} {p : Int} (hn : ∀ i q', i < L.length → L[i]? = some q' → q'.f ≠ p) : atI L p = -1 := by
 unfold atI
 have : L.findIdx? (fun q => q.f == p) = none := by
  rw [List.findIdx?_eq_none_iff]
  intro q hq
  obtain ⟨i, hi, rfl⟩ := List.getElem_of_mem hq
  have := hn i _ hi (List.getElem?_eq_getElem hi)
  simpa using this
 rw [this]
set_option maxRecDepth 100000 in
set_option maxHeartbeats 2000000 in
theorem Rat_any {q rp rb fp n a m : Nat} {s : Sr} {LA : Option Addr} {lc : Nat} {R : List (Option Addr × Nat)} {FS : List Nat} (p : Int) (w : World) (h : RStX w q rp rb fp n a m s LA lc R FS) (hN : s.L.length ≤ 256) :
  Calls Tryz.prog 99 #[.pointer (some ⟨q, 0, none⟩), .int .i64 p] w fun e w' => e = .returned (.int .i64 (atI s.L p)) ∧ Chg [] w w' := by
 have q2 := h.st.cell 2
 simp only [qA, qZ, qS] at q2
 have hpg := fun j hj => h.page (j := j) hj
 have hy := fun (j : Nat) (q' : Pg) => atI_yes (L := s.L) (p := p) (j := j) (q := q')
 have hno := atI_no (L := s.L) (p := p)
 clear h
 generalize atI s.L p = T at *
 generalize hLL : s.L = LL at *
 obtain ⟨N, hNN⟩ : ∃ N, LL.length = N := ⟨_, rfl⟩
 rw [hNN] at q2 hpg hno hN
 clear hNN hLL
 go_enter Tryz.func99, Tryz.ntmps99
 go_wp2_with fail
 go_loopw [5] (fun s5 wr => ∃ j : Nat, j ≤ N ∧ s5 = .int .i64 j ∧ w = wr ∧ ∀ i q', i < j → LL[i]? = some q' → q'.f ≠ p) (fun s5 _ => N - (intOf s5).toNat)
 case atStart => exact ⟨0, by omega, rfl, rfl, fun i _ hi => by omega⟩
 obtain ⟨j, hj, rfl, rfl, hn⟩ := hrel
 by_cases hlt : j < N
 ·have hjz : (j : Int) < (N : Int) := by omega
  obtain ⟨b, off, pg, r, rfl, hq, _, d0, _, _, _, _⟩ := hpg j hlt
  have hyj := hy j pg hq
  by_cases hf : pg.f = p
  ·have hfb : (pg.f == p) = true := by simpa using hf
   have hT := Lib.hid (hyj hf hn)
   clear hyj
   replace hf := Lib.hid hf
   go_wp2_with fail
   go_ret
   exact ⟨by rw [hT.out]; rfl, Chg.refl _ _⟩
  have hfb : (pg.f == p) = false := by simpa using hf
  have hn2 : ∀ i q', i < j + 1 → LL[i]? = some q' → q'.f ≠ p := fun i q' hi hq' => by
   by_cases e : i = j
   ·subst e; rw [hq] at hq'; cases hq'; exact hf
   exact hn i q' (by omega) hq'
  replace hf := Lib.hid hf
  clear hyj hq
  go_wp2_with fail
  go_roundw
  case rel => exact ⟨j + 1, by omega, by go_num, trivial, hn2⟩
  case measure => simp [intOf]; omega
 obtain rfl : j = N := by omega
 have hjz : ¬ (j : Int) < (j : Int) := by omega
 have hT := Lib.hid (hno hn)
 go_wp2_with fail
 go_ret
 exact ⟨by rw [hT.out]; rfl, Chg.refl _ _⟩
theorem atI_pg (L : List Pg) (p : Int) : (pgAt L p = none ∧ atI L p = -1) ∨ ∃ (j : Nat) (q : Pg), L[j]? = some q ∧ j < L.length ∧ pgAt L p = some q ∧ atI L p = (j : Int) := by
 unfold pgAt atI
 induction L with
 | nil => exact .inl ⟨rfl, rfl⟩
 | cons a L ih =>
  rw [List.find?_cons, List.findIdx?_cons]
  cases h : a.f == p with
  | true => exact .inr ⟨0, a, rfl, by simp, rfl, rfl⟩
  | false =>
   rcases ih with ⟨h1, h2⟩ | ⟨j, q, h1, hj, h2, h3⟩
   ·refine .inl ⟨h1, ?_⟩
    cases e : L.findIdx? (fun q => q.f == p) with
    | none => rfl
    | some i => rw [e] at h2; simp only at h2; omega
   refine .inr ⟨j + 1, q, h1, by simp; omega, h2, ?_⟩
   cases e : L.findIdx? (fun q => q.f == p) with
   | none => rw [e] at h3; simp only at h3; omega
   | some i => rw [e] at h3; simp only at h3; simp only [Bool.false_eq_true, if_false, Option.map_some]; omega
theorem new_put3 {w w1 w2 : World} {kb : Nat} {t : TypeId} {u0 u1 u2 : Value} (hkb : w.heap.size = kb) (y0 : Chg [] w w1) (y2 : Chg [] w1 w2) (bk : Blk w2 kb t #[u0, u1, u2]) (v0 v1 v2 : Value) :
  Blk (((w2.setCell ⟨kb, 0, none⟩ v0).setCell ⟨kb, 1, none⟩ v1).setCell ⟨kb, 2, none⟩ v2) kb t #[v0, v1, v2] ∧ Chg [] w (((w2.setCell ⟨kb, 0, none⟩ v0).setCell ⟨kb, 1, none⟩ v1).setCell ⟨kb, 2, none⟩ v2) := by
 refine ⟨by have := ((bk.set_ 0 v0).set_ 1 v1).set_ 2 v2; simpa using this, (y0.trans y2 (by simp)).trans ((((Chg.refl [kb] w2).setCell (p := ⟨kb, 0, none⟩) (by simp) v0).setCell (p := ⟨kb, 1, none⟩) (by simp) v1).setCell (p := ⟨kb, 2, none⟩) (by simp) v2) fun i hi hm => ?_⟩
 simp only [List.mem_singleton] at hm; omega
theorem new_put5 {w w1 w2 : World} {kb : Nat} {t : TypeId} {u0 u1 u2 u3 u4 : Value} (hkb : w.heap.size = kb) (y0 : Chg [] w w1) (y2 : Chg [] w1 w2) (bk : Blk w2 kb t #[u0, u1, u2, u3, u4]) (v0 v1 v2 v3 v4 : Value) :
  Blk (((((w2.setCell ⟨kb, 0, none⟩ v0).setCell ⟨kb, 1, none⟩ v1).setCell ⟨kb, 2, none⟩ v2).setCell ⟨kb, 3, none⟩ v3).setCell ⟨kb, 4, none⟩ v4) kb t #[v0, v1, v2, v3, v4] ∧ Chg [] w (((((w2.setCell ⟨kb, 0, none⟩ v0).setCell ⟨kb, 1, none⟩ v1).setCell ⟨kb, 2, none⟩ v2).setCell ⟨kb, 3, none⟩ v3).setCell ⟨kb, 4, none⟩ v4) := by
 refine ⟨by have := (((((bk.set_ 0 v0).set_ 1 v1).set_ 2 v2).set_ 3 v3).set_ 4 v4); simpa using this, (y0.trans y2 (by simp)).trans ((((((Chg.refl [kb] w2).setCell (p := ⟨kb, 0, none⟩) (by simp) v0).setCell (p := ⟨kb, 1, none⟩) (by simp) v1).setCell (p := ⟨kb, 2, none⟩) (by simp) v2).setCell (p := ⟨kb, 3, none⟩) (by simp) v3).setCell (p := ⟨kb, 4, none⟩) (by simp) v4) fun i hi hm => ?_⟩
 simp only [List.mem_singleton] at hm; omega
section
variable {q rp rb fp n a m : Nat} {s : Sr} {LA : Option Addr} {lc : Nat} {R : List (Option Addr × Nat)} {FS : List Nat}
set_option maxRecDepth 100000 in
set_option maxHeartbeats 1000000 in
theorem RKey_any (p : Int) (w : World) (h : RStX w q rp rb fp n a m s LA lc R FS) (hN : s.L.length ≤ 256) :
  Calls Tryz.prog 103 #[.pointer (some ⟨q, 0, none⟩), .int .i64 p] w fun e w' => e = .returned (.tuple #[.agg (keyV s.L p).cs, .bool (pgAt s.L p).isSome]) ∧ Chg [] w w' := by
 have y0 := (Chg.refl [] w).alloc (.cells #[.int .i64 0, .int .i64 0, .int .i64 0] 33)
 have bk0 := Blk.new w 33 #[.int .i64 0, .int .i64 0, .int .i64 0]
 replace h := h.new y0
 have hA := Rat_any p _ h hN
 unfold keyV
 rcases atI_pg s.L p with ⟨e1, e2⟩ | ⟨j, g, e1, hj, e2, e3⟩
 ·rw [e2] at hA
  rw [e1]
  clear h hN e1 e2
  simp only [Option.map_none, Option.getD_none, Option.isSome_none, Ky.cs]
  go_enter Tryz.func103, Tryz.ntmps103
  go_wp2_with fail
  refine hA.mono ?_; rintro e w2 ⟨rfl, y2⟩
  have bk := bk0.chg_ y2 (by simp)
  clear hA bk0
  generalize w.alloc (.cells #[.int .i64 0, .int .i64 0, .int .i64 0] 33) = w1 at *
  obtain ⟨kb, hkb⟩ : ∃ kb, w.heap.size = kb := ⟨_, rfl⟩
  rw [hkb] at bk ⊢
  obtain ⟨b3, y3⟩ := new_put3 hkb y0 y2 bk (.int .i64 0) (.int .i64 0) (.int .i64 0)
  replace hkb := Lib.hid hkb
  have x0 := bk.cell 0; have x1 := bk.cell 1; have x2 := bk.cell 2
  have f0 := bk.frozen 0; have f1 := bk.frozen 1; have f2 := bk.frozen 2
  simp only [qA, qZ, qS] at x0 x1 x2
  go_wp2_with fail
  exact bodyPost_ret (cellS_ret rfl b3 rfl rfl Tryz.underlying33 rfl (by kernel_rfl)) rfl ⟨rfl, y3⟩
 rw [e3] at hA
 rw [e2]
 have hjz : ¬ (j : Int) < 0 := by omega
 have hjl : (j : Int) < (s.L.length : Int) := by omega
 simp only [Option.map_some, Option.getD_some, Option.isSome_some, Ky.cs]
 go_enter Tryz.func103, Tryz.ntmps103
 go_wp2_with fail
 refine hA.mono ?_; rintro e w2 ⟨rfl, y2⟩
 replace h := h.new y2
 have q2 := h.st.cell 2
 simp only [qA, qZ, qS] at q2
 obtain ⟨b, off, g', r, rfl, hq, _, _, d1, d2, d3, _⟩ := h.page hj
 rw [e1] at hq; cases hq
 clear h hN e1 e2 e3
 have bk := bk0.chg_ y2 (by simp)
 clear hA bk0
 generalize w.alloc (.cells #[.int .i64 0, .int .i64 0, .int .i64 0] 33) = w1 at *
 obtain ⟨kb, hkb⟩ : ∃ kb, w.heap.size = kb := ⟨_, rfl⟩
 rw [hkb] at bk ⊢
 obtain ⟨b3, y3⟩ := new_put3 hkb y0 y2 bk (.int .i64 g.k.g) (.int .i64 g.k.lev) (.int .i64 g.k.role)
 replace hkb := Lib.hid hkb
 have x0 := bk.cell 0; have x1 := bk.cell 1; have x2 := bk.cell 2
 have f0 := bk.frozen 0; have f1 := bk.frozen 1; have f2 := bk.frozen 2
 simp only [qA, qZ, qS] at x0 x1 x2
 go_wp2_with fail
 exact bodyPost_ret (cellS_ret rfl b3 rfl rfl Tryz.underlying33 rfl (by kernel_rfl)) rfl ⟨rfl, y3⟩
set_option maxRecDepth 100000 in
set_option maxHeartbeats 2000000 in
theorem RSlot_any (p i : Int) (w : World) (h : RStX w q rp rb fp n a m s LA lc R FS) (hN : s.L.length ≤ 256) (h8 : ∀ g ∈ s.L, g.s.length = 8) :
  Calls Tryz.prog 75 #[.pointer (some ⟨q, 0, none⟩), .int .i64 p, .int .i64 i] w fun e w' => e = .returned (.tuple #[.agg (slotV s.L p i).cl.toArray, .bool (slotP s.L p i).isSome]) ∧ Chg [] w w' := by
 have y0 := (Chg.refl [] w).alloc (.cells #[.int .i64 0, .int .i64 0, .bool false, .bool false, .bool false] 72)
 have bk0 := Blk.new w 72 #[.int .i64 0, .int .i64 0, .bool false, .bool false, .bool false]
 replace h := h.new y0
 have hA := Rat_any p _ h hN
 unfold slotV slotP
 by_cases hi : 0 ≤ i ∧ i ≤ 7
 ·rw [if_pos hi]
  have i1 : decide (i < 0) = false := decide_eq_false (by omega)
  have i2 : decide (i > 7) = false := decide_eq_false (by omega)
  rcases atI_pg s.L p with ⟨e1, e2⟩ | ⟨j, g, e1, hj, e2, e3⟩
  ·rw [e2] at hA
   rw [e1]
   clear h hN e1 e2 h8
   simp only [Option.bind_none, Option.getD_none, Option.isSome_none, Slt.cl, Slt.no]
   go_enter Tryz.func75, Tryz.ntmps75
   go_wp2_with fail
   refine hA.mono ?_; rintro e w2 ⟨rfl, y2⟩
   have bk := bk0.chg_ y2 (by simp)
   clear hA bk0
   generalize w.alloc (.cells #[.int .i64 0, .int .i64 0, .bool false, .bool false, .bool false] 72) = w1 at *
   obtain ⟨kb, hkb⟩ : ∃ kb, w.heap.size = kb := ⟨_, rfl⟩
   rw [hkb] at bk ⊢
   obtain ⟨b3, y3⟩ := new_put5 hkb y0 y2 bk (.int .i64 0) (.int .i64 0) (.bool false) (.bool false) (.bool false)
   replace hkb := Lib.hid hkb
   have x0 := bk.cell 0; have x1 := bk.cell 1; have x2 := bk.cell 2; have x3 := bk.cell 3; have x4 := bk.cell 4
   have f0 := bk.frozen 0; have f1 := bk.frozen 1; have f2 := bk.frozen 2; have f3 := bk.frozen 3; have f4 := bk.frozen 4
   simp only [qA, qZ, qS] at x0 x1 x2 x3 x4
   go_wp2_with fail
   exact bodyPost_ret (cellS_ret rfl b3 rfl rfl Tryz.underlying72 rfl (by kernel_rfl)) rfl ⟨rfl, y3⟩
  rw [e3] at hA
  rw [e2, Option.bind_some]
  have hjz : ¬ (j : Int) < 0 := by omega
  have hjb : decide ((j : Int) < 0) = false := decide_eq_false hjz
  have hjl : (j : Int) < (s.L.length : Int) := by omega
  obtain ⟨I, rfl⟩ := Int.eq_ofNat_of_zero_le hi.1
  have hI8 : I < 8 := by omega
  have hIz : (I : Int) < 8 := by omega
  have hgl := h8 g (List.mem_of_getElem? e1)
  rw [Int.toNat_natCast, List.getElem?_eq_getElem (show I < g.s.length by omega)]
  have hx := List.getElem?_eq_getElem (show I < g.s.length by omega)
  generalize g.s[I] = x at *
  obtain ⟨kd, t_, ⟨rw_, ru, rx⟩⟩ := x
  simp only [Option.getD_some, Option.isSome_some, Slt.cl]
  go_enter Tryz.func75, Tryz.ntmps75
  go_wp2_with fail
  refine hA.mono ?_; rintro e w2 ⟨rfl, y2⟩
  replace h := h.new y2
  have q2 := h.st.cell 2
  simp only [qA, qZ, qS] at q2
  obtain ⟨b, off, g', r, rfl, hq, hr, _, _, _, _, d4⟩ := h.page hj
  have hs := h.hs j g' r hq hr
  rw [e1] at hq; cases hq
  obtain ⟨rA, rc⟩ := r
  obtain ⟨b8, o8, x8, hrA, _, hx8, hc8⟩ := hs.slg.get hI8
  simp only at hrA d4
  subst hrA
  rw [hx] at hx8; cases hx8
  obtain ⟨s0, s1, s2, s3, s4⟩ := sltAt5 hc8
  simp only [show sltE.k = 5 from rfl] at s0 s1 s2 s3 s4
  clear h hN e1 e2 e3 hs hc8 hx hgl h8 hr
  have bk := bk0.chg_ y2 (by simp)
  clear hA bk0
  generalize w.alloc (.cells #[.int .i64 0, .int .i64 0, .bool false, .bool false, .bool false] 72) = w1 at *
  obtain ⟨kb, hkb⟩ : ∃ kb, w.heap.size = kb := ⟨_, rfl⟩
  rw [hkb] at bk ⊢
  obtain ⟨b3, y3⟩ := new_put5 hkb y0 y2 bk (.int .i64 kd) (.int .i64 t_) (.bool rw_) (.bool ru) (.bool rx)
  replace hkb := Lib.hid hkb
  have x0 := bk.cell 0; have x1 := bk.cell 1; have x2 := bk.cell 2; have x3 := bk.cell 3; have x4 := bk.cell 4
  have f0 := bk.frozen 0; have f1 := bk.frozen 1; have f2 := bk.frozen 2; have f3 := bk.frozen 3; have f4 := bk.frozen 4
  simp only [qA, qZ, qS] at x0 x1 x2 x3 x4
  go_wp2_with fail
  exact bodyPost_ret (cellS_ret rfl b3 rfl rfl Tryz.underlying72 rfl (by kernel_rfl)) rfl ⟨rfl, y3⟩
 rw [if_neg hi]
 clear h8
 have hbad : ∃ j : Int, atI s.L p = j ∧ -1 ≤ j := by
  rcases atI_pg s.L p with ⟨_, e2⟩ | ⟨j, _, _, _, _, e3⟩
  ·exact ⟨-1, e2, by omega⟩
  exact ⟨j, e3, by omega⟩
 obtain ⟨J, hJ, hJ1⟩ := hbad
 rw [hJ] at hA
 clear h hN hJ
 simp only [Option.getD_none, Option.isSome_none, Slt.cl, Slt.no]
 cases j0 : decide (J < 0) <;> cases i1 : decide (i < 0) <;> cases i2 : decide (i > 7)
 all_goals try (exfalso; simp at i1 i2; omega)
 ·skip
  go_enter Tryz.func75, Tryz.ntmps75
  go_wp2_with fail
  refine hA.mono ?_; rintro e w2 ⟨rfl, y2⟩
  have bk := bk0.chg_ y2 (by simp)
  clear hA bk0
  generalize w.alloc (.cells #[.int .i64 0, .int .i64 0, .bool false, .bool false, .bool false] 72) = w1 at *
  obtain ⟨kb, hkb⟩ : ∃ kb, w.heap.size = kb := ⟨_, rfl⟩
  rw [hkb] at bk ⊢
  obtain ⟨b3, y3⟩ := new_put5 hkb y0 y2 bk (.int .i64 0) (.int .i64 0) (.bool false) (.bool false) (.bool false)
  replace hkb := Lib.hid hkb
  have x0 := bk.cell 0; have x1 := bk.cell 1; have x2 := bk.cell 2; have x3 := bk.cell 3; have x4 := bk.cell 4
  have f0 := bk.frozen 0; have f1 := bk.frozen 1; have f2 := bk.frozen 2; have f3 := bk.frozen 3; have f4 := bk.frozen 4
  simp only [qA, qZ, qS] at x0 x1 x2 x3 x4
  go_wp2_with fail
  exact bodyPost_ret (cellS_ret rfl b3 rfl rfl Tryz.underlying72 rfl (by kernel_rfl)) rfl ⟨rfl, y3⟩
 ·skip
  go_enter Tryz.func75, Tryz.ntmps75
  go_wp2_with fail
  refine hA.mono ?_; rintro e w2 ⟨rfl, y2⟩
  have bk := bk0.chg_ y2 (by simp)
  clear hA bk0
  generalize w.alloc (.cells #[.int .i64 0, .int .i64 0, .bool false, .bool false, .bool false] 72) = w1 at *
  obtain ⟨kb, hkb⟩ : ∃ kb, w.heap.size = kb := ⟨_, rfl⟩
  rw [hkb] at bk ⊢
  obtain ⟨b3, y3⟩ := new_put5 hkb y0 y2 bk (.int .i64 0) (.int .i64 0) (.bool false) (.bool false) (.bool false)
  replace hkb := Lib.hid hkb
  have x0 := bk.cell 0; have x1 := bk.cell 1; have x2 := bk.cell 2; have x3 := bk.cell 3; have x4 := bk.cell 4
  have f0 := bk.frozen 0; have f1 := bk.frozen 1; have f2 := bk.frozen 2; have f3 := bk.frozen 3; have f4 := bk.frozen 4
  simp only [qA, qZ, qS] at x0 x1 x2 x3 x4
  go_wp2_with fail
  exact bodyPost_ret (cellS_ret rfl b3 rfl rfl Tryz.underlying72 rfl (by kernel_rfl)) rfl ⟨rfl, y3⟩
 ·skip
  go_enter Tryz.func75, Tryz.ntmps75
  go_wp2_with fail
  refine hA.mono ?_; rintro e w2 ⟨rfl, y2⟩
  have bk := bk0.chg_ y2 (by simp)
  clear hA bk0
  generalize w.alloc (.cells #[.int .i64 0, .int .i64 0, .bool false, .bool false, .bool false] 72) = w1 at *
  obtain ⟨kb, hkb⟩ : ∃ kb, w.heap.size = kb := ⟨_, rfl⟩
  rw [hkb] at bk ⊢
  obtain ⟨b3, y3⟩ := new_put5 hkb y0 y2 bk (.int .i64 0) (.int .i64 0) (.bool false) (.bool false) (.bool false)
  replace hkb := Lib.hid hkb
  have x0 := bk.cell 0; have x1 := bk.cell 1; have x2 := bk.cell 2; have x3 := bk.cell 3; have x4 := bk.cell 4
  have f0 := bk.frozen 0; have f1 := bk.frozen 1; have f2 := bk.frozen 2; have f3 := bk.frozen 3; have f4 := bk.frozen 4
  simp only [qA, qZ, qS] at x0 x1 x2 x3 x4
  go_wp2_with fail
  exact bodyPost_ret (cellS_ret rfl b3 rfl rfl Tryz.underlying72 rfl (by kernel_rfl)) rfl ⟨rfl, y3⟩
 skip
 go_enter Tryz.func75, Tryz.ntmps75
 go_wp2_with fail
 refine hA.mono ?_; rintro e w2 ⟨rfl, y2⟩
 have bk := bk0.chg_ y2 (by simp)
 clear hA bk0
 generalize w.alloc (.cells #[.int .i64 0, .int .i64 0, .bool false, .bool false, .bool false] 72) = w1 at *
 obtain ⟨kb, hkb⟩ : ∃ kb, w.heap.size = kb := ⟨_, rfl⟩
 rw [hkb] at bk ⊢
 obtain ⟨b3, y3⟩ := new_put5 hkb y0 y2 bk (.int .i64 0) (.int .i64 0) (.bool false) (.bool false) (.bool false)
 replace hkb := Lib.hid hkb
 have x0 := bk.cell 0; have x1 := bk.cell 1; have x2 := bk.cell 2; have x3 := bk.cell 3; have x4 := bk.cell 4
 have f0 := bk.frozen 0; have f1 := bk.frozen 1; have f2 := bk.frozen 2; have f3 := bk.frozen 3; have f4 := bk.frozen 4
 simp only [qA, qZ, qS] at x0 x1 x2 x3 x4
 go_wp2_with fail
 exact bodyPost_ret (cellS_ret rfl b3 rfl rfl Tryz.underlying72 rfl (by kernel_rfl)) rfl ⟨rfl, y3⟩
end
theorem pgOf_yes {L : List Pg} {k : Ky} {j : Nat} {q : Pg} (hq : L[j]? = some q) (hf : q.k = k) (hn : ∀ i q', i < j → L[i]? = some q' → q'.k ≠ k) : pgOf L k = some q := by
 unfold pgOf
 obtain ⟨hj, e⟩ := List.getElem?_eq_some_iff.1 hq
 rw [List.find?_eq_some_iff_getElem]
 refine ⟨by simpa using hf, j, hj, e, fun i hi => ?_⟩
 have := hn i _ hi (List.getElem?_eq_getElem (by omega))
 simpa using this
theorem pgOf_noR {L : List Pg} {k : Ky} (hn : ∀ i q', i < L.length → L[i]? = some q' → q'.k ≠ k) : pgOf L k = none := by
 rw [pgOf_none]
 intro q hq
 obtain ⟨i, hi, rfl⟩ := List.getElem_of_mem hq
 exact hn i _ hi (List.getElem?_eq_getElem hi)
section
variable {q rp rb fp n a m : Nat} {s : Sr} {LA : Option Addr} {lc : Nat} {R : List (Option Addr × Nat)} {FS : List Nat}
set_option maxRecDepth 100000 in
set_option maxHeartbeats 2000000 in
theorem RFind_any (k : Ky) (w : World) (h0 : RStX w q rp rb fp n a m s LA lc R FS) (hN : s.L.length ≤ 256) :
  Calls Tryz.prog 74 #[.pointer (some ⟨q, 0, none⟩), .agg k.cs] w fun e w' => e = .returned (.tuple #[.int .i64 (findV s.L k), .bool (pgOf s.L k).isSome]) ∧ Chg [] w w' := by
 have y0 := (Chg.refl [] w).alloc (.cells k.cs 33)
 have bk0 := Blk.new w 33 k.cs
 have h := h0.new y0
 clear h0
 unfold findV
 have hy := fun (j : Nat) (q' : Pg) => pgOf_yes (L := s.L) (k := k) (j := j) (q := q')
 have hno := pgOf_noR (L := s.L) (k := k)
 have hrun := fun b => run_eqKy b k
 obtain ⟨kg, kl, kr⟩ := k
 simp only [Ky.cs] at y0 bk0 h hrun ⊢
 generalize pgOf s.L ⟨kg, kl, kr⟩ = T at *
 go_enter Tryz.func74, Tryz.ntmps74
 go_wp2_with fail
 generalize w.alloc (.cells #[.int .i64 kg, .int .i64 kl, .int .i64 kr] 33) = w1 at *
 generalize w.heap.size = kb at *
 go_loopw [6] (fun s6 wr => ∃ j : Nat, j ≤ s.L.length ∧ s6 = .int .i64 j ∧ Chg [] w wr ∧ Blk wr kb 33 #[.int .i64 kg, .int .i64 kl, .int .i64 kr] ∧ RStX wr q rp rb fp n a m s LA lc R FS ∧ ∀ i q', i < j → s.L[i]? = some q' → q'.k ≠ ⟨kg, kl, kr⟩) (fun s6 _ => s.L.length - (intOf s6).toNat)
 case atStart => exact ⟨0, by omega, rfl, y0, bk0, h, fun i _ hi => by omega⟩
 obtain ⟨j, hj, rfl, y, bk, hr, hn⟩ := hrel
 clear h y0 bk0
 have q2 := hr.st.cell 2
 simp only [qA, qZ, qS] at q2
 have x0 := bk.cell 0; have x1 := bk.cell 1; have x2 := bk.cell 2
 simp only [qA, qZ, qS] at x0 x1 x2
 by_cases hlt : j < s.L.length
 ·have hjz : (j : Int) < (s.L.length : Int) := by omega
  obtain ⟨b, off, pg, r, rfl, hq, _, d0, d1, d2, d3, _⟩ := hr.page hlt
  have hru := hrun pg.k
  have hyj := hy j pg hq
  by_cases hf : pg.k = ⟨kg, kl, kr⟩
  ·have hT := Lib.hid (hyj hf hn)
   rw [decide_eq_true hf] at hru
   replace hf := Lib.hid hf
   clear hyj hno hy hrun
   go_wp2_with fail
   go_region
   have q2 := (hr.st.drew).cell 2
   simp only [qA, qZ, qS] at q2
   go_wp2_with fail
   go_ret2
   exact ⟨by rw [hT.out]; rfl, y.drew⟩
  have hn2 : ∀ i q', i < j + 1 → s.L[i]? = some q' → q'.k ≠ ⟨kg, kl, kr⟩ := fun i q' hi hq' => by
   by_cases e : i = j
   ·subst e; rw [hq] at hq'; cases hq'; exact hf
   exact hn i q' (by omega) hq'
  rw [decide_eq_false hf] at hru
  replace hf := Lib.hid hf
  clear hyj hq hno hy hrun
  go_wp2_with fail
  go_region
  go_wp2_with fail
  go_roundw
  case rel => exact ⟨j + 1, by omega, by go_num, y.drew, bk.drew, hr.new (Chg.refl [] wr).drew, hn2⟩
  case measure => simp [intOf]; omega
 obtain rfl : j = s.L.length := by omega
 have hjz : ¬ (s.L.length : Int) < (s.L.length : Int) := by omega
 have hT := Lib.hid (hno hn)
 clear hno hy hrun
 go_wp2_with fail
 go_ret2
 exact ⟨by rw [hT.out]; rfl, y⟩
end
theorem Int_info : ((Tryz.prog.info? 3).map (fun i => (i.zero, i.size, i.bytes))) = some (some (.int .i64 0), 1, 8) := by kernel_rfl
section
variable {q rp rb fp n a m : Nat} {s : Sr} {LA : Option Addr} {lc : Nat} {R : List (Option Addr × Nat)} {FS : List Nat}
set_option maxRecDepth 100000 in
set_option maxHeartbeats 2000000 in
theorem RAll14_any (w : World) (h : RStX w q rp rb fp n a m s LA lc R FS) (hN : s.L.length ≤ 256) :
  Calls Tryz.prog 21 #[.pointer (some ⟨q, 0, none⟩)] w (NumP (s.L.map Pg.f) w) := by
 obtain ⟨F, hF⟩ : ∃ F, s.L.map Pg.f = F := ⟨_, rfl⟩
 have hFl : F.length = s.L.length := by rw [← hF, List.length_map]
 have hFj : ∀ (j : Nat) (p : Pg), s.L[j]? = some p → F[j]? = some p.f := fun j p e => by rw [← hF, List.getElem?_map, e]; rfl
 rw [hF]
 clear hF
 replace hFl := Lib.hid hFl
 go_enter Tryz.func21, Tryz.ntmps21
 go_wp2_with fail
 go_loopw [3, 4] (fun s3 s4 wr => ∃ (j : Nat) (A : Option Addr) (c : Nat), j ≤ s.L.length ∧ s4 = .int .i64 j ∧ s3 = .slice A j c ∧ LG (numE .i64) w wr 3 (.slice A j c) (F.take j)) (fun _ s4 _ => s.L.length - (intOf s4).toNat)
 case atStart => exact ⟨0, none, 0, by omega, rfl, rfl, by simpa using LG.none_ w 3⟩
 obtain ⟨j, A, c, hj, rfl, rfl, lg⟩ := hrel
 have hr := h.new lg.1
 have q2 := hr.st.cell 2
 simp only [qA, qZ, qS] at q2
 by_cases hlt : j < s.L.length
 ·have hjz : (j : Int) < (s.L.length : Int) := by omega
  obtain ⟨b, off, pg, r, rfl, hq, _, d0, _, _, _, _⟩ := hr.page hlt
  have htk : Hid (F.take (j + 1) = F.take j ++ [pg.f]) := Lib.hid (by rw [List.take_add_one, hFj j pg hq]; rfl)
  have hjl : (F.take j).length = j := by rw [List.length_take, hFl.out]; omega
  have hjl2 : (F.take (j + 1)).length = j + 1 := by rw [List.length_take, hFl.out]; omega
  replace hjl2 := Lib.hid hjl2
  clear hr hq
  generalize pg.f = pf at *
  have k4 := ((Chg.refl [] wr).alloc (.cells #[.int .i64 pf] 3))
  have lg4 := lg.new k4
  have hsrc4 : Src (wr.alloc (.cells #[.int .i64 pf] 3)) (numE .i64).k (some ⟨wr.heap.size, 0, none⟩) 1 1 ((numE .i64).all [pf]) := (OwnG.lit (E := numE .i64) (L := [pf]) (Blk.new wr 3 #[.int .i64 pf]) (by simp)).src
  replace hjl := Lib.hid hjl
  go_wp2_with (at_builtin; (refine wpList_append_G (E := numE .i64) rfl _ _ 56 rfl 3 (.int .i64 0) 8 Tryz.underlying56 Int_info rfl (.slice A j c) (F.take j) rfl lg4.2.1 (some ⟨wr.heap.size, 0, none⟩) 1 1 [pf] rfl hsrc4 rfl (by rw [hjl.out]; omega) ?_); (intro v5 w5 ho5 hc5 hb5); (have lg5 := lg4.app ho5 hc5 hb5); (obtain ⟨A5, c5, rfl, _, _⟩ := ho5.form); (rw [← htk.out, hjl2.out] at lg5); (rw [← htk.out, hjl2.out]))
  go_roundw
  case rel => exact ⟨j + 1, A5, c5, by omega, by go_num, rfl, lg5⟩
  case measure => simp [intOf]; omega
 obtain rfl : j = s.L.length := by omega
 have hjz : ¬ (s.L.length : Int) < (s.L.length : Int) := by omega
 rw [List.take_of_length_le (Nat.le_of_eq hFl.out)] at lg
 go_wp2_with fail
 go_ret
 exact ⟨A, c, by rw [hFl.out]; rfl, by rw [hFl.out]; exact lg.2.1, by rw [hFl.out]; exact lg.2.2, lg.1⟩
end
section
variable {q rp rb fp n a m : Nat} {s : Sr} {LA : Option Addr} {lc : Nat} {R : List (Option Addr × Nat)} {FS : List Nat}
set_option maxRecDepth 100000 in
set_option maxHeartbeats 2000000 in
theorem ROf14_any (g : Int) (w : World) (h : RStX w q rp rb fp n a m s LA lc R FS) (hN : s.L.length ≤ 256) :
  Calls Tryz.prog 64 #[.pointer (some ⟨q, 0, none⟩), .int .i64 g] w (NumP (ofP s.L g) w) := by
 obtain ⟨K, hK0, hKe, hKl, hKs⟩ : ∃ K : Nat → List Int, K 0 = [] ∧ K s.L.length = ofP s.L g ∧ (∀ j, (K j).length ≤ 256) ∧ ∀ (j : Nat) (p : Pg), s.L[j]? = some p → K (j + 1) = K j ++ if p.k.role = 0 ∧ p.k.g = g then [p.f] else [] := by
  refine ⟨fun j => ofP (s.L.take j) g, rfl, by simp only [List.take_length], fun j => ?_, fun j p hp => ?_⟩
  ·have := ofP_len (s.L.take j) g; rw [List.length_take] at this; show (ofP (s.L.take j) g).length ≤ 256; omega
  show ofP (s.L.take (j + 1)) g = ofP (s.L.take j) g ++ _
  rw [List.take_add_one, hp]
  unfold ofP
  rw [List.filter_append, List.map_append]
  congr 1
  by_cases hc : p.k.role = 0 ∧ p.k.g = g
  ·rw [if_pos hc]; simp [hc]
  rw [if_neg hc]; simp [hc]
 replace hK0 := Lib.hid hK0; replace hKe := Lib.hid hKe
 go_enter Tryz.func64, Tryz.ntmps64
 go_wp2_with fail
 go_loopw [5, 6] (fun s5 s6 wr => ∃ (j : Nat) (A : Option Addr) (c : Nat), j ≤ s.L.length ∧ s6 = .int .i64 j ∧ s5 = .slice A (K j).length c ∧ LG (numE .i64) w wr 3 (.slice A (K j).length c) (K j)) (fun _ s6 _ => s.L.length - (intOf s6).toNat)
 case atStart => exact ⟨0, none, 0, by omega, rfl, by rw [hK0.out]; rfl, by rw [hK0.out]; exact LG.none_ w 3⟩
 obtain ⟨j, A, c, hj, rfl, rfl, lg⟩ := hrel
 have hr := h.new lg.1
 have q2 := hr.st.cell 2
 simp only [qA, qZ, qS] at q2
 by_cases hlt : j < s.L.length
 ·have hjz : (j : Int) < (s.L.length : Int) := by omega
  obtain ⟨b, off, pg, r, rfl, hq, _, d0, d1, d2, d3, _⟩ := hr.page hlt
  have hs := hKs j pg hq
  have hjl := hKl j
  clear hr hq hKs
  obtain ⟨pf, ⟨kg, kl, kr⟩, ps⟩ := pg
  simp only at d0 d1 d2 d3 hs
  by_cases h1 : kr = 0
  ·by_cases h2 : kg = g
   ·rw [if_pos ⟨h1, h2⟩] at hs
    have b1 : (kr == 0) = true := by simpa using h1
    have b2 : (kg == g) = true := by simpa using h2
    replace h1 := Lib.hid h1; replace h2 := Lib.hid h2; replace hs := Lib.hid hs
    have k4 := ((Chg.refl [] wr).alloc (.cells #[.int .i64 pf] 3))
    have lg4 := lg.new k4
    have hsrc4 : Src (wr.alloc (.cells #[.int .i64 pf] 3)) (numE .i64).k (some ⟨wr.heap.size, 0, none⟩) 1 1 ((numE .i64).all [pf]) := (OwnG.lit (E := numE .i64) (L := [pf]) (Blk.new wr 3 #[.int .i64 pf]) (by simp)).src
    go_wp2_with (at_builtin; (refine wpList_append_G (E := numE .i64) rfl _ _ 56 rfl 3 (.int .i64 0) 8 Tryz.underlying56 Int_info rfl (.slice A (K j).length c) (K j) rfl lg4.2.1 (some ⟨wr.heap.size, 0, none⟩) 1 1 [pf] rfl hsrc4 rfl (by omega) ?_); (intro v5 w5 ho5 hc5 hb5); (have lg5 := lg4.app ho5 hc5 hb5); (obtain ⟨A5, c5, rfl, _, _⟩ := ho5.form); (rw [← hs.out] at lg5); (rw [← hs.out]))
    go_roundw
    case rel => exact ⟨j + 1, A5, c5, by omega, by go_num, rfl, lg5⟩
    case measure => simp [intOf]; omega
   rw [if_neg (fun e => h2 e.2), List.append_nil] at hs
   have b1 : (kr == 0) = true := by simpa using h1
   have b2 : (kg == g) = false := by simpa using h2
   replace h1 := Lib.hid h1; replace h2 := Lib.hid h2; replace hs := Lib.hid hs
   go_wp2_with fail
   go_roundw
   case rel => exact ⟨j + 1, A, c, by omega, by go_num, by rw [hs.out], by rw [hs.out]; exact lg⟩
   case measure => simp [intOf]; omega
  rw [if_neg (fun e => h1 e.1), List.append_nil] at hs
  have b1 : (kr == 0) = false := by simpa using h1
  replace h1 := Lib.hid h1; replace hs := Lib.hid hs
  go_wp2_with fail
  go_roundw
  case rel => exact ⟨j + 1, A, c, by omega, by go_num, by rw [hs.out], by rw [hs.out]; exact lg⟩
  case measure => simp [intOf]; omega
 obtain rfl : j = s.L.length := by omega
 have hjz : ¬ (s.L.length : Int) < (s.L.length : Int) := by omega
 go_wp2_with fail
 go_ret
 rw [hKe.out] at lg
 exact ⟨A, c, by rw [hKe.out]; rfl, lg.2.1, lg.2.2, lg.1⟩
end
section
variable {q rp rb fp n a m : Nat} {s : Sr} {LA : Option Addr} {lc : Nat} {R : List (Option Addr × Nat)} {FS : List Nat}
set_option maxRecDepth 100000 in
set_option maxHeartbeats 4000000 in
theorem Rtold_any (kind to_ : Int) (w : World) (h : RStX w q rp rb fp n a m s LA lc R FS) (hok : SrOk n a m s) :
  Calls Tryz.prog 137 #[.pointer (some ⟨q, 0, none⟩), .int .i64 kind, .int .i64 to_] w (LnkP (toldP kind to_ s.L) w) := by
 obtain ⟨K, hK0, hKe, hKl, hKs⟩ := hok.lnkN kind to_
 have hN := hok.le256
 have h8 := fun j i (hi : i < 8) q_ (hq : s.L[j]? = some q_) => hok.slotAt (j := j) hi hq
 clear hok
 replace hK0 := Lib.hid hK0; replace hKe := Lib.hid hKe; replace hKs := Lib.hid hKs
 go_enter Tryz.func137, Tryz.ntmps137
 go_wp2_with fail
 go_loopw [7, 8] (fun s7 s8 wr => ∃ (j : Nat) (A : Option Addr) (c : Nat), j ≤ s.L.length ∧ s8 = .int .i64 j ∧ s7 = .slice A (K (8 * j)).length c ∧ LG atE w wr 153 (.slice A (K (8 * j)).length c) (K (8 * j))) (fun _ s8 _ => s.L.length - (intOf s8).toNat)
 case atStart => exact ⟨0, none, 0, by omega, rfl, by rw [Nat.mul_zero, hK0.out]; rfl, by rw [Nat.mul_zero, hK0.out]; exact LG.none_ w _⟩
 obtain ⟨j, A, c, hj, rfl, rfl, lg⟩ := hrel
 have hr0 := h.new lg.1
 have q2 := hr0.st.cell 2
 simp only [qA, qZ, qS] at q2
 by_cases hlt : j < s.L.length
 ·have hjz : (j : Int) < (s.L.length : Int) := by omega
  obtain ⟨b, off, pg0, r0, rfl, hq0, _⟩ := hr0.page hlt
  clear hr0
  go_wp2_with fail
  clear q2
  go_loopw [7, 9] (fun s7 s9 wr => ∃ (i : Nat) (A : Option Addr) (c : Nat), i ≤ 8 ∧ s9 = .int .i64 i ∧ s7 = .slice A (K (8 * j + i)).length c ∧ LG atE w wr 153 (.slice A (K (8 * j + i)).length c) (K (8 * j + i))) (fun _ s9 _ => 8 - (intOf s9).toNat)
  case atStart => exact ⟨0, A, c, by omega, rfl, rfl, lg⟩
  obtain ⟨i, A, c, hi, rfl, rfl, lg2⟩ := hrel
  clear lg
  have hr := h.new lg2.1
  by_cases hi8 : i < 8
  ·have hiz : (i : Int) < 8 := by omega
   have q2 := hr.st.cell 2
   simp only [qA, qZ, qS] at q2
   obtain ⟨b', off', pg, ⟨rA, rc⟩, e, hq, hrr, d0, _, _, _, d4⟩ := hr.page hlt
   cases e
   obtain ⟨x, hx, _⟩ := h8 j i hi8 pg hq
   have hs := hKs.out j i pg x hq hi8 hx
   have hss := hr.hs j pg (rA, rc) hq hrr
   obtain ⟨b8, o8, x8, hrA, _, hx8, hc8⟩ := hss.slg.get hi8
   simp only at hrA d4
   subst hrA
   rw [hx] at hx8; cases hx8
   obtain ⟨t0, t1, _, _, _⟩ := sltAt5 hc8
   simp only [show sltE.k = 5 from rfl] at t0 t1
   have hjl := hKl (8 * j + i)
   clear hr hq hrr hx hss hc8 hq0
   generalize pg.f = pf at *
   obtain ⟨kd, tt, ⟨rw_, ru, rx⟩⟩ := x
   simp only at t0 t1 hs
   by_cases h1 : kd = kind
   ·by_cases h2 : tt = to_
    ·rw [if_pos ⟨h1, h2⟩] at hs
     have b1 : (kd == kind) = true := by simpa using h1
     have b2 : (tt == to_) = true := by simpa using h2
     replace h1 := Lib.hid h1; replace h2 := Lib.hid h2; replace hs := Lib.hid hs
     have k4 := ((Chg.refl [] wr).alloc (.cells #[.int .i64 pf, .int .i64 i] 153))
     have lg4 := lg2.new k4
     have hsrc4 : Src (wr.alloc (.cells #[.int .i64 pf, .int .i64 i] 153)) atE.k (some ⟨wr.heap.size, 0, none⟩) 1 1 (atE.all [(pf, (i : Int))]) := (OwnG.lit (E := atE) (L := [(pf, (i : Int))]) (Blk.new wr 153 #[.int .i64 pf, .int .i64 i]) (by simp)).src
     go_wp2_with (at_builtin; (refine wpList_append_G (E := atE) rfl _ _ 150 rfl 153 (.agg #[.int .i64 0, .int .i64 0]) 16 Tryz.underlying150 At_info rfl (.slice A (K (8 * j + i)).length c) (K (8 * j + i)) rfl lg4.2.1 (some ⟨wr.heap.size, 0, none⟩) 1 1 [(pf, (i : Int))] rfl hsrc4 rfl (by omega) ?_); (intro v5 w5 ho5 hc5 hb5); (have lg5 := lg4.app ho5 hc5 hb5); (obtain ⟨A5, c5, rfl, _, _⟩ := ho5.form); (rw [← hs.out] at lg5); (rw [← hs.out]))
     go_roundw
     case rel => exact ⟨i + 1, A5, c5, by omega, by go_num, rfl, lg5⟩
     case measure => simp [intOf]; omega
    rw [if_neg (fun e => h2 e.2), List.append_nil] at hs
    have b1 : (kd == kind) = true := by simpa using h1
    have b2 : (tt == to_) = false := by simpa using h2
    replace h1 := Lib.hid h1; replace h2 := Lib.hid h2; replace hs := Lib.hid hs
    go_wp2_with fail
    go_roundw
    case rel => exact ⟨i + 1, A, c, by omega, by go_num, by rw [← Nat.add_assoc, hs.out], by rw [← Nat.add_assoc, hs.out]; exact lg2⟩
    case measure => simp [intOf]; omega
   rw [if_neg (fun e => h1 e.1), List.append_nil] at hs
   have b1 : (kd == kind) = false := by simpa using h1
   replace h1 := Lib.hid h1; replace hs := Lib.hid hs
   go_wp2_with fail
   go_roundw
   case rel => exact ⟨i + 1, A, c, by omega, by go_num, by rw [← Nat.add_assoc, hs.out], by rw [← Nat.add_assoc, hs.out]; exact lg2⟩
   case measure => simp [intOf]; omega
  obtain rfl : i = 8 := by omega
  have hiz : ¬ (8 : Int) < 8 := by omega
  go_wp2_with fail
  go_roundw
  case rel => exact ⟨j + 1, A, c, by omega, by go_num, rfl, lg2⟩
  case measure => simp [intOf]; omega
 obtain rfl : j = s.L.length := by omega
 have hjz : ¬ (s.L.length : Int) < (s.L.length : Int) := by omega
 go_wp2_with fail
 go_ret
 rw [hKe.out] at lg
 exact ⟨A, c, by rw [hKe.out]; rfl, lg.2.1, lg.2.2, lg.1⟩
end
set_option maxHeartbeats 400000 in
theorem Rparents_any {q rp rb fp n a m : Nat} {s : Sr} {LA : Option Addr} {lc : Nat} {R : List (Option Addr × Nat)} {FS : List Nat} (p : Int) (w : World) (h : RStX w q rp rb fp n a m s LA lc R FS) (hok : SrOk n a m s) :
  Calls Tryz.prog 104 #[.pointer (some ⟨q, 0, none⟩), .int .i64 p] w (LnkP (toldP 1 p s.L) w) := by
 have hL := Rtold_any 1 p w h hok
 clear h hok
 generalize toldP 1 p s.L = T at *
 go_enter Tryz.func104, Tryz.ntmps104
 go_wp2_with fail
 refine hL.mono ?_; rintro e w2 ⟨A, c, rfl, ho, hg, y⟩
 go_wp2_with fail
 go_ret
 exact ⟨A, c, rfl, ho, hg, y⟩
set_option maxHeartbeats 400000 in
theorem Rleaves_any {q rp rb fp n a m : Nat} {s : Sr} {LA : Option Addr} {lc : Nat} {R : List (Option Addr × Nat)} {FS : List Nat} (p : Int) (w : World) (h : RStX w q rp rb fp n a m s LA lc R FS) (hok : SrOk n a m s) :
  Calls Tryz.prog 135 #[.pointer (some ⟨q, 0, none⟩), .int .i64 p] w (LnkP (toldP 2 p s.L) w) := by
 have hL := Rtold_any 2 p w h hok
 clear h hok
 generalize toldP 2 p s.L = T at *
 go_enter Tryz.func135, Tryz.ntmps135
 go_wp2_with fail
 refine hL.mono ?_; rintro e w2 ⟨A, c, rfl, ho, hg, y⟩
 go_wp2_with fail
 go_ret
 exact ⟨A, c, rfl, ho, hg, y⟩
end Go.Proofs.YtgjfidjhbkaobaaGreat
