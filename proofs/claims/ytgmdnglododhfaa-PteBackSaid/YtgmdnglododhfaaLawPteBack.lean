/-
  PteBack: the walk.
-/
import Derived.Test.YtgmdnglododhfaaPteHead
import Derived.Deep.RegionHeld3
import Derived.BigQuiet
namespace Go.Proofs.Ytgmdnglododhfaa
open Go.RowKit

set_option maxRecDepth 100000 in
set_option maxHeartbeats 4000000 in
theorem back_ok_bad (v : Nat) (e : Ent) (w : World) (hv : v < 18446744073709551616) (ha : e.ok = true) (hb : (getE v).bad = true) :
    Calls Try.prog 4 #[.int .u64 v, .agg e.cs] w fun x w' => x = .returned (.bool true) ∧ Chg [] w w' := by
  have P1 := fun w => Put_at e w
  have P2 := fun w => Put_at (getE v) w
  have G1 := fun w => Get_any v w hv
  have G0 := fun w => Get_any (putV e) w (putV_lt e)
  rw [putV_ok ha, get_put e ha] at G0
  rw [← putV_ok ha] at G0
  have hq := fun w => run_neE e e w
  simp only [eqb_self, Bool.not_true] at hq
  obtain ⟨k1, k2, k3⟩ := ok_parts ha
  simp only [ha] at P1
  have hb' : (getE v).ok = false := by rw [get_ok, hb]; rfl
  simp only [hb', putV_no hb'] at P2
  have hfr : 0 ≤ (getE v).f ∧ (getE v).f < 1048576 := by rw [get_f]; have := frameN_lt v; omega
  have hecs : (e).cs = #[.bool (e).p, .bool (e).w, .bool (e).u, .bool (e).a, .bool (e).d, .bool (e).s, .bool (e).n, .bool (e).bad, .int .i64 (e).f] := rfl
  have hgcs : (getE v).cs = #[.bool (getE v).p, .bool (getE v).w, .bool (getE v).u, .bool (getE v).a, .bool (getE v).d, .bool (getE v).s, .bool (getE v).n, .bool (getE v).bad, .int .i64 (getE v).f] := rfl
  rw [k1] at hecs
  rw [hb] at hgcs
  simp only [hecs] at P1 G0 hq ⊢
  simp only [hgcs] at P2 G1
  generalize putV e = N at *
  clear ha k1 hb hb'
  have HeCS := Lib.hid hecs; clear hecs
  generalize (e).p = ep at *
  generalize (e).w = ew at *
  generalize (e).u = eu at *
  generalize (e).a = ea at *
  generalize (e).d = ed at *
  generalize (e).s = es at *
  generalize (e).n = en at *
  generalize (e).f = ef at *
  have HgCS := Lib.hid hgcs; clear hgcs
  generalize (getE v).p = gp at *
  generalize (getE v).w = gw at *
  generalize (getE v).u = gu at *
  generalize (getE v).a = ga at *
  generalize (getE v).d = gd at *
  generalize (getE v).s = gs at *
  generalize (getE v).n = gn at *
  generalize (getE v).f = gf at *
  have hg0 : gf ≥ 0 := hfr.1
  have hg1 : gf < 1048576 := hfr.2
  have he0 : ef ≥ 0 := k2
  go_enter Try.func4, Try.ntmps4
  go_wp2_with fail
  refine (head_any _).mono ?_; rintro x w1 ⟨rfl, hc1⟩
  have hB1 := (Blk.new w 24 #[.bool ep, .bool ew, .bool eu, .bool ea, .bool ed, .bool es, .bool en, .bool false, .int .i64 ef]).chg_ hc1 (by simp)
  have hcB1 := ((Chg.refl [] w).alloc (Obj.cells #[.bool ep, .bool ew, .bool eu, .bool ea, .bool ed, .bool es, .bool en, .bool false, .int .i64 ef] 24)).trans hc1 (by simp)
  clear hc1
  generalize w.heap.size = g at *
  obtain ⟨e0, e1, e2, e3, e4, e5, e6, e7, e8⟩ := blk9 hB1
  go_wp2_with fail
  refine (P1 _).mono ?_; rintro x w2 ⟨rfl, hc2⟩
  have hB2 := hB1.chg_ hc2 (by simp)
  have hcB2 := hcB1.trans hc2 (by simp)
  clear e0 e1 e2 e3 e4 e5 e6 e7 e8 hB1 hcB1 hc2
  obtain ⟨e0, e1, e2, e3, e4, e5, e6, e7, e8⟩ := blk9 hB2
  go_wp2_with fail
  go_region_held3 (fun w' => w'.cell? ⟨g, 0, none⟩ = some (.bool ep) ∧ w'.cell? ⟨g, 1, none⟩ = some (.bool ew) ∧ w'.cell? ⟨g, 2, none⟩ = some (.bool eu) ∧ w'.cell? ⟨g, 3, none⟩ = some (.bool ea) ∧ w'.cell? ⟨g, 4, none⟩ = some (.bool ed) ∧ w'.cell? ⟨g, 5, none⟩ = some (.bool es) ∧ w'.cell? ⟨g, 6, none⟩ = some (.bool en) ∧ w'.cell? ⟨g, 7, none⟩ = some (.bool false) ∧ w'.cell? ⟨g, 8, none⟩ = some (.int .i64 ef))
    (first
      | exact ⟨e0, e1, e2, e3, e4, e5, e6, e7, e8⟩
      | exact ⟨f0, f1, f2, f3, f4, f5, f6, f7, f8⟩
      | go_keep)
    ((first
      | (go_at_call 12; refine (G0 _).mono ?_; rintro x w3 ⟨rfl, hc3⟩; have hB3 := (Blk.drew hB2).chg_ hc3 (by simp); have hcB3 := (Chg.drew hcB2).trans hc3 (by simp); obtain ⟨f0, f1, f2, f3, f4, f5, f6, f7, f8⟩ := blk9 hB3)))
  clear e0 e1 e2 e3 e4 e5 e6 e7 e8 f0 f1 f2 f3 f4 f5 f6 f7 f8 hB2 hcB2 hc3 hB3
  go_wp2_with fail
  refine (G1 _).mono ?_; rintro x w4 ⟨rfl, hc4⟩
  have hcB4 := hcB3.trans hc4 (by simp)
  have hX4 := Blk.new w4 24 #[.bool gp, .bool gw, .bool gu, .bool ga, .bool gd, .bool gs, .bool gn, .bool true, .int .i64 gf]
  have hcB5 := hcB4.alloc (Obj.cells #[.bool gp, .bool gw, .bool gu, .bool ga, .bool gd, .bool gs, .bool gn, .bool true, .int .i64 gf] 24)
  clear hcB3 hc4 hcB4
  go_wp2_with fail
  generalize w4.heap.size = gx at *
  refine (P2 _).mono ?_; rintro x w5 ⟨rfl, hc5⟩
  have hX5 := hX4.chg_ hc5 (by simp)
  have hcB6 := hcB5.trans hc5 (by simp)
  clear hX4 hcB5 hc5
  obtain ⟨e0, e1, e2, e3, e4, e5, e6, e7, e8⟩ := blk9 hX5
  go_wp2_with fail
  go_ret
  exact ⟨rfl, hcB6⟩

set_option maxRecDepth 100000 in
set_option maxHeartbeats 4000000 in
theorem back_ok_good (v : Nat) (e : Ent) (w : World) (hv : v < 18446744073709551616) (ha : e.ok = true) (hb : (getE v).bad = false) :
    Calls Try.prog 4 #[.int .u64 v, .agg e.cs] w fun x w' => x = .returned (.bool true) ∧ Chg [] w w' := by
  have P1 := fun w => Put_at e w
  have P2 := fun w => Put_at (getE v) w
  have G1 := fun w => Get_any v w hv
  have G0 := fun w => Get_any (putV e) w (putV_lt e)
  rw [putV_ok ha, get_put e ha] at G0
  rw [← putV_ok ha] at G0
  have hq := fun w => run_neE e e w
  simp only [eqb_self, Bool.not_true] at hq
  obtain ⟨k1, k2, k3⟩ := ok_parts ha
  simp only [ha] at P1
  have hb' : (getE v).ok = true := by rw [get_ok, hb]; rfl
  simp only [hb', putV_ok hb', put_get v hv hb] at P2
  have hfr : 0 ≤ (getE v).f ∧ (getE v).f < 1048576 := by rw [get_f]; have := frameN_lt v; omega
  have hecs : (e).cs = #[.bool (e).p, .bool (e).w, .bool (e).u, .bool (e).a, .bool (e).d, .bool (e).s, .bool (e).n, .bool (e).bad, .int .i64 (e).f] := rfl
  have hgcs : (getE v).cs = #[.bool (getE v).p, .bool (getE v).w, .bool (getE v).u, .bool (getE v).a, .bool (getE v).d, .bool (getE v).s, .bool (getE v).n, .bool (getE v).bad, .int .i64 (getE v).f] := rfl
  rw [k1] at hecs
  rw [hb] at hgcs
  simp only [hecs] at P1 G0 hq ⊢
  simp only [hgcs] at P2 G1
  generalize putV e = N at *
  clear ha k1 hb hb'
  have HeCS := Lib.hid hecs; clear hecs
  generalize (e).p = ep at *
  generalize (e).w = ew at *
  generalize (e).u = eu at *
  generalize (e).a = ea at *
  generalize (e).d = ed at *
  generalize (e).s = es at *
  generalize (e).n = en at *
  generalize (e).f = ef at *
  have HgCS := Lib.hid hgcs; clear hgcs
  generalize (getE v).p = gp at *
  generalize (getE v).w = gw at *
  generalize (getE v).u = gu at *
  generalize (getE v).a = ga at *
  generalize (getE v).d = gd at *
  generalize (getE v).s = gs at *
  generalize (getE v).n = gn at *
  generalize (getE v).f = gf at *
  have hg0 : gf ≥ 0 := hfr.1
  have hg1 : gf < 1048576 := hfr.2
  have he0 : ef ≥ 0 := k2
  go_enter Try.func4, Try.ntmps4
  go_wp2_with fail
  refine (head_any _).mono ?_; rintro x w1 ⟨rfl, hc1⟩
  have hB1 := (Blk.new w 24 #[.bool ep, .bool ew, .bool eu, .bool ea, .bool ed, .bool es, .bool en, .bool false, .int .i64 ef]).chg_ hc1 (by simp)
  have hcB1 := ((Chg.refl [] w).alloc (Obj.cells #[.bool ep, .bool ew, .bool eu, .bool ea, .bool ed, .bool es, .bool en, .bool false, .int .i64 ef] 24)).trans hc1 (by simp)
  clear hc1
  generalize w.heap.size = g at *
  obtain ⟨e0, e1, e2, e3, e4, e5, e6, e7, e8⟩ := blk9 hB1
  go_wp2_with fail
  refine (P1 _).mono ?_; rintro x w2 ⟨rfl, hc2⟩
  have hB2 := hB1.chg_ hc2 (by simp)
  have hcB2 := hcB1.trans hc2 (by simp)
  clear e0 e1 e2 e3 e4 e5 e6 e7 e8 hB1 hcB1 hc2
  obtain ⟨e0, e1, e2, e3, e4, e5, e6, e7, e8⟩ := blk9 hB2
  go_wp2_with fail
  go_region_held3 (fun w' => w'.cell? ⟨g, 0, none⟩ = some (.bool ep) ∧ w'.cell? ⟨g, 1, none⟩ = some (.bool ew) ∧ w'.cell? ⟨g, 2, none⟩ = some (.bool eu) ∧ w'.cell? ⟨g, 3, none⟩ = some (.bool ea) ∧ w'.cell? ⟨g, 4, none⟩ = some (.bool ed) ∧ w'.cell? ⟨g, 5, none⟩ = some (.bool es) ∧ w'.cell? ⟨g, 6, none⟩ = some (.bool en) ∧ w'.cell? ⟨g, 7, none⟩ = some (.bool false) ∧ w'.cell? ⟨g, 8, none⟩ = some (.int .i64 ef))
    (first
      | exact ⟨e0, e1, e2, e3, e4, e5, e6, e7, e8⟩
      | exact ⟨f0, f1, f2, f3, f4, f5, f6, f7, f8⟩
      | go_keep)
    ((first
      | (go_at_call 12; refine (G0 _).mono ?_; rintro x w3 ⟨rfl, hc3⟩; have hB3 := (Blk.drew hB2).chg_ hc3 (by simp); have hcB3 := (Chg.drew hcB2).trans hc3 (by simp); obtain ⟨f0, f1, f2, f3, f4, f5, f6, f7, f8⟩ := blk9 hB3)))
  clear e0 e1 e2 e3 e4 e5 e6 e7 e8 f0 f1 f2 f3 f4 f5 f6 f7 f8 hB2 hcB2 hc3 hB3
  go_wp2_with fail
  refine (G1 _).mono ?_; rintro x w4 ⟨rfl, hc4⟩
  have hcB4 := hcB3.trans hc4 (by simp)
  have hX4 := Blk.new w4 24 #[.bool gp, .bool gw, .bool gu, .bool ga, .bool gd, .bool gs, .bool gn, .bool false, .int .i64 gf]
  have hcB5 := hcB4.alloc (Obj.cells #[.bool gp, .bool gw, .bool gu, .bool ga, .bool gd, .bool gs, .bool gn, .bool false, .int .i64 gf] 24)
  clear hcB3 hc4 hcB4
  go_wp2_with fail
  generalize w4.heap.size = gx at *
  refine (P2 _).mono ?_; rintro x w5 ⟨rfl, hc5⟩
  have hX5 := hX4.chg_ hc5 (by simp)
  have hcB6 := hcB5.trans hc5 (by simp)
  clear hX4 hcB5 hc5
  obtain ⟨e0, e1, e2, e3, e4, e5, e6, e7, e8⟩ := blk9 hX5
  go_wp2_with fail
  go_ret
  exact ⟨rfl, hcB6⟩

set_option maxRecDepth 100000 in
set_option maxHeartbeats 4000000 in
theorem back_bad_bad (v : Nat) (e : Ent) (w : World) (hv : v < 18446744073709551616) (ha : e.bad = true) (hb : (getE v).bad = true) :
    Calls Try.prog 4 #[.int .u64 v, .agg e.cs] w fun x w' => x = .returned (.bool true) ∧ Chg [] w w' := by
  have P1 := fun w => Put_at e w
  have P2 := fun w => Put_at (getE v) w
  have G1 := fun w => Get_any v w hv
  have ha' : e.ok = false := by simp [Ent.ok, ha]
  simp only [ha', putV_no ha'] at P1
  have hb' : (getE v).ok = false := by rw [get_ok, hb]; rfl
  simp only [hb', putV_no hb'] at P2
  have hfr : 0 ≤ (getE v).f ∧ (getE v).f < 1048576 := by rw [get_f]; have := frameN_lt v; omega
  have hecs : (e).cs = #[.bool (e).p, .bool (e).w, .bool (e).u, .bool (e).a, .bool (e).d, .bool (e).s, .bool (e).n, .bool (e).bad, .int .i64 (e).f] := rfl
  have hgcs : (getE v).cs = #[.bool (getE v).p, .bool (getE v).w, .bool (getE v).u, .bool (getE v).a, .bool (getE v).d, .bool (getE v).s, .bool (getE v).n, .bool (getE v).bad, .int .i64 (getE v).f] := rfl
  rw [ha] at hecs
  rw [hb] at hgcs
  simp only [hecs] at P1  ⊢
  simp only [hgcs] at P2 G1
  clear ha ha' hb hb'
  have HeCS := Lib.hid hecs; clear hecs
  generalize (e).p = ep at *
  generalize (e).w = ew at *
  generalize (e).u = eu at *
  generalize (e).a = ea at *
  generalize (e).d = ed at *
  generalize (e).s = es at *
  generalize (e).n = en at *
  generalize (e).f = ef at *
  have HgCS := Lib.hid hgcs; clear hgcs
  generalize (getE v).p = gp at *
  generalize (getE v).w = gw at *
  generalize (getE v).u = gu at *
  generalize (getE v).a = ga at *
  generalize (getE v).d = gd at *
  generalize (getE v).s = gs at *
  generalize (getE v).n = gn at *
  generalize (getE v).f = gf at *
  have hg0 : gf ≥ 0 := hfr.1
  have hg1 : gf < 1048576 := hfr.2
  go_enter Try.func4, Try.ntmps4
  go_wp2_with fail
  refine (head_any _).mono ?_; rintro x w1 ⟨rfl, hc1⟩
  have hB1 := (Blk.new w 24 #[.bool ep, .bool ew, .bool eu, .bool ea, .bool ed, .bool es, .bool en, .bool true, .int .i64 ef]).chg_ hc1 (by simp)
  have hcB1 := ((Chg.refl [] w).alloc (Obj.cells #[.bool ep, .bool ew, .bool eu, .bool ea, .bool ed, .bool es, .bool en, .bool true, .int .i64 ef] 24)).trans hc1 (by simp)
  clear hc1
  generalize w.heap.size = g at *
  obtain ⟨e0, e1, e2, e3, e4, e5, e6, e7, e8⟩ := blk9 hB1
  go_wp2_with fail
  refine (P1 _).mono ?_; rintro x w2 ⟨rfl, hc2⟩
  have hB2 := hB1.chg_ hc2 (by simp)
  have hcB2 := hcB1.trans hc2 (by simp)
  clear e0 e1 e2 e3 e4 e5 e6 e7 e8 hB1 hcB1 hc2
  obtain ⟨e0, e1, e2, e3, e4, e5, e6, e7, e8⟩ := blk9 hB2
  go_wp2_with fail
  go_quiet (fail)
  have hcB3 := hcB2.drewN nq
  generalize w2.drewN nq = w3 at *
  clear e0 e1 e2 e3 e4 e5 e6 e7 e8 hB2 hcB2
  go_wp2_with fail
  refine (G1 _).mono ?_; rintro x w4 ⟨rfl, hc4⟩
  have hcB4 := hcB3.trans hc4 (by simp)
  have hX4 := Blk.new w4 24 #[.bool gp, .bool gw, .bool gu, .bool ga, .bool gd, .bool gs, .bool gn, .bool true, .int .i64 gf]
  have hcB5 := hcB4.alloc (Obj.cells #[.bool gp, .bool gw, .bool gu, .bool ga, .bool gd, .bool gs, .bool gn, .bool true, .int .i64 gf] 24)
  clear hcB3 hc4 hcB4
  go_wp2_with fail
  generalize w4.heap.size = gx at *
  refine (P2 _).mono ?_; rintro x w5 ⟨rfl, hc5⟩
  have hX5 := hX4.chg_ hc5 (by simp)
  have hcB6 := hcB5.trans hc5 (by simp)
  clear hX4 hcB5 hc5
  obtain ⟨e0, e1, e2, e3, e4, e5, e6, e7, e8⟩ := blk9 hX5
  go_wp2_with fail
  go_ret
  exact ⟨rfl, hcB6⟩

set_option maxRecDepth 100000 in
set_option maxHeartbeats 4000000 in
theorem back_bad_good (v : Nat) (e : Ent) (w : World) (hv : v < 18446744073709551616) (ha : e.bad = true) (hb : (getE v).bad = false) :
    Calls Try.prog 4 #[.int .u64 v, .agg e.cs] w fun x w' => x = .returned (.bool true) ∧ Chg [] w w' := by
  have P1 := fun w => Put_at e w
  have P2 := fun w => Put_at (getE v) w
  have G1 := fun w => Get_any v w hv
  have ha' : e.ok = false := by simp [Ent.ok, ha]
  simp only [ha', putV_no ha'] at P1
  have hb' : (getE v).ok = true := by rw [get_ok, hb]; rfl
  simp only [hb', putV_ok hb', put_get v hv hb] at P2
  have hfr : 0 ≤ (getE v).f ∧ (getE v).f < 1048576 := by rw [get_f]; have := frameN_lt v; omega
  have hecs : (e).cs = #[.bool (e).p, .bool (e).w, .bool (e).u, .bool (e).a, .bool (e).d, .bool (e).s, .bool (e).n, .bool (e).bad, .int .i64 (e).f] := rfl
  have hgcs : (getE v).cs = #[.bool (getE v).p, .bool (getE v).w, .bool (getE v).u, .bool (getE v).a, .bool (getE v).d, .bool (getE v).s, .bool (getE v).n, .bool (getE v).bad, .int .i64 (getE v).f] := rfl
  rw [ha] at hecs
  rw [hb] at hgcs
  simp only [hecs] at P1  ⊢
  simp only [hgcs] at P2 G1
  clear ha ha' hb hb'
  have HeCS := Lib.hid hecs; clear hecs
  generalize (e).p = ep at *
  generalize (e).w = ew at *
  generalize (e).u = eu at *
  generalize (e).a = ea at *
  generalize (e).d = ed at *
  generalize (e).s = es at *
  generalize (e).n = en at *
  generalize (e).f = ef at *
  have HgCS := Lib.hid hgcs; clear hgcs
  generalize (getE v).p = gp at *
  generalize (getE v).w = gw at *
  generalize (getE v).u = gu at *
  generalize (getE v).a = ga at *
  generalize (getE v).d = gd at *
  generalize (getE v).s = gs at *
  generalize (getE v).n = gn at *
  generalize (getE v).f = gf at *
  have hg0 : gf ≥ 0 := hfr.1
  have hg1 : gf < 1048576 := hfr.2
  go_enter Try.func4, Try.ntmps4
  go_wp2_with fail
  refine (head_any _).mono ?_; rintro x w1 ⟨rfl, hc1⟩
  have hB1 := (Blk.new w 24 #[.bool ep, .bool ew, .bool eu, .bool ea, .bool ed, .bool es, .bool en, .bool true, .int .i64 ef]).chg_ hc1 (by simp)
  have hcB1 := ((Chg.refl [] w).alloc (Obj.cells #[.bool ep, .bool ew, .bool eu, .bool ea, .bool ed, .bool es, .bool en, .bool true, .int .i64 ef] 24)).trans hc1 (by simp)
  clear hc1
  generalize w.heap.size = g at *
  obtain ⟨e0, e1, e2, e3, e4, e5, e6, e7, e8⟩ := blk9 hB1
  go_wp2_with fail
  refine (P1 _).mono ?_; rintro x w2 ⟨rfl, hc2⟩
  have hB2 := hB1.chg_ hc2 (by simp)
  have hcB2 := hcB1.trans hc2 (by simp)
  clear e0 e1 e2 e3 e4 e5 e6 e7 e8 hB1 hcB1 hc2
  obtain ⟨e0, e1, e2, e3, e4, e5, e6, e7, e8⟩ := blk9 hB2
  go_wp2_with fail
  go_quiet (fail)
  have hcB3 := hcB2.drewN nq
  generalize w2.drewN nq = w3 at *
  clear e0 e1 e2 e3 e4 e5 e6 e7 e8 hB2 hcB2
  go_wp2_with fail
  refine (G1 _).mono ?_; rintro x w4 ⟨rfl, hc4⟩
  have hcB4 := hcB3.trans hc4 (by simp)
  have hX4 := Blk.new w4 24 #[.bool gp, .bool gw, .bool gu, .bool ga, .bool gd, .bool gs, .bool gn, .bool false, .int .i64 gf]
  have hcB5 := hcB4.alloc (Obj.cells #[.bool gp, .bool gw, .bool gu, .bool ga, .bool gd, .bool gs, .bool gn, .bool false, .int .i64 gf] 24)
  clear hcB3 hc4 hcB4
  go_wp2_with fail
  generalize w4.heap.size = gx at *
  refine (P2 _).mono ?_; rintro x w5 ⟨rfl, hc5⟩
  have hX5 := hX4.chg_ hc5 (by simp)
  have hcB6 := hcB5.trans hc5 (by simp)
  clear hX4 hcB5 hc5
  obtain ⟨e0, e1, e2, e3, e4, e5, e6, e7, e8⟩ := blk9 hX5
  go_wp2_with fail
  go_ret
  exact ⟨rfl, hcB6⟩

set_option maxRecDepth 100000 in
set_option maxHeartbeats 4000000 in
theorem back_low_bad (v : Nat) (e : Ent) (w : World) (hv : v < 18446744073709551616) (ha : e.bad = false) (hl : e.f < 0) (hb : (getE v).bad = true) :
    Calls Try.prog 4 #[.int .u64 v, .agg e.cs] w fun x w' => x = .returned (.bool true) ∧ Chg [] w w' := by
  have P1 := fun w => Put_at e w
  have P2 := fun w => Put_at (getE v) w
  have G1 := fun w => Get_any v w hv
  have ha' : e.ok = false := by simp [Ent.ok, ha]; omega
  simp only [ha', putV_no ha'] at P1
  have hb' : (getE v).ok = false := by rw [get_ok, hb]; rfl
  simp only [hb', putV_no hb'] at P2
  have hfr : 0 ≤ (getE v).f ∧ (getE v).f < 1048576 := by rw [get_f]; have := frameN_lt v; omega
  have hecs : (e).cs = #[.bool (e).p, .bool (e).w, .bool (e).u, .bool (e).a, .bool (e).d, .bool (e).s, .bool (e).n, .bool (e).bad, .int .i64 (e).f] := rfl
  have hgcs : (getE v).cs = #[.bool (getE v).p, .bool (getE v).w, .bool (getE v).u, .bool (getE v).a, .bool (getE v).d, .bool (getE v).s, .bool (getE v).n, .bool (getE v).bad, .int .i64 (getE v).f] := rfl
  rw [ha] at hecs
  rw [hb] at hgcs
  simp only [hecs] at P1  ⊢
  simp only [hgcs] at P2 G1
  clear ha ha' hb hb'
  have HeCS := Lib.hid hecs; clear hecs
  generalize (e).p = ep at *
  generalize (e).w = ew at *
  generalize (e).u = eu at *
  generalize (e).a = ea at *
  generalize (e).d = ed at *
  generalize (e).s = es at *
  generalize (e).n = en at *
  generalize (e).f = ef at *
  have HgCS := Lib.hid hgcs; clear hgcs
  generalize (getE v).p = gp at *
  generalize (getE v).w = gw at *
  generalize (getE v).u = gu at *
  generalize (getE v).a = ga at *
  generalize (getE v).d = gd at *
  generalize (getE v).s = gs at *
  generalize (getE v).n = gn at *
  generalize (getE v).f = gf at *
  have hg0 : gf ≥ 0 := hfr.1
  have hg1 : gf < 1048576 := hfr.2
  have he0 : decide (ef ≥ 0) = false := decide_eq_false (by omega)
  go_enter Try.func4, Try.ntmps4
  go_wp2_with fail
  refine (head_any _).mono ?_; rintro x w1 ⟨rfl, hc1⟩
  have hB1 := (Blk.new w 24 #[.bool ep, .bool ew, .bool eu, .bool ea, .bool ed, .bool es, .bool en, .bool false, .int .i64 ef]).chg_ hc1 (by simp)
  have hcB1 := ((Chg.refl [] w).alloc (Obj.cells #[.bool ep, .bool ew, .bool eu, .bool ea, .bool ed, .bool es, .bool en, .bool false, .int .i64 ef] 24)).trans hc1 (by simp)
  clear hc1
  generalize w.heap.size = g at *
  obtain ⟨e0, e1, e2, e3, e4, e5, e6, e7, e8⟩ := blk9 hB1
  go_wp2_with fail
  refine (P1 _).mono ?_; rintro x w2 ⟨rfl, hc2⟩
  have hB2 := hB1.chg_ hc2 (by simp)
  have hcB2 := hcB1.trans hc2 (by simp)
  clear e0 e1 e2 e3 e4 e5 e6 e7 e8 hB1 hcB1 hc2
  obtain ⟨e0, e1, e2, e3, e4, e5, e6, e7, e8⟩ := blk9 hB2
  go_wp2_with fail
  go_quiet (fail)
  have hcB3 := hcB2.drewN nq
  generalize w2.drewN nq = w3 at *
  clear e0 e1 e2 e3 e4 e5 e6 e7 e8 hB2 hcB2
  go_wp2_with fail
  refine (G1 _).mono ?_; rintro x w4 ⟨rfl, hc4⟩
  have hcB4 := hcB3.trans hc4 (by simp)
  have hX4 := Blk.new w4 24 #[.bool gp, .bool gw, .bool gu, .bool ga, .bool gd, .bool gs, .bool gn, .bool true, .int .i64 gf]
  have hcB5 := hcB4.alloc (Obj.cells #[.bool gp, .bool gw, .bool gu, .bool ga, .bool gd, .bool gs, .bool gn, .bool true, .int .i64 gf] 24)
  clear hcB3 hc4 hcB4
  go_wp2_with fail
  generalize w4.heap.size = gx at *
  refine (P2 _).mono ?_; rintro x w5 ⟨rfl, hc5⟩
  have hX5 := hX4.chg_ hc5 (by simp)
  have hcB6 := hcB5.trans hc5 (by simp)
  clear hX4 hcB5 hc5
  obtain ⟨e0, e1, e2, e3, e4, e5, e6, e7, e8⟩ := blk9 hX5
  go_wp2_with fail
  go_ret
  exact ⟨rfl, hcB6⟩

set_option maxRecDepth 100000 in
set_option maxHeartbeats 4000000 in
theorem back_low_good (v : Nat) (e : Ent) (w : World) (hv : v < 18446744073709551616) (ha : e.bad = false) (hl : e.f < 0) (hb : (getE v).bad = false) :
    Calls Try.prog 4 #[.int .u64 v, .agg e.cs] w fun x w' => x = .returned (.bool true) ∧ Chg [] w w' := by
  have P1 := fun w => Put_at e w
  have P2 := fun w => Put_at (getE v) w
  have G1 := fun w => Get_any v w hv
  have ha' : e.ok = false := by simp [Ent.ok, ha]; omega
  simp only [ha', putV_no ha'] at P1
  have hb' : (getE v).ok = true := by rw [get_ok, hb]; rfl
  simp only [hb', putV_ok hb', put_get v hv hb] at P2
  have hfr : 0 ≤ (getE v).f ∧ (getE v).f < 1048576 := by rw [get_f]; have := frameN_lt v; omega
  have hecs : (e).cs = #[.bool (e).p, .bool (e).w, .bool (e).u, .bool (e).a, .bool (e).d, .bool (e).s, .bool (e).n, .bool (e).bad, .int .i64 (e).f] := rfl
  have hgcs : (getE v).cs = #[.bool (getE v).p, .bool (getE v).w, .bool (getE v).u, .bool (getE v).a, .bool (getE v).d, .bool (getE v).s, .bool (getE v).n, .bool (getE v).bad, .int .i64 (getE v).f] := rfl
  rw [ha] at hecs
  rw [hb] at hgcs
  simp only [hecs] at P1  ⊢
  simp only [hgcs] at P2 G1
  clear ha ha' hb hb'
  have HeCS := Lib.hid hecs; clear hecs
  generalize (e).p = ep at *
  generalize (e).w = ew at *
  generalize (e).u = eu at *
  generalize (e).a = ea at *
  generalize (e).d = ed at *
  generalize (e).s = es at *
  generalize (e).n = en at *
  generalize (e).f = ef at *
  have HgCS := Lib.hid hgcs; clear hgcs
  generalize (getE v).p = gp at *
  generalize (getE v).w = gw at *
  generalize (getE v).u = gu at *
  generalize (getE v).a = ga at *
  generalize (getE v).d = gd at *
  generalize (getE v).s = gs at *
  generalize (getE v).n = gn at *
  generalize (getE v).f = gf at *
  have hg0 : gf ≥ 0 := hfr.1
  have hg1 : gf < 1048576 := hfr.2
  have he0 : decide (ef ≥ 0) = false := decide_eq_false (by omega)
  go_enter Try.func4, Try.ntmps4
  go_wp2_with fail
  refine (head_any _).mono ?_; rintro x w1 ⟨rfl, hc1⟩
  have hB1 := (Blk.new w 24 #[.bool ep, .bool ew, .bool eu, .bool ea, .bool ed, .bool es, .bool en, .bool false, .int .i64 ef]).chg_ hc1 (by simp)
  have hcB1 := ((Chg.refl [] w).alloc (Obj.cells #[.bool ep, .bool ew, .bool eu, .bool ea, .bool ed, .bool es, .bool en, .bool false, .int .i64 ef] 24)).trans hc1 (by simp)
  clear hc1
  generalize w.heap.size = g at *
  obtain ⟨e0, e1, e2, e3, e4, e5, e6, e7, e8⟩ := blk9 hB1
  go_wp2_with fail
  refine (P1 _).mono ?_; rintro x w2 ⟨rfl, hc2⟩
  have hB2 := hB1.chg_ hc2 (by simp)
  have hcB2 := hcB1.trans hc2 (by simp)
  clear e0 e1 e2 e3 e4 e5 e6 e7 e8 hB1 hcB1 hc2
  obtain ⟨e0, e1, e2, e3, e4, e5, e6, e7, e8⟩ := blk9 hB2
  go_wp2_with fail
  go_quiet (fail)
  have hcB3 := hcB2.drewN nq
  generalize w2.drewN nq = w3 at *
  clear e0 e1 e2 e3 e4 e5 e6 e7 e8 hB2 hcB2
  go_wp2_with fail
  refine (G1 _).mono ?_; rintro x w4 ⟨rfl, hc4⟩
  have hcB4 := hcB3.trans hc4 (by simp)
  have hX4 := Blk.new w4 24 #[.bool gp, .bool gw, .bool gu, .bool ga, .bool gd, .bool gs, .bool gn, .bool false, .int .i64 gf]
  have hcB5 := hcB4.alloc (Obj.cells #[.bool gp, .bool gw, .bool gu, .bool ga, .bool gd, .bool gs, .bool gn, .bool false, .int .i64 gf] 24)
  clear hcB3 hc4 hcB4
  go_wp2_with fail
  generalize w4.heap.size = gx at *
  refine (P2 _).mono ?_; rintro x w5 ⟨rfl, hc5⟩
  have hX5 := hX4.chg_ hc5 (by simp)
  have hcB6 := hcB5.trans hc5 (by simp)
  clear hX4 hcB5 hc5
  obtain ⟨e0, e1, e2, e3, e4, e5, e6, e7, e8⟩ := blk9 hX5
  go_wp2_with fail
  go_ret
  exact ⟨rfl, hcB6⟩

set_option maxRecDepth 100000 in
set_option maxHeartbeats 4000000 in
theorem back_high_bad (v : Nat) (e : Ent) (w : World) (hv : v < 18446744073709551616) (ha : e.bad = false) (hl : 1048576 ≤ e.f) (hb : (getE v).bad = true) :
    Calls Try.prog 4 #[.int .u64 v, .agg e.cs] w fun x w' => x = .returned (.bool true) ∧ Chg [] w w' := by
  have P1 := fun w => Put_at e w
  have P2 := fun w => Put_at (getE v) w
  have G1 := fun w => Get_any v w hv
  have ha' : e.ok = false := by simp [Ent.ok, ha]; omega
  simp only [ha', putV_no ha'] at P1
  have hb' : (getE v).ok = false := by rw [get_ok, hb]; rfl
  simp only [hb', putV_no hb'] at P2
  have hfr : 0 ≤ (getE v).f ∧ (getE v).f < 1048576 := by rw [get_f]; have := frameN_lt v; omega
  have hecs : (e).cs = #[.bool (e).p, .bool (e).w, .bool (e).u, .bool (e).a, .bool (e).d, .bool (e).s, .bool (e).n, .bool (e).bad, .int .i64 (e).f] := rfl
  have hgcs : (getE v).cs = #[.bool (getE v).p, .bool (getE v).w, .bool (getE v).u, .bool (getE v).a, .bool (getE v).d, .bool (getE v).s, .bool (getE v).n, .bool (getE v).bad, .int .i64 (getE v).f] := rfl
  rw [ha] at hecs
  rw [hb] at hgcs
  simp only [hecs] at P1  ⊢
  simp only [hgcs] at P2 G1
  clear ha ha' hb hb'
  have HeCS := Lib.hid hecs; clear hecs
  generalize (e).p = ep at *
  generalize (e).w = ew at *
  generalize (e).u = eu at *
  generalize (e).a = ea at *
  generalize (e).d = ed at *
  generalize (e).s = es at *
  generalize (e).n = en at *
  generalize (e).f = ef at *
  have HgCS := Lib.hid hgcs; clear hgcs
  generalize (getE v).p = gp at *
  generalize (getE v).w = gw at *
  generalize (getE v).u = gu at *
  generalize (getE v).a = ga at *
  generalize (getE v).d = gd at *
  generalize (getE v).s = gs at *
  generalize (getE v).n = gn at *
  generalize (getE v).f = gf at *
  have hg0 : gf ≥ 0 := hfr.1
  have hg1 : gf < 1048576 := hfr.2
  have he0 : ef ≥ 0 := by omega
  have he1 : ¬ ef < 1048576 := by omega
  go_enter Try.func4, Try.ntmps4
  go_wp2_with fail
  refine (head_any _).mono ?_; rintro x w1 ⟨rfl, hc1⟩
  have hB1 := (Blk.new w 24 #[.bool ep, .bool ew, .bool eu, .bool ea, .bool ed, .bool es, .bool en, .bool false, .int .i64 ef]).chg_ hc1 (by simp)
  have hcB1 := ((Chg.refl [] w).alloc (Obj.cells #[.bool ep, .bool ew, .bool eu, .bool ea, .bool ed, .bool es, .bool en, .bool false, .int .i64 ef] 24)).trans hc1 (by simp)
  clear hc1
  generalize w.heap.size = g at *
  obtain ⟨e0, e1, e2, e3, e4, e5, e6, e7, e8⟩ := blk9 hB1
  go_wp2_with fail
  refine (P1 _).mono ?_; rintro x w2 ⟨rfl, hc2⟩
  have hB2 := hB1.chg_ hc2 (by simp)
  have hcB2 := hcB1.trans hc2 (by simp)
  clear e0 e1 e2 e3 e4 e5 e6 e7 e8 hB1 hcB1 hc2
  obtain ⟨e0, e1, e2, e3, e4, e5, e6, e7, e8⟩ := blk9 hB2
  go_wp2_with fail
  go_quiet (fail)
  have hcB3 := hcB2.drewN nq
  generalize w2.drewN nq = w3 at *
  clear e0 e1 e2 e3 e4 e5 e6 e7 e8 hB2 hcB2
  go_wp2_with fail
  refine (G1 _).mono ?_; rintro x w4 ⟨rfl, hc4⟩
  have hcB4 := hcB3.trans hc4 (by simp)
  have hX4 := Blk.new w4 24 #[.bool gp, .bool gw, .bool gu, .bool ga, .bool gd, .bool gs, .bool gn, .bool true, .int .i64 gf]
  have hcB5 := hcB4.alloc (Obj.cells #[.bool gp, .bool gw, .bool gu, .bool ga, .bool gd, .bool gs, .bool gn, .bool true, .int .i64 gf] 24)
  clear hcB3 hc4 hcB4
  go_wp2_with fail
  generalize w4.heap.size = gx at *
  refine (P2 _).mono ?_; rintro x w5 ⟨rfl, hc5⟩
  have hX5 := hX4.chg_ hc5 (by simp)
  have hcB6 := hcB5.trans hc5 (by simp)
  clear hX4 hcB5 hc5
  obtain ⟨e0, e1, e2, e3, e4, e5, e6, e7, e8⟩ := blk9 hX5
  go_wp2_with fail
  go_ret
  exact ⟨rfl, hcB6⟩

set_option maxRecDepth 100000 in
set_option maxHeartbeats 4000000 in
theorem back_high_good (v : Nat) (e : Ent) (w : World) (hv : v < 18446744073709551616) (ha : e.bad = false) (hl : 1048576 ≤ e.f) (hb : (getE v).bad = false) :
    Calls Try.prog 4 #[.int .u64 v, .agg e.cs] w fun x w' => x = .returned (.bool true) ∧ Chg [] w w' := by
  have P1 := fun w => Put_at e w
  have P2 := fun w => Put_at (getE v) w
  have G1 := fun w => Get_any v w hv
  have ha' : e.ok = false := by simp [Ent.ok, ha]; omega
  simp only [ha', putV_no ha'] at P1
  have hb' : (getE v).ok = true := by rw [get_ok, hb]; rfl
  simp only [hb', putV_ok hb', put_get v hv hb] at P2
  have hfr : 0 ≤ (getE v).f ∧ (getE v).f < 1048576 := by rw [get_f]; have := frameN_lt v; omega
  have hecs : (e).cs = #[.bool (e).p, .bool (e).w, .bool (e).u, .bool (e).a, .bool (e).d, .bool (e).s, .bool (e).n, .bool (e).bad, .int .i64 (e).f] := rfl
  have hgcs : (getE v).cs = #[.bool (getE v).p, .bool (getE v).w, .bool (getE v).u, .bool (getE v).a, .bool (getE v).d, .bool (getE v).s, .bool (getE v).n, .bool (getE v).bad, .int .i64 (getE v).f] := rfl
  rw [ha] at hecs
  rw [hb] at hgcs
  simp only [hecs] at P1  ⊢
  simp only [hgcs] at P2 G1
  clear ha ha' hb hb'
  have HeCS := Lib.hid hecs; clear hecs
  generalize (e).p = ep at *
  generalize (e).w = ew at *
  generalize (e).u = eu at *
  generalize (e).a = ea at *
  generalize (e).d = ed at *
  generalize (e).s = es at *
  generalize (e).n = en at *
  generalize (e).f = ef at *
  have HgCS := Lib.hid hgcs; clear hgcs
  generalize (getE v).p = gp at *
  generalize (getE v).w = gw at *
  generalize (getE v).u = gu at *
  generalize (getE v).a = ga at *
  generalize (getE v).d = gd at *
  generalize (getE v).s = gs at *
  generalize (getE v).n = gn at *
  generalize (getE v).f = gf at *
  have hg0 : gf ≥ 0 := hfr.1
  have hg1 : gf < 1048576 := hfr.2
  have he0 : ef ≥ 0 := by omega
  have he1 : ¬ ef < 1048576 := by omega
  go_enter Try.func4, Try.ntmps4
  go_wp2_with fail
  refine (head_any _).mono ?_; rintro x w1 ⟨rfl, hc1⟩
  have hB1 := (Blk.new w 24 #[.bool ep, .bool ew, .bool eu, .bool ea, .bool ed, .bool es, .bool en, .bool false, .int .i64 ef]).chg_ hc1 (by simp)
  have hcB1 := ((Chg.refl [] w).alloc (Obj.cells #[.bool ep, .bool ew, .bool eu, .bool ea, .bool ed, .bool es, .bool en, .bool false, .int .i64 ef] 24)).trans hc1 (by simp)
  clear hc1
  generalize w.heap.size = g at *
  obtain ⟨e0, e1, e2, e3, e4, e5, e6, e7, e8⟩ := blk9 hB1
  go_wp2_with fail
  refine (P1 _).mono ?_; rintro x w2 ⟨rfl, hc2⟩
  have hB2 := hB1.chg_ hc2 (by simp)
  have hcB2 := hcB1.trans hc2 (by simp)
  clear e0 e1 e2 e3 e4 e5 e6 e7 e8 hB1 hcB1 hc2
  obtain ⟨e0, e1, e2, e3, e4, e5, e6, e7, e8⟩ := blk9 hB2
  go_wp2_with fail
  go_quiet (fail)
  have hcB3 := hcB2.drewN nq
  generalize w2.drewN nq = w3 at *
  clear e0 e1 e2 e3 e4 e5 e6 e7 e8 hB2 hcB2
  go_wp2_with fail
  refine (G1 _).mono ?_; rintro x w4 ⟨rfl, hc4⟩
  have hcB4 := hcB3.trans hc4 (by simp)
  have hX4 := Blk.new w4 24 #[.bool gp, .bool gw, .bool gu, .bool ga, .bool gd, .bool gs, .bool gn, .bool false, .int .i64 gf]
  have hcB5 := hcB4.alloc (Obj.cells #[.bool gp, .bool gw, .bool gu, .bool ga, .bool gd, .bool gs, .bool gn, .bool false, .int .i64 gf] 24)
  clear hcB3 hc4 hcB4
  go_wp2_with fail
  generalize w4.heap.size = gx at *
  refine (P2 _).mono ?_; rintro x w5 ⟨rfl, hc5⟩
  have hX5 := hX4.chg_ hc5 (by simp)
  have hcB6 := hcB5.trans hc5 (by simp)
  clear hX4 hcB5 hc5
  obtain ⟨e0, e1, e2, e3, e4, e5, e6, e7, e8⟩ := blk9 hX5
  go_wp2_with fail
  go_ret
  exact ⟨rfl, hcB6⟩

theorem PteBack_at (v : Nat) (e : Ent) (w : World) (hv : v < 18446744073709551616) :
    Calls Try.prog 4 #[.int .u64 v, .agg e.cs] w fun x w' => x = .returned (.bool true) ∧ Chg [] w w' := by
  by_cases ha : e.ok = true
  · cases hb : (getE v).bad
    · exact back_ok_good v e w hv ha hb
    · exact back_ok_bad v e w hv ha hb
  · cases hb0 : e.bad
    · by_cases hl : e.f < 0
      · cases hb : (getE v).bad
        · exact back_low_good v e w hv hb0 hl hb
        · exact back_low_bad v e w hv hb0 hl hb
      · have hh : 1048576 ≤ e.f := by
          simp [Ent.ok, hb0] at ha; omega
        cases hb : (getE v).bad
        · exact back_high_good v e w hv hb0 hh hb
        · exact back_high_bad v e w hv hb0 hh hb
    · cases hb : (getE v).bad
      · exact back_bad_good v e w hv hb0 hb
      · exact back_bad_bad v e w hv hb0 hb

end Go.Proofs.Ytgmdnglododhfaa
