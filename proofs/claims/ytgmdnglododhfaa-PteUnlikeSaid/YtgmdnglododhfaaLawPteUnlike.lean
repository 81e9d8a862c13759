/-
  PteUnlike: the walk.
-/
import Derived.Test.YtgmdnglododhfaaPteHead
namespace Go.Proofs.Ytgmdnglododhfaa
open Go.RowKit

theorem unlike_put (p q : Ent) : p.ok = false ∨ (p.ok = true ∧ q.ok = false) ∨ (p.ok = true ∧ q.ok = true ∧ ((putV p : Int) == (putV q : Int)) = true ∧ p.eqb q = true) ∨ (p.ok = true ∧ q.ok = true ∧ ((putV p : Int) == (putV q : Int)) = false ∧ p.eqb q = false) := by
  cases hp : p.ok
  · exact .inl rfl
  · cases hq : q.ok
    · exact .inr (.inl ⟨rfl, rfl⟩)
    · by_cases e : p = q
      · subst e; exact .inr (.inr (.inl ⟨rfl, rfl, by simp, eqb_self p⟩))
      · refine .inr (.inr (.inr ⟨rfl, rfl, ?_, eqb_false e⟩))
        rw [putV_ok hp, putV_ok hq]
        have : putK p 7 ≠ putK q 7 := fun h => e (put_inj hp hq h)
        simp; omega
theorem unlike_get (v x : Nat) (hv : v < 18446744073709551616) (hx : x < 18446744073709551616) : (getE v).bad = true ∨ ((getE v).bad = false ∧ (getE x).bad = true) ∨ ((getE v).bad = false ∧ (getE x).bad = false ∧ ((v : Int) == (x : Int)) = true ∧ (getE v).eqb (getE x) = true) ∨ ((getE v).bad = false ∧ (getE x).bad = false ∧ ((v : Int) == (x : Int)) = false ∧ (getE v).eqb (getE x) = false) := by
  cases h1 : (getE v).bad
  · cases h2 : (getE x).bad
    · by_cases e : v = x
      · subst e; exact .inr (.inr (.inl ⟨rfl, rfl, by simp, eqb_self _⟩))
      · refine .inr (.inr (.inr ⟨rfl, rfl, by simp; omega, eqb_false fun h => e (get_inj hv hx h h1)⟩))
    · exact .inr (.inl ⟨rfl, rfl⟩)
  · exact .inl rfl

set_option maxRecDepth 100000 in
set_option maxHeartbeats 4000000 in
theorem unlike_00 (e f : Ent) (v z : Nat) (w : World) (hv : v < 18446744073709551616) (hz : z < 18446744073709551616) (a1 : e.ok = false) (b1 : (getE v).bad = true) :
    Calls Try.prog 7 #[.agg e.cs, .agg f.cs, .int .u64 v, .int .u64 z] w fun x w' => x = .returned (.bool true) ∧ Chg [] w w' := by
  have P1 := fun w => Put_at e w
  have P2 := fun w => Put_at f w
  have G1 := fun w => Get_any v w hv
  have G2 := fun w => Get_any z w hz
  have hq1 := fun w => run_eqE e f w
  have hq2 := fun w => run_eqE (getE v) (getE z) w
  have hecs : (e).cs = #[.bool (e).p, .bool (e).w, .bool (e).u, .bool (e).a, .bool (e).d, .bool (e).s, .bool (e).n, .bool (e).bad, .int .i64 (e).f] := rfl
  have hfcs : (f).cs = #[.bool (f).p, .bool (f).w, .bool (f).u, .bool (f).a, .bool (f).d, .bool (f).s, .bool (f).n, .bool (f).bad, .int .i64 (f).f] := rfl
  have hgcs : (getE v).cs = #[.bool (getE v).p, .bool (getE v).w, .bool (getE v).u, .bool (getE v).a, .bool (getE v).d, .bool (getE v).s, .bool (getE v).n, .bool (getE v).bad, .int .i64 (getE v).f] := rfl
  have hhcs : (getE z).cs = #[.bool (getE z).p, .bool (getE z).w, .bool (getE z).u, .bool (getE z).a, .bool (getE z).d, .bool (getE z).s, .bool (getE z).n, .bool (getE z).bad, .int .i64 (getE z).f] := rfl
  simp only [hecs] at P1 hq1 ⊢
  simp only [hfcs] at P2 hq1 ⊢
  simp only [hgcs] at G1 hq2
  simp only [hhcs] at G2 hq2
  simp only [a1] at P1
  simp only [b1] at G1 hgcs hq2
  clear a1 b1
  generalize putV e = N1 at *
  generalize putV f = N2 at *
  generalize e.ok = k1 at *
  generalize f.ok = k2 at *
  generalize e.eqb f = pb at *
  generalize (getE v).eqb (getE z) = qb at *
  have HeCS := Lib.hid hecs; clear hecs
  generalize (e).p = ep at *
  generalize (e).w = ew at *
  generalize (e).u = eu at *
  generalize (e).a = ea at *
  generalize (e).d = ed at *
  generalize (e).s = es at *
  generalize (e).n = en at *
  generalize (e).bad = eb at *
  generalize (e).f = ef at *
  have HfCS := Lib.hid hfcs; clear hfcs
  generalize (f).p = fp at *
  generalize (f).w = fw at *
  generalize (f).u = fu at *
  generalize (f).a = fa at *
  generalize (f).d = fd at *
  generalize (f).s = fs at *
  generalize (f).n = fn at *
  generalize (f).bad = fb at *
  generalize (f).f = ff at *
  have HgCS := Lib.hid hgcs; clear hgcs
  generalize (getE v).p = gp at *
  generalize (getE v).w = gw at *
  generalize (getE v).u = gu at *
  generalize (getE v).a = ga at *
  generalize (getE v).d = gd at *
  generalize (getE v).s = gs at *
  generalize (getE v).n = gn at *
  generalize (getE v).bad = gb at *
  generalize (getE v).f = gf at *
  have HhCS := Lib.hid hhcs; clear hhcs
  generalize (getE z).p = hp at *
  generalize (getE z).w = hw at *
  generalize (getE z).u = hu at *
  generalize (getE z).a = ha at *
  generalize (getE z).d = hd at *
  generalize (getE z).s = hs at *
  generalize (getE z).n = hn at *
  generalize (getE z).bad = hb at *
  generalize (getE z).f = hf at *
  go_enter Try.func7, Try.ntmps7
  go_wp2_with fail
  refine (head_any _).mono ?_; rintro x w1 ⟨rfl, hc1⟩
  have hB1 := ((Blk.new w 24 #[.bool ep, .bool ew, .bool eu, .bool ea, .bool ed, .bool es, .bool en, .bool eb, .int .i64 ef]).alloc (Obj.cells #[.bool fp, .bool fw, .bool fu, .bool fa, .bool fd, .bool fs, .bool fn, .bool fb, .int .i64 ff] 24)).chg_ hc1 (by simp)
  have hD1 := (Blk.new (w.alloc (Obj.cells #[.bool ep, .bool ew, .bool eu, .bool ea, .bool ed, .bool es, .bool en, .bool eb, .int .i64 ef] 24)) 24 #[.bool fp, .bool fw, .bool fu, .bool fa, .bool fd, .bool fs, .bool fn, .bool fb, .int .i64 ff]).chg_ hc1 (by simp)
  have hcB1 := (((Chg.refl [] w).alloc (Obj.cells #[.bool ep, .bool ew, .bool eu, .bool ea, .bool ed, .bool es, .bool en, .bool eb, .int .i64 ef] 24)).alloc (Obj.cells #[.bool fp, .bool fw, .bool fu, .bool fa, .bool fd, .bool fs, .bool fn, .bool fb, .int .i64 ff] 24)).trans hc1 (by simp)
  simp only [World.size_alloc] at hD1
  clear hc1
  generalize w.heap.size + 1 = g1 at *
  generalize w.heap.size = g at *
  obtain ⟨e0, e1, e2, e3, e4, e5, e6, e7, e8⟩ := blk9 hB1
  go_wp2_with fail
  refine (P1 _).mono ?_; rintro x w2 ⟨rfl, hc2⟩
  have hB2 := hB1.chg_ hc2 (by simp)
  have hD2 := hD1.chg_ hc2 (by simp)
  have hcB2 := hcB1.trans hc2 (by simp)
  clear e0 e1 e2 e3 e4 e5 e6 e7 e8 hB1 hD1 hcB1 hc2
  obtain ⟨d0, d1, d2, d3, d4, d5, d6, d7, d8⟩ := blk9 hD2
  go_wp2_with fail
  refine (P2 _).mono ?_; rintro x w3 ⟨rfl, hc3⟩
  have hB3 := hB2.chg_ hc3 (by simp)
  have hD3 := hD2.chg_ hc3 (by simp)
  have hcB3 := hcB2.trans hc3 (by simp)
  clear d0 d1 d2 d3 d4 d5 d6 d7 d8 hB2 hD2 hcB2 hc3
  obtain ⟨e0, e1, e2, e3, e4, e5, e6, e7, e8⟩ := blk9 hB3
  obtain ⟨d0, d1, d2, d3, d4, d5, d6, d7, d8⟩ := blk9 hD3
  go_wp2_with fail
  refine (G1 _).mono ?_; rintro x w4 ⟨rfl, hc4⟩
  have hcB4 := hcB3.trans hc4 (by simp)
  clear e0 e1 e2 e3 e4 e5 e6 e7 e8 d0 d1 d2 d3 d4 d5 d6 d7 d8 hB3 hD3 hcB3 hc4
  have hX4 := Blk.new w4 24 #[.bool gp, .bool gw, .bool gu, .bool ga, .bool gd, .bool gs, .bool gn, .bool true, .int .i64 gf]
  have hcB5 := hcB4.alloc (Obj.cells #[.bool gp, .bool gw, .bool gu, .bool ga, .bool gd, .bool gs, .bool gn, .bool true, .int .i64 gf] 24)
  clear hcB4
  go_wp2_with fail
  generalize w4.heap.size = gx at *
  refine (G2 _).mono ?_; rintro x w5 ⟨rfl, hc5⟩
  have hX5 := (hX4.chg_ hc5 (by simp)).alloc (Obj.cells #[.bool hp, .bool hw, .bool hu, .bool ha, .bool hd, .bool hs, .bool hn, .bool hb, .int .i64 hf] 24)
  have hcB6 := (hcB5.trans hc5 (by simp)).alloc (Obj.cells #[.bool hp, .bool hw, .bool hu, .bool ha, .bool hd, .bool hs, .bool hn, .bool hb, .int .i64 hf] 24)
  clear hX4 hcB5 hc5
  obtain ⟨e0, e1, e2, e3, e4, e5, e6, e7, e8⟩ := blk9 hX5
  go_wp2_with fail
  go_ret
  exact ⟨rfl, hcB6⟩

set_option maxRecDepth 100000 in
set_option maxHeartbeats 4000000 in
theorem unlike_01 (e f : Ent) (v z : Nat) (w : World) (hv : v < 18446744073709551616) (hz : z < 18446744073709551616) (a1 : e.ok = false) (b1 : (getE v).bad = false) (b2 : (getE z).bad = true) :
    Calls Try.prog 7 #[.agg e.cs, .agg f.cs, .int .u64 v, .int .u64 z] w fun x w' => x = .returned (.bool true) ∧ Chg [] w w' := by
  have P1 := fun w => Put_at e w
  have P2 := fun w => Put_at f w
  have G1 := fun w => Get_any v w hv
  have G2 := fun w => Get_any z w hz
  have hq1 := fun w => run_eqE e f w
  have hq2 := fun w => run_eqE (getE v) (getE z) w
  have hecs : (e).cs = #[.bool (e).p, .bool (e).w, .bool (e).u, .bool (e).a, .bool (e).d, .bool (e).s, .bool (e).n, .bool (e).bad, .int .i64 (e).f] := rfl
  have hfcs : (f).cs = #[.bool (f).p, .bool (f).w, .bool (f).u, .bool (f).a, .bool (f).d, .bool (f).s, .bool (f).n, .bool (f).bad, .int .i64 (f).f] := rfl
  have hgcs : (getE v).cs = #[.bool (getE v).p, .bool (getE v).w, .bool (getE v).u, .bool (getE v).a, .bool (getE v).d, .bool (getE v).s, .bool (getE v).n, .bool (getE v).bad, .int .i64 (getE v).f] := rfl
  have hhcs : (getE z).cs = #[.bool (getE z).p, .bool (getE z).w, .bool (getE z).u, .bool (getE z).a, .bool (getE z).d, .bool (getE z).s, .bool (getE z).n, .bool (getE z).bad, .int .i64 (getE z).f] := rfl
  simp only [hecs] at P1 hq1 ⊢
  simp only [hfcs] at P2 hq1 ⊢
  simp only [hgcs] at G1 hq2
  simp only [hhcs] at G2 hq2
  simp only [a1] at P1
  simp only [b1] at G1 hgcs hq2
  simp only [b2] at G2 hhcs hq2
  clear a1 b1 b2
  generalize putV e = N1 at *
  generalize putV f = N2 at *
  generalize e.ok = k1 at *
  generalize f.ok = k2 at *
  generalize e.eqb f = pb at *
  generalize (getE v).eqb (getE z) = qb at *
  have HeCS := Lib.hid hecs; clear hecs
  generalize (e).p = ep at *
  generalize (e).w = ew at *
  generalize (e).u = eu at *
  generalize (e).a = ea at *
  generalize (e).d = ed at *
  generalize (e).s = es at *
  generalize (e).n = en at *
  generalize (e).bad = eb at *
  generalize (e).f = ef at *
  have HfCS := Lib.hid hfcs; clear hfcs
  generalize (f).p = fp at *
  generalize (f).w = fw at *
  generalize (f).u = fu at *
  generalize (f).a = fa at *
  generalize (f).d = fd at *
  generalize (f).s = fs at *
  generalize (f).n = fn at *
  generalize (f).bad = fb at *
  generalize (f).f = ff at *
  have HgCS := Lib.hid hgcs; clear hgcs
  generalize (getE v).p = gp at *
  generalize (getE v).w = gw at *
  generalize (getE v).u = gu at *
  generalize (getE v).a = ga at *
  generalize (getE v).d = gd at *
  generalize (getE v).s = gs at *
  generalize (getE v).n = gn at *
  generalize (getE v).bad = gb at *
  generalize (getE v).f = gf at *
  have HhCS := Lib.hid hhcs; clear hhcs
  generalize (getE z).p = hp at *
  generalize (getE z).w = hw at *
  generalize (getE z).u = hu at *
  generalize (getE z).a = ha at *
  generalize (getE z).d = hd at *
  generalize (getE z).s = hs at *
  generalize (getE z).n = hn at *
  generalize (getE z).bad = hb at *
  generalize (getE z).f = hf at *
  go_enter Try.func7, Try.ntmps7
  go_wp2_with fail
  refine (head_any _).mono ?_; rintro x w1 ⟨rfl, hc1⟩
  have hB1 := ((Blk.new w 24 #[.bool ep, .bool ew, .bool eu, .bool ea, .bool ed, .bool es, .bool en, .bool eb, .int .i64 ef]).alloc (Obj.cells #[.bool fp, .bool fw, .bool fu, .bool fa, .bool fd, .bool fs, .bool fn, .bool fb, .int .i64 ff] 24)).chg_ hc1 (by simp)
  have hD1 := (Blk.new (w.alloc (Obj.cells #[.bool ep, .bool ew, .bool eu, .bool ea, .bool ed, .bool es, .bool en, .bool eb, .int .i64 ef] 24)) 24 #[.bool fp, .bool fw, .bool fu, .bool fa, .bool fd, .bool fs, .bool fn, .bool fb, .int .i64 ff]).chg_ hc1 (by simp)
  have hcB1 := (((Chg.refl [] w).alloc (Obj.cells #[.bool ep, .bool ew, .bool eu, .bool ea, .bool ed, .bool es, .bool en, .bool eb, .int .i64 ef] 24)).alloc (Obj.cells #[.bool fp, .bool fw, .bool fu, .bool fa, .bool fd, .bool fs, .bool fn, .bool fb, .int .i64 ff] 24)).trans hc1 (by simp)
  simp only [World.size_alloc] at hD1
  clear hc1
  generalize w.heap.size + 1 = g1 at *
  generalize w.heap.size = g at *
  obtain ⟨e0, e1, e2, e3, e4, e5, e6, e7, e8⟩ := blk9 hB1
  go_wp2_with fail
  refine (P1 _).mono ?_; rintro x w2 ⟨rfl, hc2⟩
  have hB2 := hB1.chg_ hc2 (by simp)
  have hD2 := hD1.chg_ hc2 (by simp)
  have hcB2 := hcB1.trans hc2 (by simp)
  clear e0 e1 e2 e3 e4 e5 e6 e7 e8 hB1 hD1 hcB1 hc2
  obtain ⟨d0, d1, d2, d3, d4, d5, d6, d7, d8⟩ := blk9 hD2
  go_wp2_with fail
  refine (P2 _).mono ?_; rintro x w3 ⟨rfl, hc3⟩
  have hB3 := hB2.chg_ hc3 (by simp)
  have hD3 := hD2.chg_ hc3 (by simp)
  have hcB3 := hcB2.trans hc3 (by simp)
  clear d0 d1 d2 d3 d4 d5 d6 d7 d8 hB2 hD2 hcB2 hc3
  obtain ⟨e0, e1, e2, e3, e4, e5, e6, e7, e8⟩ := blk9 hB3
  obtain ⟨d0, d1, d2, d3, d4, d5, d6, d7, d8⟩ := blk9 hD3
  go_wp2_with fail
  refine (G1 _).mono ?_; rintro x w4 ⟨rfl, hc4⟩
  have hcB4 := hcB3.trans hc4 (by simp)
  clear e0 e1 e2 e3 e4 e5 e6 e7 e8 d0 d1 d2 d3 d4 d5 d6 d7 d8 hB3 hD3 hcB3 hc4
  have hX4 := Blk.new w4 24 #[.bool gp, .bool gw, .bool gu, .bool ga, .bool gd, .bool gs, .bool gn, .bool false, .int .i64 gf]
  have hcB5 := hcB4.alloc (Obj.cells #[.bool gp, .bool gw, .bool gu, .bool ga, .bool gd, .bool gs, .bool gn, .bool false, .int .i64 gf] 24)
  clear hcB4
  go_wp2_with fail
  generalize w4.heap.size = gx at *
  refine (G2 _).mono ?_; rintro x w5 ⟨rfl, hc5⟩
  have hX5 := (hX4.chg_ hc5 (by simp)).alloc (Obj.cells #[.bool hp, .bool hw, .bool hu, .bool ha, .bool hd, .bool hs, .bool hn, .bool true, .int .i64 hf] 24)
  have hcB6 := (hcB5.trans hc5 (by simp)).alloc (Obj.cells #[.bool hp, .bool hw, .bool hu, .bool ha, .bool hd, .bool hs, .bool hn, .bool true, .int .i64 hf] 24)
  clear hX4 hcB5 hc5
  obtain ⟨e0, e1, e2, e3, e4, e5, e6, e7, e8⟩ := blk9 hX5
  go_wp2_with fail
  go_ret
  exact ⟨rfl, hcB6⟩

set_option maxRecDepth 100000 in
set_option maxHeartbeats 4000000 in
theorem unlike_02 (e f : Ent) (v z : Nat) (w : World) (hv : v < 18446744073709551616) (hz : z < 18446744073709551616) (a1 : e.ok = false) (b1 : (getE v).bad = false) (b2 : (getE z).bad = false) (b3 : ((v : Int) == (z : Int)) = true) (b4 : (getE v).eqb (getE z) = true) :
    Calls Try.prog 7 #[.agg e.cs, .agg f.cs, .int .u64 v, .int .u64 z] w fun x w' => x = .returned (.bool true) ∧ Chg [] w w' := by
  have P1 := fun w => Put_at e w
  have P2 := fun w => Put_at f w
  have G1 := fun w => Get_any v w hv
  have G2 := fun w => Get_any z w hz
  have hq1 := fun w => run_eqE e f w
  have hq2 := fun w => run_eqE (getE v) (getE z) w
  have hecs : (e).cs = #[.bool (e).p, .bool (e).w, .bool (e).u, .bool (e).a, .bool (e).d, .bool (e).s, .bool (e).n, .bool (e).bad, .int .i64 (e).f] := rfl
  have hfcs : (f).cs = #[.bool (f).p, .bool (f).w, .bool (f).u, .bool (f).a, .bool (f).d, .bool (f).s, .bool (f).n, .bool (f).bad, .int .i64 (f).f] := rfl
  have hgcs : (getE v).cs = #[.bool (getE v).p, .bool (getE v).w, .bool (getE v).u, .bool (getE v).a, .bool (getE v).d, .bool (getE v).s, .bool (getE v).n, .bool (getE v).bad, .int .i64 (getE v).f] := rfl
  have hhcs : (getE z).cs = #[.bool (getE z).p, .bool (getE z).w, .bool (getE z).u, .bool (getE z).a, .bool (getE z).d, .bool (getE z).s, .bool (getE z).n, .bool (getE z).bad, .int .i64 (getE z).f] := rfl
  simp only [hecs] at P1 hq1 ⊢
  simp only [hfcs] at P2 hq1 ⊢
  simp only [hgcs] at G1 hq2
  simp only [hhcs] at G2 hq2
  simp only [a1] at P1
  simp only [b1] at G1 hgcs hq2
  simp only [b2] at G2 hhcs hq2
  simp only [b4] at hq2
  clear a1 b1 b2 b4
  generalize putV e = N1 at *
  generalize putV f = N2 at *
  generalize e.ok = k1 at *
  generalize f.ok = k2 at *
  generalize e.eqb f = pb at *
  generalize (getE v).eqb (getE z) = qb at *
  have HeCS := Lib.hid hecs; clear hecs
  generalize (e).p = ep at *
  generalize (e).w = ew at *
  generalize (e).u = eu at *
  generalize (e).a = ea at *
  generalize (e).d = ed at *
  generalize (e).s = es at *
  generalize (e).n = en at *
  generalize (e).bad = eb at *
  generalize (e).f = ef at *
  have HfCS := Lib.hid hfcs; clear hfcs
  generalize (f).p = fp at *
  generalize (f).w = fw at *
  generalize (f).u = fu at *
  generalize (f).a = fa at *
  generalize (f).d = fd at *
  generalize (f).s = fs at *
  generalize (f).n = fn at *
  generalize (f).bad = fb at *
  generalize (f).f = ff at *
  have HgCS := Lib.hid hgcs; clear hgcs
  generalize (getE v).p = gp at *
  generalize (getE v).w = gw at *
  generalize (getE v).u = gu at *
  generalize (getE v).a = ga at *
  generalize (getE v).d = gd at *
  generalize (getE v).s = gs at *
  generalize (getE v).n = gn at *
  generalize (getE v).bad = gb at *
  generalize (getE v).f = gf at *
  have HhCS := Lib.hid hhcs; clear hhcs
  generalize (getE z).p = hp at *
  generalize (getE z).w = hw at *
  generalize (getE z).u = hu at *
  generalize (getE z).a = ha at *
  generalize (getE z).d = hd at *
  generalize (getE z).s = hs at *
  generalize (getE z).n = hn at *
  generalize (getE z).bad = hb at *
  generalize (getE z).f = hf at *
  go_enter Try.func7, Try.ntmps7
  go_wp2_with fail
  refine (head_any _).mono ?_; rintro x w1 ⟨rfl, hc1⟩
  have hB1 := ((Blk.new w 24 #[.bool ep, .bool ew, .bool eu, .bool ea, .bool ed, .bool es, .bool en, .bool eb, .int .i64 ef]).alloc (Obj.cells #[.bool fp, .bool fw, .bool fu, .bool fa, .bool fd, .bool fs, .bool fn, .bool fb, .int .i64 ff] 24)).chg_ hc1 (by simp)
  have hD1 := (Blk.new (w.alloc (Obj.cells #[.bool ep, .bool ew, .bool eu, .bool ea, .bool ed, .bool es, .bool en, .bool eb, .int .i64 ef] 24)) 24 #[.bool fp, .bool fw, .bool fu, .bool fa, .bool fd, .bool fs, .bool fn, .bool fb, .int .i64 ff]).chg_ hc1 (by simp)
  have hcB1 := (((Chg.refl [] w).alloc (Obj.cells #[.bool ep, .bool ew, .bool eu, .bool ea, .bool ed, .bool es, .bool en, .bool eb, .int .i64 ef] 24)).alloc (Obj.cells #[.bool fp, .bool fw, .bool fu, .bool fa, .bool fd, .bool fs, .bool fn, .bool fb, .int .i64 ff] 24)).trans hc1 (by simp)
  simp only [World.size_alloc] at hD1
  clear hc1
  generalize w.heap.size + 1 = g1 at *
  generalize w.heap.size = g at *
  obtain ⟨e0, e1, e2, e3, e4, e5, e6, e7, e8⟩ := blk9 hB1
  go_wp2_with fail
  refine (P1 _).mono ?_; rintro x w2 ⟨rfl, hc2⟩
  have hB2 := hB1.chg_ hc2 (by simp)
  have hD2 := hD1.chg_ hc2 (by simp)
  have hcB2 := hcB1.trans hc2 (by simp)
  clear e0 e1 e2 e3 e4 e5 e6 e7 e8 hB1 hD1 hcB1 hc2
  obtain ⟨d0, d1, d2, d3, d4, d5, d6, d7, d8⟩ := blk9 hD2
  go_wp2_with fail
  refine (P2 _).mono ?_; rintro x w3 ⟨rfl, hc3⟩
  have hB3 := hB2.chg_ hc3 (by simp)
  have hD3 := hD2.chg_ hc3 (by simp)
  have hcB3 := hcB2.trans hc3 (by simp)
  clear d0 d1 d2 d3 d4 d5 d6 d7 d8 hB2 hD2 hcB2 hc3
  obtain ⟨e0, e1, e2, e3, e4, e5, e6, e7, e8⟩ := blk9 hB3
  obtain ⟨d0, d1, d2, d3, d4, d5, d6, d7, d8⟩ := blk9 hD3
  go_wp2_with fail
  refine (G1 _).mono ?_; rintro x w4 ⟨rfl, hc4⟩
  have hcB4 := hcB3.trans hc4 (by simp)
  clear e0 e1 e2 e3 e4 e5 e6 e7 e8 d0 d1 d2 d3 d4 d5 d6 d7 d8 hB3 hD3 hcB3 hc4
  have hX4 := Blk.new w4 24 #[.bool gp, .bool gw, .bool gu, .bool ga, .bool gd, .bool gs, .bool gn, .bool false, .int .i64 gf]
  have hcB5 := hcB4.alloc (Obj.cells #[.bool gp, .bool gw, .bool gu, .bool ga, .bool gd, .bool gs, .bool gn, .bool false, .int .i64 gf] 24)
  clear hcB4
  go_wp2_with fail
  generalize w4.heap.size = gx at *
  refine (G2 _).mono ?_; rintro x w5 ⟨rfl, hc5⟩
  have hX5 := (hX4.chg_ hc5 (by simp)).alloc (Obj.cells #[.bool hp, .bool hw, .bool hu, .bool ha, .bool hd, .bool hs, .bool hn, .bool false, .int .i64 hf] 24)
  have hcB6 := (hcB5.trans hc5 (by simp)).alloc (Obj.cells #[.bool hp, .bool hw, .bool hu, .bool ha, .bool hd, .bool hs, .bool hn, .bool false, .int .i64 hf] 24)
  clear hX4 hcB5 hc5
  obtain ⟨e0, e1, e2, e3, e4, e5, e6, e7, e8⟩ := blk9 hX5
  go_wp2_with fail
  go_ret
  exact ⟨rfl, hcB6⟩

set_option maxRecDepth 100000 in
set_option maxHeartbeats 4000000 in
theorem unlike_03 (e f : Ent) (v z : Nat) (w : World) (hv : v < 18446744073709551616) (hz : z < 18446744073709551616) (a1 : e.ok = false) (b1 : (getE v).bad = false) (b2 : (getE z).bad = false) (b3 : ((v : Int) == (z : Int)) = false) (b4 : (getE v).eqb (getE z) = false) :
    Calls Try.prog 7 #[.agg e.cs, .agg f.cs, .int .u64 v, .int .u64 z] w fun x w' => x = .returned (.bool true) ∧ Chg [] w w' := by
  have P1 := fun w => Put_at e w
  have P2 := fun w => Put_at f w
  have G1 := fun w => Get_any v w hv
  have G2 := fun w => Get_any z w hz
  have hq1 := fun w => run_eqE e f w
  have hq2 := fun w => run_eqE (getE v) (getE z) w
  have hecs : (e).cs = #[.bool (e).p, .bool (e).w, .bool (e).u, .bool (e).a, .bool (e).d, .bool (e).s, .bool (e).n, .bool (e).bad, .int .i64 (e).f] := rfl
  have hfcs : (f).cs = #[.bool (f).p, .bool (f).w, .bool (f).u, .bool (f).a, .bool (f).d, .bool (f).s, .bool (f).n, .bool (f).bad, .int .i64 (f).f] := rfl
  have hgcs : (getE v).cs = #[.bool (getE v).p, .bool (getE v).w, .bool (getE v).u, .bool (getE v).a, .bool (getE v).d, .bool (getE v).s, .bool (getE v).n, .bool (getE v).bad, .int .i64 (getE v).f] := rfl
  have hhcs : (getE z).cs = #[.bool (getE z).p, .bool (getE z).w, .bool (getE z).u, .bool (getE z).a, .bool (getE z).d, .bool (getE z).s, .bool (getE z).n, .bool (getE z).bad, .int .i64 (getE z).f] := rfl
  simp only [hecs] at P1 hq1 ⊢
  simp only [hfcs] at P2 hq1 ⊢
  simp only [hgcs] at G1 hq2
  simp only [hhcs] at G2 hq2
  simp only [a1] at P1
  simp only [b1] at G1 hgcs hq2
  simp only [b2] at G2 hhcs hq2
  simp only [b4] at hq2
  clear a1 b1 b2 b4
  generalize putV e = N1 at *
  generalize putV f = N2 at *
  generalize e.ok = k1 at *
  generalize f.ok = k2 at *
  generalize e.eqb f = pb at *
  generalize (getE v).eqb (getE z) = qb at *
  have HeCS := Lib.hid hecs; clear hecs
  generalize (e).p = ep at *
  generalize (e).w = ew at *
  generalize (e).u = eu at *
  generalize (e).a = ea at *
  generalize (e).d = ed at *
  generalize (e).s = es at *
  generalize (e).n = en at *
  generalize (e).bad = eb at *
  generalize (e).f = ef at *
  have HfCS := Lib.hid hfcs; clear hfcs
  generalize (f).p = fp at *
  generalize (f).w = fw at *
  generalize (f).u = fu at *
  generalize (f).a = fa at *
  generalize (f).d = fd at *
  generalize (f).s = fs at *
  generalize (f).n = fn at *
  generalize (f).bad = fb at *
  generalize (f).f = ff at *
  have HgCS := Lib.hid hgcs; clear hgcs
  generalize (getE v).p = gp at *
  generalize (getE v).w = gw at *
  generalize (getE v).u = gu at *
  generalize (getE v).a = ga at *
  generalize (getE v).d = gd at *
  generalize (getE v).s = gs at *
  generalize (getE v).n = gn at *
  generalize (getE v).bad = gb at *
  generalize (getE v).f = gf at *
  have HhCS := Lib.hid hhcs; clear hhcs
  generalize (getE z).p = hp at *
  generalize (getE z).w = hw at *
  generalize (getE z).u = hu at *
  generalize (getE z).a = ha at *
  generalize (getE z).d = hd at *
  generalize (getE z).s = hs at *
  generalize (getE z).n = hn at *
  generalize (getE z).bad = hb at *
  generalize (getE z).f = hf at *
  go_enter Try.func7, Try.ntmps7
  go_wp2_with fail
  refine (head_any _).mono ?_; rintro x w1 ⟨rfl, hc1⟩
  have hB1 := ((Blk.new w 24 #[.bool ep, .bool ew, .bool eu, .bool ea, .bool ed, .bool es, .bool en, .bool eb, .int .i64 ef]).alloc (Obj.cells #[.bool fp, .bool fw, .bool fu, .bool fa, .bool fd, .bool fs, .bool fn, .bool fb, .int .i64 ff] 24)).chg_ hc1 (by simp)
  have hD1 := (Blk.new (w.alloc (Obj.cells #[.bool ep, .bool ew, .bool eu, .bool ea, .bool ed, .bool es, .bool en, .bool eb, .int .i64 ef] 24)) 24 #[.bool fp, .bool fw, .bool fu, .bool fa, .bool fd, .bool fs, .bool fn, .bool fb, .int .i64 ff]).chg_ hc1 (by simp)
  have hcB1 := (((Chg.refl [] w).alloc (Obj.cells #[.bool ep, .bool ew, .bool eu, .bool ea, .bool ed, .bool es, .bool en, .bool eb, .int .i64 ef] 24)).alloc (Obj.cells #[.bool fp, .bool fw, .bool fu, .bool fa, .bool fd, .bool fs, .bool fn, .bool fb, .int .i64 ff] 24)).trans hc1 (by simp)
  simp only [World.size_alloc] at hD1
  clear hc1
  generalize w.heap.size + 1 = g1 at *
  generalize w.heap.size = g at *
  obtain ⟨e0, e1, e2, e3, e4, e5, e6, e7, e8⟩ := blk9 hB1
  go_wp2_with fail
  refine (P1 _).mono ?_; rintro x w2 ⟨rfl, hc2⟩
  have hB2 := hB1.chg_ hc2 (by simp)
  have hD2 := hD1.chg_ hc2 (by simp)
  have hcB2 := hcB1.trans hc2 (by simp)
  clear e0 e1 e2 e3 e4 e5 e6 e7 e8 hB1 hD1 hcB1 hc2
  obtain ⟨d0, d1, d2, d3, d4, d5, d6, d7, d8⟩ := blk9 hD2
  go_wp2_with fail
  refine (P2 _).mono ?_; rintro x w3 ⟨rfl, hc3⟩
  have hB3 := hB2.chg_ hc3 (by simp)
  have hD3 := hD2.chg_ hc3 (by simp)
  have hcB3 := hcB2.trans hc3 (by simp)
  clear d0 d1 d2 d3 d4 d5 d6 d7 d8 hB2 hD2 hcB2 hc3
  obtain ⟨e0, e1, e2, e3, e4, e5, e6, e7, e8⟩ := blk9 hB3
  obtain ⟨d0, d1, d2, d3, d4, d5, d6, d7, d8⟩ := blk9 hD3
  go_wp2_with fail
  refine (G1 _).mono ?_; rintro x w4 ⟨rfl, hc4⟩
  have hcB4 := hcB3.trans hc4 (by simp)
  clear e0 e1 e2 e3 e4 e5 e6 e7 e8 d0 d1 d2 d3 d4 d5 d6 d7 d8 hB3 hD3 hcB3 hc4
  have hX4 := Blk.new w4 24 #[.bool gp, .bool gw, .bool gu, .bool ga, .bool gd, .bool gs, .bool gn, .bool false, .int .i64 gf]
  have hcB5 := hcB4.alloc (Obj.cells #[.bool gp, .bool gw, .bool gu, .bool ga, .bool gd, .bool gs, .bool gn, .bool false, .int .i64 gf] 24)
  clear hcB4
  go_wp2_with fail
  generalize w4.heap.size = gx at *
  refine (G2 _).mono ?_; rintro x w5 ⟨rfl, hc5⟩
  have hX5 := (hX4.chg_ hc5 (by simp)).alloc (Obj.cells #[.bool hp, .bool hw, .bool hu, .bool ha, .bool hd, .bool hs, .bool hn, .bool false, .int .i64 hf] 24)
  have hcB6 := (hcB5.trans hc5 (by simp)).alloc (Obj.cells #[.bool hp, .bool hw, .bool hu, .bool ha, .bool hd, .bool hs, .bool hn, .bool false, .int .i64 hf] 24)
  clear hX4 hcB5 hc5
  obtain ⟨e0, e1, e2, e3, e4, e5, e6, e7, e8⟩ := blk9 hX5
  go_wp2_with fail
  go_ret
  exact ⟨rfl, hcB6⟩

set_option maxRecDepth 100000 in
set_option maxHeartbeats 4000000 in
theorem unlike_10 (e f : Ent) (v z : Nat) (w : World) (hv : v < 18446744073709551616) (hz : z < 18446744073709551616) (a1 : e.ok = true) (a2 : f.ok = false) (b1 : (getE v).bad = true) :
    Calls Try.prog 7 #[.agg e.cs, .agg f.cs, .int .u64 v, .int .u64 z] w fun x w' => x = .returned (.bool true) ∧ Chg [] w w' := by
  have P1 := fun w => Put_at e w
  have P2 := fun w => Put_at f w
  have G1 := fun w => Get_any v w hv
  have G2 := fun w => Get_any z w hz
  have hq1 := fun w => run_eqE e f w
  have hq2 := fun w => run_eqE (getE v) (getE z) w
  have hecs : (e).cs = #[.bool (e).p, .bool (e).w, .bool (e).u, .bool (e).a, .bool (e).d, .bool (e).s, .bool (e).n, .bool (e).bad, .int .i64 (e).f] := rfl
  have hfcs : (f).cs = #[.bool (f).p, .bool (f).w, .bool (f).u, .bool (f).a, .bool (f).d, .bool (f).s, .bool (f).n, .bool (f).bad, .int .i64 (f).f] := rfl
  have hgcs : (getE v).cs = #[.bool (getE v).p, .bool (getE v).w, .bool (getE v).u, .bool (getE v).a, .bool (getE v).d, .bool (getE v).s, .bool (getE v).n, .bool (getE v).bad, .int .i64 (getE v).f] := rfl
  have hhcs : (getE z).cs = #[.bool (getE z).p, .bool (getE z).w, .bool (getE z).u, .bool (getE z).a, .bool (getE z).d, .bool (getE z).s, .bool (getE z).n, .bool (getE z).bad, .int .i64 (getE z).f] := rfl
  simp only [hecs] at P1 hq1 ⊢
  simp only [hfcs] at P2 hq1 ⊢
  simp only [hgcs] at G1 hq2
  simp only [hhcs] at G2 hq2
  simp only [a1] at P1
  simp only [a2] at P2
  simp only [b1] at G1 hgcs hq2
  clear a1 a2 b1
  generalize putV e = N1 at *
  generalize putV f = N2 at *
  generalize e.ok = k1 at *
  generalize f.ok = k2 at *
  generalize e.eqb f = pb at *
  generalize (getE v).eqb (getE z) = qb at *
  have HeCS := Lib.hid hecs; clear hecs
  generalize (e).p = ep at *
  generalize (e).w = ew at *
  generalize (e).u = eu at *
  generalize (e).a = ea at *
  generalize (e).d = ed at *
  generalize (e).s = es at *
  generalize (e).n = en at *
  generalize (e).bad = eb at *
  generalize (e).f = ef at *
  have HfCS := Lib.hid hfcs; clear hfcs
  generalize (f).p = fp at *
  generalize (f).w = fw at *
  generalize (f).u = fu at *
  generalize (f).a = fa at *
  generalize (f).d = fd at *
  generalize (f).s = fs at *
  generalize (f).n = fn at *
  generalize (f).bad = fb at *
  generalize (f).f = ff at *
  have HgCS := Lib.hid hgcs; clear hgcs
  generalize (getE v).p = gp at *
  generalize (getE v).w = gw at *
  generalize (getE v).u = gu at *
  generalize (getE v).a = ga at *
  generalize (getE v).d = gd at *
  generalize (getE v).s = gs at *
  generalize (getE v).n = gn at *
  generalize (getE v).bad = gb at *
  generalize (getE v).f = gf at *
  have HhCS := Lib.hid hhcs; clear hhcs
  generalize (getE z).p = hp at *
  generalize (getE z).w = hw at *
  generalize (getE z).u = hu at *
  generalize (getE z).a = ha at *
  generalize (getE z).d = hd at *
  generalize (getE z).s = hs at *
  generalize (getE z).n = hn at *
  generalize (getE z).bad = hb at *
  generalize (getE z).f = hf at *
  go_enter Try.func7, Try.ntmps7
  go_wp2_with fail
  refine (head_any _).mono ?_; rintro x w1 ⟨rfl, hc1⟩
  have hB1 := ((Blk.new w 24 #[.bool ep, .bool ew, .bool eu, .bool ea, .bool ed, .bool es, .bool en, .bool eb, .int .i64 ef]).alloc (Obj.cells #[.bool fp, .bool fw, .bool fu, .bool fa, .bool fd, .bool fs, .bool fn, .bool fb, .int .i64 ff] 24)).chg_ hc1 (by simp)
  have hD1 := (Blk.new (w.alloc (Obj.cells #[.bool ep, .bool ew, .bool eu, .bool ea, .bool ed, .bool es, .bool en, .bool eb, .int .i64 ef] 24)) 24 #[.bool fp, .bool fw, .bool fu, .bool fa, .bool fd, .bool fs, .bool fn, .bool fb, .int .i64 ff]).chg_ hc1 (by simp)
  have hcB1 := (((Chg.refl [] w).alloc (Obj.cells #[.bool ep, .bool ew, .bool eu, .bool ea, .bool ed, .bool es, .bool en, .bool eb, .int .i64 ef] 24)).alloc (Obj.cells #[.bool fp, .bool fw, .bool fu, .bool fa, .bool fd, .bool fs, .bool fn, .bool fb, .int .i64 ff] 24)).trans hc1 (by simp)
  simp only [World.size_alloc] at hD1
  clear hc1
  generalize w.heap.size + 1 = g1 at *
  generalize w.heap.size = g at *
  obtain ⟨e0, e1, e2, e3, e4, e5, e6, e7, e8⟩ := blk9 hB1
  go_wp2_with fail
  refine (P1 _).mono ?_; rintro x w2 ⟨rfl, hc2⟩
  have hB2 := hB1.chg_ hc2 (by simp)
  have hD2 := hD1.chg_ hc2 (by simp)
  have hcB2 := hcB1.trans hc2 (by simp)
  clear e0 e1 e2 e3 e4 e5 e6 e7 e8 hB1 hD1 hcB1 hc2
  obtain ⟨d0, d1, d2, d3, d4, d5, d6, d7, d8⟩ := blk9 hD2
  go_wp2_with fail
  refine (P2 _).mono ?_; rintro x w3 ⟨rfl, hc3⟩
  have hB3 := hB2.chg_ hc3 (by simp)
  have hD3 := hD2.chg_ hc3 (by simp)
  have hcB3 := hcB2.trans hc3 (by simp)
  clear d0 d1 d2 d3 d4 d5 d6 d7 d8 hB2 hD2 hcB2 hc3
  obtain ⟨e0, e1, e2, e3, e4, e5, e6, e7, e8⟩ := blk9 hB3
  obtain ⟨d0, d1, d2, d3, d4, d5, d6, d7, d8⟩ := blk9 hD3
  go_wp2_with fail
  refine (G1 _).mono ?_; rintro x w4 ⟨rfl, hc4⟩
  have hcB4 := hcB3.trans hc4 (by simp)
  clear e0 e1 e2 e3 e4 e5 e6 e7 e8 d0 d1 d2 d3 d4 d5 d6 d7 d8 hB3 hD3 hcB3 hc4
  have hX4 := Blk.new w4 24 #[.bool gp, .bool gw, .bool gu, .bool ga, .bool gd, .bool gs, .bool gn, .bool true, .int .i64 gf]
  have hcB5 := hcB4.alloc (Obj.cells #[.bool gp, .bool gw, .bool gu, .bool ga, .bool gd, .bool gs, .bool gn, .bool true, .int .i64 gf] 24)
  clear hcB4
  go_wp2_with fail
  generalize w4.heap.size = gx at *
  refine (G2 _).mono ?_; rintro x w5 ⟨rfl, hc5⟩
  have hX5 := (hX4.chg_ hc5 (by simp)).alloc (Obj.cells #[.bool hp, .bool hw, .bool hu, .bool ha, .bool hd, .bool hs, .bool hn, .bool hb, .int .i64 hf] 24)
  have hcB6 := (hcB5.trans hc5 (by simp)).alloc (Obj.cells #[.bool hp, .bool hw, .bool hu, .bool ha, .bool hd, .bool hs, .bool hn, .bool hb, .int .i64 hf] 24)
  clear hX4 hcB5 hc5
  obtain ⟨e0, e1, e2, e3, e4, e5, e6, e7, e8⟩ := blk9 hX5
  go_wp2_with fail
  go_ret
  exact ⟨rfl, hcB6⟩

set_option maxRecDepth 100000 in
set_option maxHeartbeats 4000000 in
theorem unlike_11 (e f : Ent) (v z : Nat) (w : World) (hv : v < 18446744073709551616) (hz : z < 18446744073709551616) (a1 : e.ok = true) (a2 : f.ok = false) (b1 : (getE v).bad = false) (b2 : (getE z).bad = true) :
    Calls Try.prog 7 #[.agg e.cs, .agg f.cs, .int .u64 v, .int .u64 z] w fun x w' => x = .returned (.bool true) ∧ Chg [] w w' := by
  have P1 := fun w => Put_at e w
  have P2 := fun w => Put_at f w
  have G1 := fun w => Get_any v w hv
  have G2 := fun w => Get_any z w hz
  have hq1 := fun w => run_eqE e f w
  have hq2 := fun w => run_eqE (getE v) (getE z) w
  have hecs : (e).cs = #[.bool (e).p, .bool (e).w, .bool (e).u, .bool (e).a, .bool (e).d, .bool (e).s, .bool (e).n, .bool (e).bad, .int .i64 (e).f] := rfl
  have hfcs : (f).cs = #[.bool (f).p, .bool (f).w, .bool (f).u, .bool (f).a, .bool (f).d, .bool (f).s, .bool (f).n, .bool (f).bad, .int .i64 (f).f] := rfl
  have hgcs : (getE v).cs = #[.bool (getE v).p, .bool (getE v).w, .bool (getE v).u, .bool (getE v).a, .bool (getE v).d, .bool (getE v).s, .bool (getE v).n, .bool (getE v).bad, .int .i64 (getE v).f] := rfl
  have hhcs : (getE z).cs = #[.bool (getE z).p, .bool (getE z).w, .bool (getE z).u, .bool (getE z).a, .bool (getE z).d, .bool (getE z).s, .bool (getE z).n, .bool (getE z).bad, .int .i64 (getE z).f] := rfl
  simp only [hecs] at P1 hq1 ⊢
  simp only [hfcs] at P2 hq1 ⊢
  simp only [hgcs] at G1 hq2
  simp only [hhcs] at G2 hq2
  simp only [a1] at P1
  simp only [a2] at P2
  simp only [b1] at G1 hgcs hq2
  simp only [b2] at G2 hhcs hq2
  clear a1 a2 b1 b2
  generalize putV e = N1 at *
  generalize putV f = N2 at *
  generalize e.ok = k1 at *
  generalize f.ok = k2 at *
  generalize e.eqb f = pb at *
  generalize (getE v).eqb (getE z) = qb at *
  have HeCS := Lib.hid hecs; clear hecs
  generalize (e).p = ep at *
  generalize (e).w = ew at *
  generalize (e).u = eu at *
  generalize (e).a = ea at *
  generalize (e).d = ed at *
  generalize (e).s = es at *
  generalize (e).n = en at *
  generalize (e).bad = eb at *
  generalize (e).f = ef at *
  have HfCS := Lib.hid hfcs; clear hfcs
  generalize (f).p = fp at *
  generalize (f).w = fw at *
  generalize (f).u = fu at *
  generalize (f).a = fa at *
  generalize (f).d = fd at *
  generalize (f).s = fs at *
  generalize (f).n = fn at *
  generalize (f).bad = fb at *
  generalize (f).f = ff at *
  have HgCS := Lib.hid hgcs; clear hgcs
  generalize (getE v).p = gp at *
  generalize (getE v).w = gw at *
  generalize (getE v).u = gu at *
  generalize (getE v).a = ga at *
  generalize (getE v).d = gd at *
  generalize (getE v).s = gs at *
  generalize (getE v).n = gn at *
  generalize (getE v).bad = gb at *
  generalize (getE v).f = gf at *
  have HhCS := Lib.hid hhcs; clear hhcs
  generalize (getE z).p = hp at *
  generalize (getE z).w = hw at *
  generalize (getE z).u = hu at *
  generalize (getE z).a = ha at *
  generalize (getE z).d = hd at *
  generalize (getE z).s = hs at *
  generalize (getE z).n = hn at *
  generalize (getE z).bad = hb at *
  generalize (getE z).f = hf at *
  go_enter Try.func7, Try.ntmps7
  go_wp2_with fail
  refine (head_any _).mono ?_; rintro x w1 ⟨rfl, hc1⟩
  have hB1 := ((Blk.new w 24 #[.bool ep, .bool ew, .bool eu, .bool ea, .bool ed, .bool es, .bool en, .bool eb, .int .i64 ef]).alloc (Obj.cells #[.bool fp, .bool fw, .bool fu, .bool fa, .bool fd, .bool fs, .bool fn, .bool fb, .int .i64 ff] 24)).chg_ hc1 (by simp)
  have hD1 := (Blk.new (w.alloc (Obj.cells #[.bool ep, .bool ew, .bool eu, .bool ea, .bool ed, .bool es, .bool en, .bool eb, .int .i64 ef] 24)) 24 #[.bool fp, .bool fw, .bool fu, .bool fa, .bool fd, .bool fs, .bool fn, .bool fb, .int .i64 ff]).chg_ hc1 (by simp)
  have hcB1 := (((Chg.refl [] w).alloc (Obj.cells #[.bool ep, .bool ew, .bool eu, .bool ea, .bool ed, .bool es, .bool en, .bool eb, .int .i64 ef] 24)).alloc (Obj.cells #[.bool fp, .bool fw, .bool fu, .bool fa, .bool fd, .bool fs, .bool fn, .bool fb, .int .i64 ff] 24)).trans hc1 (by simp)
  simp only [World.size_alloc] at hD1
  clear hc1
  generalize w.heap.size + 1 = g1 at *
  generalize w.heap.size = g at *
  obtain ⟨e0, e1, e2, e3, e4, e5, e6, e7, e8⟩ := blk9 hB1
  go_wp2_with fail
  refine (P1 _).mono ?_; rintro x w2 ⟨rfl, hc2⟩
  have hB2 := hB1.chg_ hc2 (by simp)
  have hD2 := hD1.chg_ hc2 (by simp)
  have hcB2 := hcB1.trans hc2 (by simp)
  clear e0 e1 e2 e3 e4 e5 e6 e7 e8 hB1 hD1 hcB1 hc2
  obtain ⟨d0, d1, d2, d3, d4, d5, d6, d7, d8⟩ := blk9 hD2
  go_wp2_with fail
  refine (P2 _).mono ?_; rintro x w3 ⟨rfl, hc3⟩
  have hB3 := hB2.chg_ hc3 (by simp)
  have hD3 := hD2.chg_ hc3 (by simp)
  have hcB3 := hcB2.trans hc3 (by simp)
  clear d0 d1 d2 d3 d4 d5 d6 d7 d8 hB2 hD2 hcB2 hc3
  obtain ⟨e0, e1, e2, e3, e4, e5, e6, e7, e8⟩ := blk9 hB3
  obtain ⟨d0, d1, d2, d3, d4, d5, d6, d7, d8⟩ := blk9 hD3
  go_wp2_with fail
  refine (G1 _).mono ?_; rintro x w4 ⟨rfl, hc4⟩
  have hcB4 := hcB3.trans hc4 (by simp)
  clear e0 e1 e2 e3 e4 e5 e6 e7 e8 d0 d1 d2 d3 d4 d5 d6 d7 d8 hB3 hD3 hcB3 hc4
  have hX4 := Blk.new w4 24 #[.bool gp, .bool gw, .bool gu, .bool ga, .bool gd, .bool gs, .bool gn, .bool false, .int .i64 gf]
  have hcB5 := hcB4.alloc (Obj.cells #[.bool gp, .bool gw, .bool gu, .bool ga, .bool gd, .bool gs, .bool gn, .bool false, .int .i64 gf] 24)
  clear hcB4
  go_wp2_with fail
  generalize w4.heap.size = gx at *
  refine (G2 _).mono ?_; rintro x w5 ⟨rfl, hc5⟩
  have hX5 := (hX4.chg_ hc5 (by simp)).alloc (Obj.cells #[.bool hp, .bool hw, .bool hu, .bool ha, .bool hd, .bool hs, .bool hn, .bool true, .int .i64 hf] 24)
  have hcB6 := (hcB5.trans hc5 (by simp)).alloc (Obj.cells #[.bool hp, .bool hw, .bool hu, .bool ha, .bool hd, .bool hs, .bool hn, .bool true, .int .i64 hf] 24)
  clear hX4 hcB5 hc5
  obtain ⟨e0, e1, e2, e3, e4, e5, e6, e7, e8⟩ := blk9 hX5
  go_wp2_with fail
  go_ret
  exact ⟨rfl, hcB6⟩

set_option maxRecDepth 100000 in
set_option maxHeartbeats 4000000 in
theorem unlike_12 (e f : Ent) (v z : Nat) (w : World) (hv : v < 18446744073709551616) (hz : z < 18446744073709551616) (a1 : e.ok = true) (a2 : f.ok = false) (b1 : (getE v).bad = false) (b2 : (getE z).bad = false) (b3 : ((v : Int) == (z : Int)) = true) (b4 : (getE v).eqb (getE z) = true) :
    Calls Try.prog 7 #[.agg e.cs, .agg f.cs, .int .u64 v, .int .u64 z] w fun x w' => x = .returned (.bool true) ∧ Chg [] w w' := by
  have P1 := fun w => Put_at e w
  have P2 := fun w => Put_at f w
  have G1 := fun w => Get_any v w hv
  have G2 := fun w => Get_any z w hz
  have hq1 := fun w => run_eqE e f w
  have hq2 := fun w => run_eqE (getE v) (getE z) w
  have hecs : (e).cs = #[.bool (e).p, .bool (e).w, .bool (e).u, .bool (e).a, .bool (e).d, .bool (e).s, .bool (e).n, .bool (e).bad, .int .i64 (e).f] := rfl
  have hfcs : (f).cs = #[.bool (f).p, .bool (f).w, .bool (f).u, .bool (f).a, .bool (f).d, .bool (f).s, .bool (f).n, .bool (f).bad, .int .i64 (f).f] := rfl
  have hgcs : (getE v).cs = #[.bool (getE v).p, .bool (getE v).w, .bool (getE v).u, .bool (getE v).a, .bool (getE v).d, .bool (getE v).s, .bool (getE v).n, .bool (getE v).bad, .int .i64 (getE v).f] := rfl
  have hhcs : (getE z).cs = #[.bool (getE z).p, .bool (getE z).w, .bool (getE z).u, .bool (getE z).a, .bool (getE z).d, .bool (getE z).s, .bool (getE z).n, .bool (getE z).bad, .int .i64 (getE z).f] := rfl
  simp only [hecs] at P1 hq1 ⊢
  simp only [hfcs] at P2 hq1 ⊢
  simp only [hgcs] at G1 hq2
  simp only [hhcs] at G2 hq2
  simp only [a1] at P1
  simp only [a2] at P2
  simp only [b1] at G1 hgcs hq2
  simp only [b2] at G2 hhcs hq2
  simp only [b4] at hq2
  clear a1 a2 b1 b2 b4
  generalize putV e = N1 at *
  generalize putV f = N2 at *
  generalize e.ok = k1 at *
  generalize f.ok = k2 at *
  generalize e.eqb f = pb at *
  generalize (getE v).eqb (getE z) = qb at *
  have HeCS := Lib.hid hecs; clear hecs
  generalize (e).p = ep at *
  generalize (e).w = ew at *
  generalize (e).u = eu at *
  generalize (e).a = ea at *
  generalize (e).d = ed at *
  generalize (e).s = es at *
  generalize (e).n = en at *
  generalize (e).bad = eb at *
  generalize (e).f = ef at *
  have HfCS := Lib.hid hfcs; clear hfcs
  generalize (f).p = fp at *
  generalize (f).w = fw at *
  generalize (f).u = fu at *
  generalize (f).a = fa at *
  generalize (f).d = fd at *
  generalize (f).s = fs at *
  generalize (f).n = fn at *
  generalize (f).bad = fb at *
  generalize (f).f = ff at *
  have HgCS := Lib.hid hgcs; clear hgcs
  generalize (getE v).p = gp at *
  generalize (getE v).w = gw at *
  generalize (getE v).u = gu at *
  generalize (getE v).a = ga at *
  generalize (getE v).d = gd at *
  generalize (getE v).s = gs at *
  generalize (getE v).n = gn at *
  generalize (getE v).bad = gb at *
  generalize (getE v).f = gf at *
  have HhCS := Lib.hid hhcs; clear hhcs
  generalize (getE z).p = hp at *
  generalize (getE z).w = hw at *
  generalize (getE z).u = hu at *
  generalize (getE z).a = ha at *
  generalize (getE z).d = hd at *
  generalize (getE z).s = hs at *
  generalize (getE z).n = hn at *
  generalize (getE z).bad = hb at *
  generalize (getE z).f = hf at *
  go_enter Try.func7, Try.ntmps7
  go_wp2_with fail
  refine (head_any _).mono ?_; rintro x w1 ⟨rfl, hc1⟩
  have hB1 := ((Blk.new w 24 #[.bool ep, .bool ew, .bool eu, .bool ea, .bool ed, .bool es, .bool en, .bool eb, .int .i64 ef]).alloc (Obj.cells #[.bool fp, .bool fw, .bool fu, .bool fa, .bool fd, .bool fs, .bool fn, .bool fb, .int .i64 ff] 24)).chg_ hc1 (by simp)
  have hD1 := (Blk.new (w.alloc (Obj.cells #[.bool ep, .bool ew, .bool eu, .bool ea, .bool ed, .bool es, .bool en, .bool eb, .int .i64 ef] 24)) 24 #[.bool fp, .bool fw, .bool fu, .bool fa, .bool fd, .bool fs, .bool fn, .bool fb, .int .i64 ff]).chg_ hc1 (by simp)
  have hcB1 := (((Chg.refl [] w).alloc (Obj.cells #[.bool ep, .bool ew, .bool eu, .bool ea, .bool ed, .bool es, .bool en, .bool eb, .int .i64 ef] 24)).alloc (Obj.cells #[.bool fp, .bool fw, .bool fu, .bool fa, .bool fd, .bool fs, .bool fn, .bool fb, .int .i64 ff] 24)).trans hc1 (by simp)
  simp only [World.size_alloc] at hD1
  clear hc1
  generalize w.heap.size + 1 = g1 at *
  generalize w.heap.size = g at *
  obtain ⟨e0, e1, e2, e3, e4, e5, e6, e7, e8⟩ := blk9 hB1
  go_wp2_with fail
  refine (P1 _).mono ?_; rintro x w2 ⟨rfl, hc2⟩
  have hB2 := hB1.chg_ hc2 (by simp)
  have hD2 := hD1.chg_ hc2 (by simp)
  have hcB2 := hcB1.trans hc2 (by simp)
  clear e0 e1 e2 e3 e4 e5 e6 e7 e8 hB1 hD1 hcB1 hc2
  obtain ⟨d0, d1, d2, d3, d4, d5, d6, d7, d8⟩ := blk9 hD2
  go_wp2_with fail
  refine (P2 _).mono ?_; rintro x w3 ⟨rfl, hc3⟩
  have hB3 := hB2.chg_ hc3 (by simp)
  have hD3 := hD2.chg_ hc3 (by simp)
  have hcB3 := hcB2.trans hc3 (by simp)
  clear d0 d1 d2 d3 d4 d5 d6 d7 d8 hB2 hD2 hcB2 hc3
  obtain ⟨e0, e1, e2, e3, e4, e5, e6, e7, e8⟩ := blk9 hB3
  obtain ⟨d0, d1, d2, d3, d4, d5, d6, d7, d8⟩ := blk9 hD3
  go_wp2_with fail
  refine (G1 _).mono ?_; rintro x w4 ⟨rfl, hc4⟩
  have hcB4 := hcB3.trans hc4 (by simp)
  clear e0 e1 e2 e3 e4 e5 e6 e7 e8 d0 d1 d2 d3 d4 d5 d6 d7 d8 hB3 hD3 hcB3 hc4
  have hX4 := Blk.new w4 24 #[.bool gp, .bool gw, .bool gu, .bool ga, .bool gd, .bool gs, .bool gn, .bool false, .int .i64 gf]
  have hcB5 := hcB4.alloc (Obj.cells #[.bool gp, .bool gw, .bool gu, .bool ga, .bool gd, .bool gs, .bool gn, .bool false, .int .i64 gf] 24)
  clear hcB4
  go_wp2_with fail
  generalize w4.heap.size = gx at *
  refine (G2 _).mono ?_; rintro x w5 ⟨rfl, hc5⟩
  have hX5 := (hX4.chg_ hc5 (by simp)).alloc (Obj.cells #[.bool hp, .bool hw, .bool hu, .bool ha, .bool hd, .bool hs, .bool hn, .bool false, .int .i64 hf] 24)
  have hcB6 := (hcB5.trans hc5 (by simp)).alloc (Obj.cells #[.bool hp, .bool hw, .bool hu, .bool ha, .bool hd, .bool hs, .bool hn, .bool false, .int .i64 hf] 24)
  clear hX4 hcB5 hc5
  obtain ⟨e0, e1, e2, e3, e4, e5, e6, e7, e8⟩ := blk9 hX5
  go_wp2_with fail
  go_ret
  exact ⟨rfl, hcB6⟩

set_option maxRecDepth 100000 in
set_option maxHeartbeats 4000000 in
theorem unlike_13 (e f : Ent) (v z : Nat) (w : World) (hv : v < 18446744073709551616) (hz : z < 18446744073709551616) (a1 : e.ok = true) (a2 : f.ok = false) (b1 : (getE v).bad = false) (b2 : (getE z).bad = false) (b3 : ((v : Int) == (z : Int)) = false) (b4 : (getE v).eqb (getE z) = false) :
    Calls Try.prog 7 #[.agg e.cs, .agg f.cs, .int .u64 v, .int .u64 z] w fun x w' => x = .returned (.bool true) ∧ Chg [] w w' := by
  have P1 := fun w => Put_at e w
  have P2 := fun w => Put_at f w
  have G1 := fun w => Get_any v w hv
  have G2 := fun w => Get_any z w hz
  have hq1 := fun w => run_eqE e f w
  have hq2 := fun w => run_eqE (getE v) (getE z) w
  have hecs : (e).cs = #[.bool (e).p, .bool (e).w, .bool (e).u, .bool (e).a, .bool (e).d, .bool (e).s, .bool (e).n, .bool (e).bad, .int .i64 (e).f] := rfl
  have hfcs : (f).cs = #[.bool (f).p, .bool (f).w, .bool (f).u, .bool (f).a, .bool (f).d, .bool (f).s, .bool (f).n, .bool (f).bad, .int .i64 (f).f] := rfl
  have hgcs : (getE v).cs = #[.bool (getE v).p, .bool (getE v).w, .bool (getE v).u, .bool (getE v).a, .bool (getE v).d, .bool (getE v).s, .bool (getE v).n, .bool (getE v).bad, .int .i64 (getE v).f] := rfl
  have hhcs : (getE z).cs = #[.bool (getE z).p, .bool (getE z).w, .bool (getE z).u, .bool (getE z).a, .bool (getE z).d, .bool (getE z).s, .bool (getE z).n, .bool (getE z).bad, .int .i64 (getE z).f] := rfl
  simp only [hecs] at P1 hq1 ⊢
  simp only [hfcs] at P2 hq1 ⊢
  simp only [hgcs] at G1 hq2
  simp only [hhcs] at G2 hq2
  simp only [a1] at P1
  simp only [a2] at P2
  simp only [b1] at G1 hgcs hq2
  simp only [b2] at G2 hhcs hq2
  simp only [b4] at hq2
  clear a1 a2 b1 b2 b4
  generalize putV e = N1 at *
  generalize putV f = N2 at *
  generalize e.ok = k1 at *
  generalize f.ok = k2 at *
  generalize e.eqb f = pb at *
  generalize (getE v).eqb (getE z) = qb at *
  have HeCS := Lib.hid hecs; clear hecs
  generalize (e).p = ep at *
  generalize (e).w = ew at *
  generalize (e).u = eu at *
  generalize (e).a = ea at *
  generalize (e).d = ed at *
  generalize (e).s = es at *
  generalize (e).n = en at *
  generalize (e).bad = eb at *
  generalize (e).f = ef at *
  have HfCS := Lib.hid hfcs; clear hfcs
  generalize (f).p = fp at *
  generalize (f).w = fw at *
  generalize (f).u = fu at *
  generalize (f).a = fa at *
  generalize (f).d = fd at *
  generalize (f).s = fs at *
  generalize (f).n = fn at *
  generalize (f).bad = fb at *
  generalize (f).f = ff at *
  have HgCS := Lib.hid hgcs; clear hgcs
  generalize (getE v).p = gp at *
  generalize (getE v).w = gw at *
  generalize (getE v).u = gu at *
  generalize (getE v).a = ga at *
  generalize (getE v).d = gd at *
  generalize (getE v).s = gs at *
  generalize (getE v).n = gn at *
  generalize (getE v).bad = gb at *
  generalize (getE v).f = gf at *
  have HhCS := Lib.hid hhcs; clear hhcs
  generalize (getE z).p = hp at *
  generalize (getE z).w = hw at *
  generalize (getE z).u = hu at *
  generalize (getE z).a = ha at *
  generalize (getE z).d = hd at *
  generalize (getE z).s = hs at *
  generalize (getE z).n = hn at *
  generalize (getE z).bad = hb at *
  generalize (getE z).f = hf at *
  go_enter Try.func7, Try.ntmps7
  go_wp2_with fail
  refine (head_any _).mono ?_; rintro x w1 ⟨rfl, hc1⟩
  have hB1 := ((Blk.new w 24 #[.bool ep, .bool ew, .bool eu, .bool ea, .bool ed, .bool es, .bool en, .bool eb, .int .i64 ef]).alloc (Obj.cells #[.bool fp, .bool fw, .bool fu, .bool fa, .bool fd, .bool fs, .bool fn, .bool fb, .int .i64 ff] 24)).chg_ hc1 (by simp)
  have hD1 := (Blk.new (w.alloc (Obj.cells #[.bool ep, .bool ew, .bool eu, .bool ea, .bool ed, .bool es, .bool en, .bool eb, .int .i64 ef] 24)) 24 #[.bool fp, .bool fw, .bool fu, .bool fa, .bool fd, .bool fs, .bool fn, .bool fb, .int .i64 ff]).chg_ hc1 (by simp)
  have hcB1 := (((Chg.refl [] w).alloc (Obj.cells #[.bool ep, .bool ew, .bool eu, .bool ea, .bool ed, .bool es, .bool en, .bool eb, .int .i64 ef] 24)).alloc (Obj.cells #[.bool fp, .bool fw, .bool fu, .bool fa, .bool fd, .bool fs, .bool fn, .bool fb, .int .i64 ff] 24)).trans hc1 (by simp)
  simp only [World.size_alloc] at hD1
  clear hc1
  generalize w.heap.size + 1 = g1 at *
  generalize w.heap.size = g at *
  obtain ⟨e0, e1, e2, e3, e4, e5, e6, e7, e8⟩ := blk9 hB1
  go_wp2_with fail
  refine (P1 _).mono ?_; rintro x w2 ⟨rfl, hc2⟩
  have hB2 := hB1.chg_ hc2 (by simp)
  have hD2 := hD1.chg_ hc2 (by simp)
  have hcB2 := hcB1.trans hc2 (by simp)
  clear e0 e1 e2 e3 e4 e5 e6 e7 e8 hB1 hD1 hcB1 hc2
  obtain ⟨d0, d1, d2, d3, d4, d5, d6, d7, d8⟩ := blk9 hD2
  go_wp2_with fail
  refine (P2 _).mono ?_; rintro x w3 ⟨rfl, hc3⟩
  have hB3 := hB2.chg_ hc3 (by simp)
  have hD3 := hD2.chg_ hc3 (by simp)
  have hcB3 := hcB2.trans hc3 (by simp)
  clear d0 d1 d2 d3 d4 d5 d6 d7 d8 hB2 hD2 hcB2 hc3
  obtain ⟨e0, e1, e2, e3, e4, e5, e6, e7, e8⟩ := blk9 hB3
  obtain ⟨d0, d1, d2, d3, d4, d5, d6, d7, d8⟩ := blk9 hD3
  go_wp2_with fail
  refine (G1 _).mono ?_; rintro x w4 ⟨rfl, hc4⟩
  have hcB4 := hcB3.trans hc4 (by simp)
  clear e0 e1 e2 e3 e4 e5 e6 e7 e8 d0 d1 d2 d3 d4 d5 d6 d7 d8 hB3 hD3 hcB3 hc4
  have hX4 := Blk.new w4 24 #[.bool gp, .bool gw, .bool gu, .bool ga, .bool gd, .bool gs, .bool gn, .bool false, .int .i64 gf]
  have hcB5 := hcB4.alloc (Obj.cells #[.bool gp, .bool gw, .bool gu, .bool ga, .bool gd, .bool gs, .bool gn, .bool false, .int .i64 gf] 24)
  clear hcB4
  go_wp2_with fail
  generalize w4.heap.size = gx at *
  refine (G2 _).mono ?_; rintro x w5 ⟨rfl, hc5⟩
  have hX5 := (hX4.chg_ hc5 (by simp)).alloc (Obj.cells #[.bool hp, .bool hw, .bool hu, .bool ha, .bool hd, .bool hs, .bool hn, .bool false, .int .i64 hf] 24)
  have hcB6 := (hcB5.trans hc5 (by simp)).alloc (Obj.cells #[.bool hp, .bool hw, .bool hu, .bool ha, .bool hd, .bool hs, .bool hn, .bool false, .int .i64 hf] 24)
  clear hX4 hcB5 hc5
  obtain ⟨e0, e1, e2, e3, e4, e5, e6, e7, e8⟩ := blk9 hX5
  go_wp2_with fail
  go_ret
  exact ⟨rfl, hcB6⟩

set_option maxRecDepth 100000 in
set_option maxHeartbeats 4000000 in
theorem unlike_20 (e f : Ent) (v z : Nat) (w : World) (hv : v < 18446744073709551616) (hz : z < 18446744073709551616) (a1 : e.ok = true) (a2 : f.ok = true) (a3 : ((putV e : Int) == (putV f : Int)) = true) (a4 : e.eqb f = true) (b1 : (getE v).bad = true) :
    Calls Try.prog 7 #[.agg e.cs, .agg f.cs, .int .u64 v, .int .u64 z] w fun x w' => x = .returned (.bool true) ∧ Chg [] w w' := by
  have P1 := fun w => Put_at e w
  have P2 := fun w => Put_at f w
  have G1 := fun w => Get_any v w hv
  have G2 := fun w => Get_any z w hz
  have hq1 := fun w => run_eqE e f w
  have hq2 := fun w => run_eqE (getE v) (getE z) w
  have hecs : (e).cs = #[.bool (e).p, .bool (e).w, .bool (e).u, .bool (e).a, .bool (e).d, .bool (e).s, .bool (e).n, .bool (e).bad, .int .i64 (e).f] := rfl
  have hfcs : (f).cs = #[.bool (f).p, .bool (f).w, .bool (f).u, .bool (f).a, .bool (f).d, .bool (f).s, .bool (f).n, .bool (f).bad, .int .i64 (f).f] := rfl
  have hgcs : (getE v).cs = #[.bool (getE v).p, .bool (getE v).w, .bool (getE v).u, .bool (getE v).a, .bool (getE v).d, .bool (getE v).s, .bool (getE v).n, .bool (getE v).bad, .int .i64 (getE v).f] := rfl
  have hhcs : (getE z).cs = #[.bool (getE z).p, .bool (getE z).w, .bool (getE z).u, .bool (getE z).a, .bool (getE z).d, .bool (getE z).s, .bool (getE z).n, .bool (getE z).bad, .int .i64 (getE z).f] := rfl
  simp only [hecs] at P1 hq1 ⊢
  simp only [hfcs] at P2 hq1 ⊢
  simp only [hgcs] at G1 hq2
  simp only [hhcs] at G2 hq2
  simp only [a1] at P1
  simp only [a2] at P2
  simp only [a4] at hq1
  simp only [b1] at G1 hgcs hq2
  clear a1 a2 a4 b1
  generalize putV e = N1 at *
  generalize putV f = N2 at *
  generalize e.ok = k1 at *
  generalize f.ok = k2 at *
  generalize e.eqb f = pb at *
  generalize (getE v).eqb (getE z) = qb at *
  have HeCS := Lib.hid hecs; clear hecs
  generalize (e).p = ep at *
  generalize (e).w = ew at *
  generalize (e).u = eu at *
  generalize (e).a = ea at *
  generalize (e).d = ed at *
  generalize (e).s = es at *
  generalize (e).n = en at *
  generalize (e).bad = eb at *
  generalize (e).f = ef at *
  have HfCS := Lib.hid hfcs; clear hfcs
  generalize (f).p = fp at *
  generalize (f).w = fw at *
  generalize (f).u = fu at *
  generalize (f).a = fa at *
  generalize (f).d = fd at *
  generalize (f).s = fs at *
  generalize (f).n = fn at *
  generalize (f).bad = fb at *
  generalize (f).f = ff at *
  have HgCS := Lib.hid hgcs; clear hgcs
  generalize (getE v).p = gp at *
  generalize (getE v).w = gw at *
  generalize (getE v).u = gu at *
  generalize (getE v).a = ga at *
  generalize (getE v).d = gd at *
  generalize (getE v).s = gs at *
  generalize (getE v).n = gn at *
  generalize (getE v).bad = gb at *
  generalize (getE v).f = gf at *
  have HhCS := Lib.hid hhcs; clear hhcs
  generalize (getE z).p = hp at *
  generalize (getE z).w = hw at *
  generalize (getE z).u = hu at *
  generalize (getE z).a = ha at *
  generalize (getE z).d = hd at *
  generalize (getE z).s = hs at *
  generalize (getE z).n = hn at *
  generalize (getE z).bad = hb at *
  generalize (getE z).f = hf at *
  go_enter Try.func7, Try.ntmps7
  go_wp2_with fail
  refine (head_any _).mono ?_; rintro x w1 ⟨rfl, hc1⟩
  have hB1 := ((Blk.new w 24 #[.bool ep, .bool ew, .bool eu, .bool ea, .bool ed, .bool es, .bool en, .bool eb, .int .i64 ef]).alloc (Obj.cells #[.bool fp, .bool fw, .bool fu, .bool fa, .bool fd, .bool fs, .bool fn, .bool fb, .int .i64 ff] 24)).chg_ hc1 (by simp)
  have hD1 := (Blk.new (w.alloc (Obj.cells #[.bool ep, .bool ew, .bool eu, .bool ea, .bool ed, .bool es, .bool en, .bool eb, .int .i64 ef] 24)) 24 #[.bool fp, .bool fw, .bool fu, .bool fa, .bool fd, .bool fs, .bool fn, .bool fb, .int .i64 ff]).chg_ hc1 (by simp)
  have hcB1 := (((Chg.refl [] w).alloc (Obj.cells #[.bool ep, .bool ew, .bool eu, .bool ea, .bool ed, .bool es, .bool en, .bool eb, .int .i64 ef] 24)).alloc (Obj.cells #[.bool fp, .bool fw, .bool fu, .bool fa, .bool fd, .bool fs, .bool fn, .bool fb, .int .i64 ff] 24)).trans hc1 (by simp)
  simp only [World.size_alloc] at hD1
  clear hc1
  generalize w.heap.size + 1 = g1 at *
  generalize w.heap.size = g at *
  obtain ⟨e0, e1, e2, e3, e4, e5, e6, e7, e8⟩ := blk9 hB1
  go_wp2_with fail
  refine (P1 _).mono ?_; rintro x w2 ⟨rfl, hc2⟩
  have hB2 := hB1.chg_ hc2 (by simp)
  have hD2 := hD1.chg_ hc2 (by simp)
  have hcB2 := hcB1.trans hc2 (by simp)
  clear e0 e1 e2 e3 e4 e5 e6 e7 e8 hB1 hD1 hcB1 hc2
  obtain ⟨d0, d1, d2, d3, d4, d5, d6, d7, d8⟩ := blk9 hD2
  go_wp2_with fail
  refine (P2 _).mono ?_; rintro x w3 ⟨rfl, hc3⟩
  have hB3 := hB2.chg_ hc3 (by simp)
  have hD3 := hD2.chg_ hc3 (by simp)
  have hcB3 := hcB2.trans hc3 (by simp)
  clear d0 d1 d2 d3 d4 d5 d6 d7 d8 hB2 hD2 hcB2 hc3
  obtain ⟨e0, e1, e2, e3, e4, e5, e6, e7, e8⟩ := blk9 hB3
  obtain ⟨d0, d1, d2, d3, d4, d5, d6, d7, d8⟩ := blk9 hD3
  go_wp2_with fail
  refine (G1 _).mono ?_; rintro x w4 ⟨rfl, hc4⟩
  have hcB4 := hcB3.trans hc4 (by simp)
  clear e0 e1 e2 e3 e4 e5 e6 e7 e8 d0 d1 d2 d3 d4 d5 d6 d7 d8 hB3 hD3 hcB3 hc4
  have hX4 := Blk.new w4 24 #[.bool gp, .bool gw, .bool gu, .bool ga, .bool gd, .bool gs, .bool gn, .bool true, .int .i64 gf]
  have hcB5 := hcB4.alloc (Obj.cells #[.bool gp, .bool gw, .bool gu, .bool ga, .bool gd, .bool gs, .bool gn, .bool true, .int .i64 gf] 24)
  clear hcB4
  go_wp2_with fail
  generalize w4.heap.size = gx at *
  refine (G2 _).mono ?_; rintro x w5 ⟨rfl, hc5⟩
  have hX5 := (hX4.chg_ hc5 (by simp)).alloc (Obj.cells #[.bool hp, .bool hw, .bool hu, .bool ha, .bool hd, .bool hs, .bool hn, .bool hb, .int .i64 hf] 24)
  have hcB6 := (hcB5.trans hc5 (by simp)).alloc (Obj.cells #[.bool hp, .bool hw, .bool hu, .bool ha, .bool hd, .bool hs, .bool hn, .bool hb, .int .i64 hf] 24)
  clear hX4 hcB5 hc5
  obtain ⟨e0, e1, e2, e3, e4, e5, e6, e7, e8⟩ := blk9 hX5
  go_wp2_with fail
  go_ret
  exact ⟨rfl, hcB6⟩

set_option maxRecDepth 100000 in
set_option maxHeartbeats 4000000 in
theorem unlike_21 (e f : Ent) (v z : Nat) (w : World) (hv : v < 18446744073709551616) (hz : z < 18446744073709551616) (a1 : e.ok = true) (a2 : f.ok = true) (a3 : ((putV e : Int) == (putV f : Int)) = true) (a4 : e.eqb f = true) (b1 : (getE v).bad = false) (b2 : (getE z).bad = true) :
    Calls Try.prog 7 #[.agg e.cs, .agg f.cs, .int .u64 v, .int .u64 z] w fun x w' => x = .returned (.bool true) ∧ Chg [] w w' := by
  have P1 := fun w => Put_at e w
  have P2 := fun w => Put_at f w
  have G1 := fun w => Get_any v w hv
  have G2 := fun w => Get_any z w hz
  have hq1 := fun w => run_eqE e f w
  have hq2 := fun w => run_eqE (getE v) (getE z) w
  have hecs : (e).cs = #[.bool (e).p, .bool (e).w, .bool (e).u, .bool (e).a, .bool (e).d, .bool (e).s, .bool (e).n, .bool (e).bad, .int .i64 (e).f] := rfl
  have hfcs : (f).cs = #[.bool (f).p, .bool (f).w, .bool (f).u, .bool (f).a, .bool (f).d, .bool (f).s, .bool (f).n, .bool (f).bad, .int .i64 (f).f] := rfl
  have hgcs : (getE v).cs = #[.bool (getE v).p, .bool (getE v).w, .bool (getE v).u, .bool (getE v).a, .bool (getE v).d, .bool (getE v).s, .bool (getE v).n, .bool (getE v).bad, .int .i64 (getE v).f] := rfl
  have hhcs : (getE z).cs = #[.bool (getE z).p, .bool (getE z).w, .bool (getE z).u, .bool (getE z).a, .bool (getE z).d, .bool (getE z).s, .bool (getE z).n, .bool (getE z).bad, .int .i64 (getE z).f] := rfl
  simp only [hecs] at P1 hq1 ⊢
  simp only [hfcs] at P2 hq1 ⊢
  simp only [hgcs] at G1 hq2
  simp only [hhcs] at G2 hq2
  simp only [a1] at P1
  simp only [a2] at P2
  simp only [a4] at hq1
  simp only [b1] at G1 hgcs hq2
  simp only [b2] at G2 hhcs hq2
  clear a1 a2 a4 b1 b2
  generalize putV e = N1 at *
  generalize putV f = N2 at *
  generalize e.ok = k1 at *
  generalize f.ok = k2 at *
  generalize e.eqb f = pb at *
  generalize (getE v).eqb (getE z) = qb at *
  have HeCS := Lib.hid hecs; clear hecs
  generalize (e).p = ep at *
  generalize (e).w = ew at *
  generalize (e).u = eu at *
  generalize (e).a = ea at *
  generalize (e).d = ed at *
  generalize (e).s = es at *
  generalize (e).n = en at *
  generalize (e).bad = eb at *
  generalize (e).f = ef at *
  have HfCS := Lib.hid hfcs; clear hfcs
  generalize (f).p = fp at *
  generalize (f).w = fw at *
  generalize (f).u = fu at *
  generalize (f).a = fa at *
  generalize (f).d = fd at *
  generalize (f).s = fs at *
  generalize (f).n = fn at *
  generalize (f).bad = fb at *
  generalize (f).f = ff at *
  have HgCS := Lib.hid hgcs; clear hgcs
  generalize (getE v).p = gp at *
  generalize (getE v).w = gw at *
  generalize (getE v).u = gu at *
  generalize (getE v).a = ga at *
  generalize (getE v).d = gd at *
  generalize (getE v).s = gs at *
  generalize (getE v).n = gn at *
  generalize (getE v).bad = gb at *
  generalize (getE v).f = gf at *
  have HhCS := Lib.hid hhcs; clear hhcs
  generalize (getE z).p = hp at *
  generalize (getE z).w = hw at *
  generalize (getE z).u = hu at *
  generalize (getE z).a = ha at *
  generalize (getE z).d = hd at *
  generalize (getE z).s = hs at *
  generalize (getE z).n = hn at *
  generalize (getE z).bad = hb at *
  generalize (getE z).f = hf at *
  go_enter Try.func7, Try.ntmps7
  go_wp2_with fail
  refine (head_any _).mono ?_; rintro x w1 ⟨rfl, hc1⟩
  have hB1 := ((Blk.new w 24 #[.bool ep, .bool ew, .bool eu, .bool ea, .bool ed, .bool es, .bool en, .bool eb, .int .i64 ef]).alloc (Obj.cells #[.bool fp, .bool fw, .bool fu, .bool fa, .bool fd, .bool fs, .bool fn, .bool fb, .int .i64 ff] 24)).chg_ hc1 (by simp)
  have hD1 := (Blk.new (w.alloc (Obj.cells #[.bool ep, .bool ew, .bool eu, .bool ea, .bool ed, .bool es, .bool en, .bool eb, .int .i64 ef] 24)) 24 #[.bool fp, .bool fw, .bool fu, .bool fa, .bool fd, .bool fs, .bool fn, .bool fb, .int .i64 ff]).chg_ hc1 (by simp)
  have hcB1 := (((Chg.refl [] w).alloc (Obj.cells #[.bool ep, .bool ew, .bool eu, .bool ea, .bool ed, .bool es, .bool en, .bool eb, .int .i64 ef] 24)).alloc (Obj.cells #[.bool fp, .bool fw, .bool fu, .bool fa, .bool fd, .bool fs, .bool fn, .bool fb, .int .i64 ff] 24)).trans hc1 (by simp)
  simp only [World.size_alloc] at hD1
  clear hc1
  generalize w.heap.size + 1 = g1 at *
  generalize w.heap.size = g at *
  obtain ⟨e0, e1, e2, e3, e4, e5, e6, e7, e8⟩ := blk9 hB1
  go_wp2_with fail
  refine (P1 _).mono ?_; rintro x w2 ⟨rfl, hc2⟩
  have hB2 := hB1.chg_ hc2 (by simp)
  have hD2 := hD1.chg_ hc2 (by simp)
  have hcB2 := hcB1.trans hc2 (by simp)
  clear e0 e1 e2 e3 e4 e5 e6 e7 e8 hB1 hD1 hcB1 hc2
  obtain ⟨d0, d1, d2, d3, d4, d5, d6, d7, d8⟩ := blk9 hD2
  go_wp2_with fail
  refine (P2 _).mono ?_; rintro x w3 ⟨rfl, hc3⟩
  have hB3 := hB2.chg_ hc3 (by simp)
  have hD3 := hD2.chg_ hc3 (by simp)
  have hcB3 := hcB2.trans hc3 (by simp)
  clear d0 d1 d2 d3 d4 d5 d6 d7 d8 hB2 hD2 hcB2 hc3
  obtain ⟨e0, e1, e2, e3, e4, e5, e6, e7, e8⟩ := blk9 hB3
  obtain ⟨d0, d1, d2, d3, d4, d5, d6, d7, d8⟩ := blk9 hD3
  go_wp2_with fail
  refine (G1 _).mono ?_; rintro x w4 ⟨rfl, hc4⟩
  have hcB4 := hcB3.trans hc4 (by simp)
  clear e0 e1 e2 e3 e4 e5 e6 e7 e8 d0 d1 d2 d3 d4 d5 d6 d7 d8 hB3 hD3 hcB3 hc4
  have hX4 := Blk.new w4 24 #[.bool gp, .bool gw, .bool gu, .bool ga, .bool gd, .bool gs, .bool gn, .bool false, .int .i64 gf]
  have hcB5 := hcB4.alloc (Obj.cells #[.bool gp, .bool gw, .bool gu, .bool ga, .bool gd, .bool gs, .bool gn, .bool false, .int .i64 gf] 24)
  clear hcB4
  go_wp2_with fail
  generalize w4.heap.size = gx at *
  refine (G2 _).mono ?_; rintro x w5 ⟨rfl, hc5⟩
  have hX5 := (hX4.chg_ hc5 (by simp)).alloc (Obj.cells #[.bool hp, .bool hw, .bool hu, .bool ha, .bool hd, .bool hs, .bool hn, .bool true, .int .i64 hf] 24)
  have hcB6 := (hcB5.trans hc5 (by simp)).alloc (Obj.cells #[.bool hp, .bool hw, .bool hu, .bool ha, .bool hd, .bool hs, .bool hn, .bool true, .int .i64 hf] 24)
  clear hX4 hcB5 hc5
  obtain ⟨e0, e1, e2, e3, e4, e5, e6, e7, e8⟩ := blk9 hX5
  go_wp2_with fail
  go_ret
  exact ⟨rfl, hcB6⟩

set_option maxRecDepth 100000 in
set_option maxHeartbeats 4000000 in
theorem unlike_22 (e f : Ent) (v z : Nat) (w : World) (hv : v < 18446744073709551616) (hz : z < 18446744073709551616) (a1 : e.ok = true) (a2 : f.ok = true) (a3 : ((putV e : Int) == (putV f : Int)) = true) (a4 : e.eqb f = true) (b1 : (getE v).bad = false) (b2 : (getE z).bad = false) (b3 : ((v : Int) == (z : Int)) = true) (b4 : (getE v).eqb (getE z) = true) :
    Calls Try.prog 7 #[.agg e.cs, .agg f.cs, .int .u64 v, .int .u64 z] w fun x w' => x = .returned (.bool true) ∧ Chg [] w w' := by
  have P1 := fun w => Put_at e w
  have P2 := fun w => Put_at f w
  have G1 := fun w => Get_any v w hv
  have G2 := fun w => Get_any z w hz
  have hq1 := fun w => run_eqE e f w
  have hq2 := fun w => run_eqE (getE v) (getE z) w
  have hecs : (e).cs = #[.bool (e).p, .bool (e).w, .bool (e).u, .bool (e).a, .bool (e).d, .bool (e).s, .bool (e).n, .bool (e).bad, .int .i64 (e).f] := rfl
  have hfcs : (f).cs = #[.bool (f).p, .bool (f).w, .bool (f).u, .bool (f).a, .bool (f).d, .bool (f).s, .bool (f).n, .bool (f).bad, .int .i64 (f).f] := rfl
  have hgcs : (getE v).cs = #[.bool (getE v).p, .bool (getE v).w, .bool (getE v).u, .bool (getE v).a, .bool (getE v).d, .bool (getE v).s, .bool (getE v).n, .bool (getE v).bad, .int .i64 (getE v).f] := rfl
  have hhcs : (getE z).cs = #[.bool (getE z).p, .bool (getE z).w, .bool (getE z).u, .bool (getE z).a, .bool (getE z).d, .bool (getE z).s, .bool (getE z).n, .bool (getE z).bad, .int .i64 (getE z).f] := rfl
  simp only [hecs] at P1 hq1 ⊢
  simp only [hfcs] at P2 hq1 ⊢
  simp only [hgcs] at G1 hq2
  simp only [hhcs] at G2 hq2
  simp only [a1] at P1
  simp only [a2] at P2
  simp only [a4] at hq1
  simp only [b1] at G1 hgcs hq2
  simp only [b2] at G2 hhcs hq2
  simp only [b4] at hq2
  clear a1 a2 a4 b1 b2 b4
  generalize putV e = N1 at *
  generalize putV f = N2 at *
  generalize e.ok = k1 at *
  generalize f.ok = k2 at *
  generalize e.eqb f = pb at *
  generalize (getE v).eqb (getE z) = qb at *
  have HeCS := Lib.hid hecs; clear hecs
  generalize (e).p = ep at *
  generalize (e).w = ew at *
  generalize (e).u = eu at *
  generalize (e).a = ea at *
  generalize (e).d = ed at *
  generalize (e).s = es at *
  generalize (e).n = en at *
  generalize (e).bad = eb at *
  generalize (e).f = ef at *
  have HfCS := Lib.hid hfcs; clear hfcs
  generalize (f).p = fp at *
  generalize (f).w = fw at *
  generalize (f).u = fu at *
  generalize (f).a = fa at *
  generalize (f).d = fd at *
  generalize (f).s = fs at *
  generalize (f).n = fn at *
  generalize (f).bad = fb at *
  generalize (f).f = ff at *
  have HgCS := Lib.hid hgcs; clear hgcs
  generalize (getE v).p = gp at *
  generalize (getE v).w = gw at *
  generalize (getE v).u = gu at *
  generalize (getE v).a = ga at *
  generalize (getE v).d = gd at *
  generalize (getE v).s = gs at *
  generalize (getE v).n = gn at *
  generalize (getE v).bad = gb at *
  generalize (getE v).f = gf at *
  have HhCS := Lib.hid hhcs; clear hhcs
  generalize (getE z).p = hp at *
  generalize (getE z).w = hw at *
  generalize (getE z).u = hu at *
  generalize (getE z).a = ha at *
  generalize (getE z).d = hd at *
  generalize (getE z).s = hs at *
  generalize (getE z).n = hn at *
  generalize (getE z).bad = hb at *
  generalize (getE z).f = hf at *
  go_enter Try.func7, Try.ntmps7
  go_wp2_with fail
  refine (head_any _).mono ?_; rintro x w1 ⟨rfl, hc1⟩
  have hB1 := ((Blk.new w 24 #[.bool ep, .bool ew, .bool eu, .bool ea, .bool ed, .bool es, .bool en, .bool eb, .int .i64 ef]).alloc (Obj.cells #[.bool fp, .bool fw, .bool fu, .bool fa, .bool fd, .bool fs, .bool fn, .bool fb, .int .i64 ff] 24)).chg_ hc1 (by simp)
  have hD1 := (Blk.new (w.alloc (Obj.cells #[.bool ep, .bool ew, .bool eu, .bool ea, .bool ed, .bool es, .bool en, .bool eb, .int .i64 ef] 24)) 24 #[.bool fp, .bool fw, .bool fu, .bool fa, .bool fd, .bool fs, .bool fn, .bool fb, .int .i64 ff]).chg_ hc1 (by simp)
  have hcB1 := (((Chg.refl [] w).alloc (Obj.cells #[.bool ep, .bool ew, .bool eu, .bool ea, .bool ed, .bool es, .bool en, .bool eb, .int .i64 ef] 24)).alloc (Obj.cells #[.bool fp, .bool fw, .bool fu, .bool fa, .bool fd, .bool fs, .bool fn, .bool fb, .int .i64 ff] 24)).trans hc1 (by simp)
  simp only [World.size_alloc] at hD1
  clear hc1
  generalize w.heap.size + 1 = g1 at *
  generalize w.heap.size = g at *
  obtain ⟨e0, e1, e2, e3, e4, e5, e6, e7, e8⟩ := blk9 hB1
  go_wp2_with fail
  refine (P1 _).mono ?_; rintro x w2 ⟨rfl, hc2⟩
  have hB2 := hB1.chg_ hc2 (by simp)
  have hD2 := hD1.chg_ hc2 (by simp)
  have hcB2 := hcB1.trans hc2 (by simp)
  clear e0 e1 e2 e3 e4 e5 e6 e7 e8 hB1 hD1 hcB1 hc2
  obtain ⟨d0, d1, d2, d3, d4, d5, d6, d7, d8⟩ := blk9 hD2
  go_wp2_with fail
  refine (P2 _).mono ?_; rintro x w3 ⟨rfl, hc3⟩
  have hB3 := hB2.chg_ hc3 (by simp)
  have hD3 := hD2.chg_ hc3 (by simp)
  have hcB3 := hcB2.trans hc3 (by simp)
  clear d0 d1 d2 d3 d4 d5 d6 d7 d8 hB2 hD2 hcB2 hc3
  obtain ⟨e0, e1, e2, e3, e4, e5, e6, e7, e8⟩ := blk9 hB3
  obtain ⟨d0, d1, d2, d3, d4, d5, d6, d7, d8⟩ := blk9 hD3
  go_wp2_with fail
  refine (G1 _).mono ?_; rintro x w4 ⟨rfl, hc4⟩
  have hcB4 := hcB3.trans hc4 (by simp)
  clear e0 e1 e2 e3 e4 e5 e6 e7 e8 d0 d1 d2 d3 d4 d5 d6 d7 d8 hB3 hD3 hcB3 hc4
  have hX4 := Blk.new w4 24 #[.bool gp, .bool gw, .bool gu, .bool ga, .bool gd, .bool gs, .bool gn, .bool false, .int .i64 gf]
  have hcB5 := hcB4.alloc (Obj.cells #[.bool gp, .bool gw, .bool gu, .bool ga, .bool gd, .bool gs, .bool gn, .bool false, .int .i64 gf] 24)
  clear hcB4
  go_wp2_with fail
  generalize w4.heap.size = gx at *
  refine (G2 _).mono ?_; rintro x w5 ⟨rfl, hc5⟩
  have hX5 := (hX4.chg_ hc5 (by simp)).alloc (Obj.cells #[.bool hp, .bool hw, .bool hu, .bool ha, .bool hd, .bool hs, .bool hn, .bool false, .int .i64 hf] 24)
  have hcB6 := (hcB5.trans hc5 (by simp)).alloc (Obj.cells #[.bool hp, .bool hw, .bool hu, .bool ha, .bool hd, .bool hs, .bool hn, .bool false, .int .i64 hf] 24)
  clear hX4 hcB5 hc5
  obtain ⟨e0, e1, e2, e3, e4, e5, e6, e7, e8⟩ := blk9 hX5
  go_wp2_with fail
  go_ret
  exact ⟨rfl, hcB6⟩

set_option maxRecDepth 100000 in
set_option maxHeartbeats 4000000 in
theorem unlike_23 (e f : Ent) (v z : Nat) (w : World) (hv : v < 18446744073709551616) (hz : z < 18446744073709551616) (a1 : e.ok = true) (a2 : f.ok = true) (a3 : ((putV e : Int) == (putV f : Int)) = true) (a4 : e.eqb f = true) (b1 : (getE v).bad = false) (b2 : (getE z).bad = false) (b3 : ((v : Int) == (z : Int)) = false) (b4 : (getE v).eqb (getE z) = false) :
    Calls Try.prog 7 #[.agg e.cs, .agg f.cs, .int .u64 v, .int .u64 z] w fun x w' => x = .returned (.bool true) ∧ Chg [] w w' := by
  have P1 := fun w => Put_at e w
  have P2 := fun w => Put_at f w
  have G1 := fun w => Get_any v w hv
  have G2 := fun w => Get_any z w hz
  have hq1 := fun w => run_eqE e f w
  have hq2 := fun w => run_eqE (getE v) (getE z) w
  have hecs : (e).cs = #[.bool (e).p, .bool (e).w, .bool (e).u, .bool (e).a, .bool (e).d, .bool (e).s, .bool (e).n, .bool (e).bad, .int .i64 (e).f] := rfl
  have hfcs : (f).cs = #[.bool (f).p, .bool (f).w, .bool (f).u, .bool (f).a, .bool (f).d, .bool (f).s, .bool (f).n, .bool (f).bad, .int .i64 (f).f] := rfl
  have hgcs : (getE v).cs = #[.bool (getE v).p, .bool (getE v).w, .bool (getE v).u, .bool (getE v).a, .bool (getE v).d, .bool (getE v).s, .bool (getE v).n, .bool (getE v).bad, .int .i64 (getE v).f] := rfl
  have hhcs : (getE z).cs = #[.bool (getE z).p, .bool (getE z).w, .bool (getE z).u, .bool (getE z).a, .bool (getE z).d, .bool (getE z).s, .bool (getE z).n, .bool (getE z).bad, .int .i64 (getE z).f] := rfl
  simp only [hecs] at P1 hq1 ⊢
  simp only [hfcs] at P2 hq1 ⊢
  simp only [hgcs] at G1 hq2
  simp only [hhcs] at G2 hq2
  simp only [a1] at P1
  simp only [a2] at P2
  simp only [a4] at hq1
  simp only [b1] at G1 hgcs hq2
  simp only [b2] at G2 hhcs hq2
  simp only [b4] at hq2
  clear a1 a2 a4 b1 b2 b4
  generalize putV e = N1 at *
  generalize putV f = N2 at *
  generalize e.ok = k1 at *
  generalize f.ok = k2 at *
  generalize e.eqb f = pb at *
  generalize (getE v).eqb (getE z) = qb at *
  have HeCS := Lib.hid hecs; clear hecs
  generalize (e).p = ep at *
  generalize (e).w = ew at *
  generalize (e).u = eu at *
  generalize (e).a = ea at *
  generalize (e).d = ed at *
  generalize (e).s = es at *
  generalize (e).n = en at *
  generalize (e).bad = eb at *
  generalize (e).f = ef at *
  have HfCS := Lib.hid hfcs; clear hfcs
  generalize (f).p = fp at *
  generalize (f).w = fw at *
  generalize (f).u = fu at *
  generalize (f).a = fa at *
  generalize (f).d = fd at *
  generalize (f).s = fs at *
  generalize (f).n = fn at *
  generalize (f).bad = fb at *
  generalize (f).f = ff at *
  have HgCS := Lib.hid hgcs; clear hgcs
  generalize (getE v).p = gp at *
  generalize (getE v).w = gw at *
  generalize (getE v).u = gu at *
  generalize (getE v).a = ga at *
  generalize (getE v).d = gd at *
  generalize (getE v).s = gs at *
  generalize (getE v).n = gn at *
  generalize (getE v).bad = gb at *
  generalize (getE v).f = gf at *
  have HhCS := Lib.hid hhcs; clear hhcs
  generalize (getE z).p = hp at *
  generalize (getE z).w = hw at *
  generalize (getE z).u = hu at *
  generalize (getE z).a = ha at *
  generalize (getE z).d = hd at *
  generalize (getE z).s = hs at *
  generalize (getE z).n = hn at *
  generalize (getE z).bad = hb at *
  generalize (getE z).f = hf at *
  go_enter Try.func7, Try.ntmps7
  go_wp2_with fail
  refine (head_any _).mono ?_; rintro x w1 ⟨rfl, hc1⟩
  have hB1 := ((Blk.new w 24 #[.bool ep, .bool ew, .bool eu, .bool ea, .bool ed, .bool es, .bool en, .bool eb, .int .i64 ef]).alloc (Obj.cells #[.bool fp, .bool fw, .bool fu, .bool fa, .bool fd, .bool fs, .bool fn, .bool fb, .int .i64 ff] 24)).chg_ hc1 (by simp)
  have hD1 := (Blk.new (w.alloc (Obj.cells #[.bool ep, .bool ew, .bool eu, .bool ea, .bool ed, .bool es, .bool en, .bool eb, .int .i64 ef] 24)) 24 #[.bool fp, .bool fw, .bool fu, .bool fa, .bool fd, .bool fs, .bool fn, .bool fb, .int .i64 ff]).chg_ hc1 (by simp)
  have hcB1 := (((Chg.refl [] w).alloc (Obj.cells #[.bool ep, .bool ew, .bool eu, .bool ea, .bool ed, .bool es, .bool en, .bool eb, .int .i64 ef] 24)).alloc (Obj.cells #[.bool fp, .bool fw, .bool fu, .bool fa, .bool fd, .bool fs, .bool fn, .bool fb, .int .i64 ff] 24)).trans hc1 (by simp)
  simp only [World.size_alloc] at hD1
  clear hc1
  generalize w.heap.size + 1 = g1 at *
  generalize w.heap.size = g at *
  obtain ⟨e0, e1, e2, e3, e4, e5, e6, e7, e8⟩ := blk9 hB1
  go_wp2_with fail
  refine (P1 _).mono ?_; rintro x w2 ⟨rfl, hc2⟩
  have hB2 := hB1.chg_ hc2 (by simp)
  have hD2 := hD1.chg_ hc2 (by simp)
  have hcB2 := hcB1.trans hc2 (by simp)
  clear e0 e1 e2 e3 e4 e5 e6 e7 e8 hB1 hD1 hcB1 hc2
  obtain ⟨d0, d1, d2, d3, d4, d5, d6, d7, d8⟩ := blk9 hD2
  go_wp2_with fail
  refine (P2 _).mono ?_; rintro x w3 ⟨rfl, hc3⟩
  have hB3 := hB2.chg_ hc3 (by simp)
  have hD3 := hD2.chg_ hc3 (by simp)
  have hcB3 := hcB2.trans hc3 (by simp)
  clear d0 d1 d2 d3 d4 d5 d6 d7 d8 hB2 hD2 hcB2 hc3
  obtain ⟨e0, e1, e2, e3, e4, e5, e6, e7, e8⟩ := blk9 hB3
  obtain ⟨d0, d1, d2, d3, d4, d5, d6, d7, d8⟩ := blk9 hD3
  go_wp2_with fail
  refine (G1 _).mono ?_; rintro x w4 ⟨rfl, hc4⟩
  have hcB4 := hcB3.trans hc4 (by simp)
  clear e0 e1 e2 e3 e4 e5 e6 e7 e8 d0 d1 d2 d3 d4 d5 d6 d7 d8 hB3 hD3 hcB3 hc4
  have hX4 := Blk.new w4 24 #[.bool gp, .bool gw, .bool gu, .bool ga, .bool gd, .bool gs, .bool gn, .bool false, .int .i64 gf]
  have hcB5 := hcB4.alloc (Obj.cells #[.bool gp, .bool gw, .bool gu, .bool ga, .bool gd, .bool gs, .bool gn, .bool false, .int .i64 gf] 24)
  clear hcB4
  go_wp2_with fail
  generalize w4.heap.size = gx at *
  refine (G2 _).mono ?_; rintro x w5 ⟨rfl, hc5⟩
  have hX5 := (hX4.chg_ hc5 (by simp)).alloc (Obj.cells #[.bool hp, .bool hw, .bool hu, .bool ha, .bool hd, .bool hs, .bool hn, .bool false, .int .i64 hf] 24)
  have hcB6 := (hcB5.trans hc5 (by simp)).alloc (Obj.cells #[.bool hp, .bool hw, .bool hu, .bool ha, .bool hd, .bool hs, .bool hn, .bool false, .int .i64 hf] 24)
  clear hX4 hcB5 hc5
  obtain ⟨e0, e1, e2, e3, e4, e5, e6, e7, e8⟩ := blk9 hX5
  go_wp2_with fail
  go_ret
  exact ⟨rfl, hcB6⟩

set_option maxRecDepth 100000 in
set_option maxHeartbeats 4000000 in
theorem unlike_30 (e f : Ent) (v z : Nat) (w : World) (hv : v < 18446744073709551616) (hz : z < 18446744073709551616) (a1 : e.ok = true) (a2 : f.ok = true) (a3 : ((putV e : Int) == (putV f : Int)) = false) (a4 : e.eqb f = false) (b1 : (getE v).bad = true) :
    Calls Try.prog 7 #[.agg e.cs, .agg f.cs, .int .u64 v, .int .u64 z] w fun x w' => x = .returned (.bool true) ∧ Chg [] w w' := by
  have P1 := fun w => Put_at e w
  have P2 := fun w => Put_at f w
  have G1 := fun w => Get_any v w hv
  have G2 := fun w => Get_any z w hz
  have hq1 := fun w => run_eqE e f w
  have hq2 := fun w => run_eqE (getE v) (getE z) w
  have hecs : (e).cs = #[.bool (e).p, .bool (e).w, .bool (e).u, .bool (e).a, .bool (e).d, .bool (e).s, .bool (e).n, .bool (e).bad, .int .i64 (e).f] := rfl
  have hfcs : (f).cs = #[.bool (f).p, .bool (f).w, .bool (f).u, .bool (f).a, .bool (f).d, .bool (f).s, .bool (f).n, .bool (f).bad, .int .i64 (f).f] := rfl
  have hgcs : (getE v).cs = #[.bool (getE v).p, .bool (getE v).w, .bool (getE v).u, .bool (getE v).a, .bool (getE v).d, .bool (getE v).s, .bool (getE v).n, .bool (getE v).bad, .int .i64 (getE v).f] := rfl
  have hhcs : (getE z).cs = #[.bool (getE z).p, .bool (getE z).w, .bool (getE z).u, .bool (getE z).a, .bool (getE z).d, .bool (getE z).s, .bool (getE z).n, .bool (getE z).bad, .int .i64 (getE z).f] := rfl
  simp only [hecs] at P1 hq1 ⊢
  simp only [hfcs] at P2 hq1 ⊢
  simp only [hgcs] at G1 hq2
  simp only [hhcs] at G2 hq2
  simp only [a1] at P1
  simp only [a2] at P2
  simp only [a4] at hq1
  simp only [b1] at G1 hgcs hq2
  clear a1 a2 a4 b1
  generalize putV e = N1 at *
  generalize putV f = N2 at *
  generalize e.ok = k1 at *
  generalize f.ok = k2 at *
  generalize e.eqb f = pb at *
  generalize (getE v).eqb (getE z) = qb at *
  have HeCS := Lib.hid hecs; clear hecs
  generalize (e).p = ep at *
  generalize (e).w = ew at *
  generalize (e).u = eu at *
  generalize (e).a = ea at *
  generalize (e).d = ed at *
  generalize (e).s = es at *
  generalize (e).n = en at *
  generalize (e).bad = eb at *
  generalize (e).f = ef at *
  have HfCS := Lib.hid hfcs; clear hfcs
  generalize (f).p = fp at *
  generalize (f).w = fw at *
  generalize (f).u = fu at *
  generalize (f).a = fa at *
  generalize (f).d = fd at *
  generalize (f).s = fs at *
  generalize (f).n = fn at *
  generalize (f).bad = fb at *
  generalize (f).f = ff at *
  have HgCS := Lib.hid hgcs; clear hgcs
  generalize (getE v).p = gp at *
  generalize (getE v).w = gw at *
  generalize (getE v).u = gu at *
  generalize (getE v).a = ga at *
  generalize (getE v).d = gd at *
  generalize (getE v).s = gs at *
  generalize (getE v).n = gn at *
  generalize (getE v).bad = gb at *
  generalize (getE v).f = gf at *
  have HhCS := Lib.hid hhcs; clear hhcs
  generalize (getE z).p = hp at *
  generalize (getE z).w = hw at *
  generalize (getE z).u = hu at *
  generalize (getE z).a = ha at *
  generalize (getE z).d = hd at *
  generalize (getE z).s = hs at *
  generalize (getE z).n = hn at *
  generalize (getE z).bad = hb at *
  generalize (getE z).f = hf at *
  go_enter Try.func7, Try.ntmps7
  go_wp2_with fail
  refine (head_any _).mono ?_; rintro x w1 ⟨rfl, hc1⟩
  have hB1 := ((Blk.new w 24 #[.bool ep, .bool ew, .bool eu, .bool ea, .bool ed, .bool es, .bool en, .bool eb, .int .i64 ef]).alloc (Obj.cells #[.bool fp, .bool fw, .bool fu, .bool fa, .bool fd, .bool fs, .bool fn, .bool fb, .int .i64 ff] 24)).chg_ hc1 (by simp)
  have hD1 := (Blk.new (w.alloc (Obj.cells #[.bool ep, .bool ew, .bool eu, .bool ea, .bool ed, .bool es, .bool en, .bool eb, .int .i64 ef] 24)) 24 #[.bool fp, .bool fw, .bool fu, .bool fa, .bool fd, .bool fs, .bool fn, .bool fb, .int .i64 ff]).chg_ hc1 (by simp)
  have hcB1 := (((Chg.refl [] w).alloc (Obj.cells #[.bool ep, .bool ew, .bool eu, .bool ea, .bool ed, .bool es, .bool en, .bool eb, .int .i64 ef] 24)).alloc (Obj.cells #[.bool fp, .bool fw, .bool fu, .bool fa, .bool fd, .bool fs, .bool fn, .bool fb, .int .i64 ff] 24)).trans hc1 (by simp)
  simp only [World.size_alloc] at hD1
  clear hc1
  generalize w.heap.size + 1 = g1 at *
  generalize w.heap.size = g at *
  obtain ⟨e0, e1, e2, e3, e4, e5, e6, e7, e8⟩ := blk9 hB1
  go_wp2_with fail
  refine (P1 _).mono ?_; rintro x w2 ⟨rfl, hc2⟩
  have hB2 := hB1.chg_ hc2 (by simp)
  have hD2 := hD1.chg_ hc2 (by simp)
  have hcB2 := hcB1.trans hc2 (by simp)
  clear e0 e1 e2 e3 e4 e5 e6 e7 e8 hB1 hD1 hcB1 hc2
  obtain ⟨d0, d1, d2, d3, d4, d5, d6, d7, d8⟩ := blk9 hD2
  go_wp2_with fail
  refine (P2 _).mono ?_; rintro x w3 ⟨rfl, hc3⟩
  have hB3 := hB2.chg_ hc3 (by simp)
  have hD3 := hD2.chg_ hc3 (by simp)
  have hcB3 := hcB2.trans hc3 (by simp)
  clear d0 d1 d2 d3 d4 d5 d6 d7 d8 hB2 hD2 hcB2 hc3
  obtain ⟨e0, e1, e2, e3, e4, e5, e6, e7, e8⟩ := blk9 hB3
  obtain ⟨d0, d1, d2, d3, d4, d5, d6, d7, d8⟩ := blk9 hD3
  go_wp2_with fail
  refine (G1 _).mono ?_; rintro x w4 ⟨rfl, hc4⟩
  have hcB4 := hcB3.trans hc4 (by simp)
  clear e0 e1 e2 e3 e4 e5 e6 e7 e8 d0 d1 d2 d3 d4 d5 d6 d7 d8 hB3 hD3 hcB3 hc4
  have hX4 := Blk.new w4 24 #[.bool gp, .bool gw, .bool gu, .bool ga, .bool gd, .bool gs, .bool gn, .bool true, .int .i64 gf]
  have hcB5 := hcB4.alloc (Obj.cells #[.bool gp, .bool gw, .bool gu, .bool ga, .bool gd, .bool gs, .bool gn, .bool true, .int .i64 gf] 24)
  clear hcB4
  go_wp2_with fail
  generalize w4.heap.size = gx at *
  refine (G2 _).mono ?_; rintro x w5 ⟨rfl, hc5⟩
  have hX5 := (hX4.chg_ hc5 (by simp)).alloc (Obj.cells #[.bool hp, .bool hw, .bool hu, .bool ha, .bool hd, .bool hs, .bool hn, .bool hb, .int .i64 hf] 24)
  have hcB6 := (hcB5.trans hc5 (by simp)).alloc (Obj.cells #[.bool hp, .bool hw, .bool hu, .bool ha, .bool hd, .bool hs, .bool hn, .bool hb, .int .i64 hf] 24)
  clear hX4 hcB5 hc5
  obtain ⟨e0, e1, e2, e3, e4, e5, e6, e7, e8⟩ := blk9 hX5
  go_wp2_with fail
  go_ret
  exact ⟨rfl, hcB6⟩

set_option maxRecDepth 100000 in
set_option maxHeartbeats 4000000 in
theorem unlike_31 (e f : Ent) (v z : Nat) (w : World) (hv : v < 18446744073709551616) (hz : z < 18446744073709551616) (a1 : e.ok = true) (a2 : f.ok = true) (a3 : ((putV e : Int) == (putV f : Int)) = false) (a4 : e.eqb f = false) (b1 : (getE v).bad = false) (b2 : (getE z).bad = true) :
    Calls Try.prog 7 #[.agg e.cs, .agg f.cs, .int .u64 v, .int .u64 z] w fun x w' => x = .returned (.bool true) ∧ Chg [] w w' := by
  have P1 := fun w => Put_at e w
  have P2 := fun w => Put_at f w
  have G1 := fun w => Get_any v w hv
  have G2 := fun w => Get_any z w hz
  have hq1 := fun w => run_eqE e f w
  have hq2 := fun w => run_eqE (getE v) (getE z) w
  have hecs : (e).cs = #[.bool (e).p, .bool (e).w, .bool (e).u, .bool (e).a, .bool (e).d, .bool (e).s, .bool (e).n, .bool (e).bad, .int .i64 (e).f] := rfl
  have hfcs : (f).cs = #[.bool (f).p, .bool (f).w, .bool (f).u, .bool (f).a, .bool (f).d, .bool (f).s, .bool (f).n, .bool (f).bad, .int .i64 (f).f] := rfl
  have hgcs : (getE v).cs = #[.bool (getE v).p, .bool (getE v).w, .bool (getE v).u, .bool (getE v).a, .bool (getE v).d, .bool (getE v).s, .bool (getE v).n, .bool (getE v).bad, .int .i64 (getE v).f] := rfl
  have hhcs : (getE z).cs = #[.bool (getE z).p, .bool (getE z).w, .bool (getE z).u, .bool (getE z).a, .bool (getE z).d, .bool (getE z).s, .bool (getE z).n, .bool (getE z).bad, .int .i64 (getE z).f] := rfl
  simp only [hecs] at P1 hq1 ⊢
  simp only [hfcs] at P2 hq1 ⊢
  simp only [hgcs] at G1 hq2
  simp only [hhcs] at G2 hq2
  simp only [a1] at P1
  simp only [a2] at P2
  simp only [a4] at hq1
  simp only [b1] at G1 hgcs hq2
  simp only [b2] at G2 hhcs hq2
  clear a1 a2 a4 b1 b2
  generalize putV e = N1 at *
  generalize putV f = N2 at *
  generalize e.ok = k1 at *
  generalize f.ok = k2 at *
  generalize e.eqb f = pb at *
  generalize (getE v).eqb (getE z) = qb at *
  have HeCS := Lib.hid hecs; clear hecs
  generalize (e).p = ep at *
  generalize (e).w = ew at *
  generalize (e).u = eu at *
  generalize (e).a = ea at *
  generalize (e).d = ed at *
  generalize (e).s = es at *
  generalize (e).n = en at *
  generalize (e).bad = eb at *
  generalize (e).f = ef at *
  have HfCS := Lib.hid hfcs; clear hfcs
  generalize (f).p = fp at *
  generalize (f).w = fw at *
  generalize (f).u = fu at *
  generalize (f).a = fa at *
  generalize (f).d = fd at *
  generalize (f).s = fs at *
  generalize (f).n = fn at *
  generalize (f).bad = fb at *
  generalize (f).f = ff at *
  have HgCS := Lib.hid hgcs; clear hgcs
  generalize (getE v).p = gp at *
  generalize (getE v).w = gw at *
  generalize (getE v).u = gu at *
  generalize (getE v).a = ga at *
  generalize (getE v).d = gd at *
  generalize (getE v).s = gs at *
  generalize (getE v).n = gn at *
  generalize (getE v).bad = gb at *
  generalize (getE v).f = gf at *
  have HhCS := Lib.hid hhcs; clear hhcs
  generalize (getE z).p = hp at *
  generalize (getE z).w = hw at *
  generalize (getE z).u = hu at *
  generalize (getE z).a = ha at *
  generalize (getE z).d = hd at *
  generalize (getE z).s = hs at *
  generalize (getE z).n = hn at *
  generalize (getE z).bad = hb at *
  generalize (getE z).f = hf at *
  go_enter Try.func7, Try.ntmps7
  go_wp2_with fail
  refine (head_any _).mono ?_; rintro x w1 ⟨rfl, hc1⟩
  have hB1 := ((Blk.new w 24 #[.bool ep, .bool ew, .bool eu, .bool ea, .bool ed, .bool es, .bool en, .bool eb, .int .i64 ef]).alloc (Obj.cells #[.bool fp, .bool fw, .bool fu, .bool fa, .bool fd, .bool fs, .bool fn, .bool fb, .int .i64 ff] 24)).chg_ hc1 (by simp)
  have hD1 := (Blk.new (w.alloc (Obj.cells #[.bool ep, .bool ew, .bool eu, .bool ea, .bool ed, .bool es, .bool en, .bool eb, .int .i64 ef] 24)) 24 #[.bool fp, .bool fw, .bool fu, .bool fa, .bool fd, .bool fs, .bool fn, .bool fb, .int .i64 ff]).chg_ hc1 (by simp)
  have hcB1 := (((Chg.refl [] w).alloc (Obj.cells #[.bool ep, .bool ew, .bool eu, .bool ea, .bool ed, .bool es, .bool en, .bool eb, .int .i64 ef] 24)).alloc (Obj.cells #[.bool fp, .bool fw, .bool fu, .bool fa, .bool fd, .bool fs, .bool fn, .bool fb, .int .i64 ff] 24)).trans hc1 (by simp)
  simp only [World.size_alloc] at hD1
  clear hc1
  generalize w.heap.size + 1 = g1 at *
  generalize w.heap.size = g at *
  obtain ⟨e0, e1, e2, e3, e4, e5, e6, e7, e8⟩ := blk9 hB1
  go_wp2_with fail
  refine (P1 _).mono ?_; rintro x w2 ⟨rfl, hc2⟩
  have hB2 := hB1.chg_ hc2 (by simp)
  have hD2 := hD1.chg_ hc2 (by simp)
  have hcB2 := hcB1.trans hc2 (by simp)
  clear e0 e1 e2 e3 e4 e5 e6 e7 e8 hB1 hD1 hcB1 hc2
  obtain ⟨d0, d1, d2, d3, d4, d5, d6, d7, d8⟩ := blk9 hD2
  go_wp2_with fail
  refine (P2 _).mono ?_; rintro x w3 ⟨rfl, hc3⟩
  have hB3 := hB2.chg_ hc3 (by simp)
  have hD3 := hD2.chg_ hc3 (by simp)
  have hcB3 := hcB2.trans hc3 (by simp)
  clear d0 d1 d2 d3 d4 d5 d6 d7 d8 hB2 hD2 hcB2 hc3
  obtain ⟨e0, e1, e2, e3, e4, e5, e6, e7, e8⟩ := blk9 hB3
  obtain ⟨d0, d1, d2, d3, d4, d5, d6, d7, d8⟩ := blk9 hD3
  go_wp2_with fail
  refine (G1 _).mono ?_; rintro x w4 ⟨rfl, hc4⟩
  have hcB4 := hcB3.trans hc4 (by simp)
  clear e0 e1 e2 e3 e4 e5 e6 e7 e8 d0 d1 d2 d3 d4 d5 d6 d7 d8 hB3 hD3 hcB3 hc4
  have hX4 := Blk.new w4 24 #[.bool gp, .bool gw, .bool gu, .bool ga, .bool gd, .bool gs, .bool gn, .bool false, .int .i64 gf]
  have hcB5 := hcB4.alloc (Obj.cells #[.bool gp, .bool gw, .bool gu, .bool ga, .bool gd, .bool gs, .bool gn, .bool false, .int .i64 gf] 24)
  clear hcB4
  go_wp2_with fail
  generalize w4.heap.size = gx at *
  refine (G2 _).mono ?_; rintro x w5 ⟨rfl, hc5⟩
  have hX5 := (hX4.chg_ hc5 (by simp)).alloc (Obj.cells #[.bool hp, .bool hw, .bool hu, .bool ha, .bool hd, .bool hs, .bool hn, .bool true, .int .i64 hf] 24)
  have hcB6 := (hcB5.trans hc5 (by simp)).alloc (Obj.cells #[.bool hp, .bool hw, .bool hu, .bool ha, .bool hd, .bool hs, .bool hn, .bool true, .int .i64 hf] 24)
  clear hX4 hcB5 hc5
  obtain ⟨e0, e1, e2, e3, e4, e5, e6, e7, e8⟩ := blk9 hX5
  go_wp2_with fail
  go_ret
  exact ⟨rfl, hcB6⟩

set_option maxRecDepth 100000 in
set_option maxHeartbeats 4000000 in
theorem unlike_32 (e f : Ent) (v z : Nat) (w : World) (hv : v < 18446744073709551616) (hz : z < 18446744073709551616) (a1 : e.ok = true) (a2 : f.ok = true) (a3 : ((putV e : Int) == (putV f : Int)) = false) (a4 : e.eqb f = false) (b1 : (getE v).bad = false) (b2 : (getE z).bad = false) (b3 : ((v : Int) == (z : Int)) = true) (b4 : (getE v).eqb (getE z) = true) :
    Calls Try.prog 7 #[.agg e.cs, .agg f.cs, .int .u64 v, .int .u64 z] w fun x w' => x = .returned (.bool true) ∧ Chg [] w w' := by
  have P1 := fun w => Put_at e w
  have P2 := fun w => Put_at f w
  have G1 := fun w => Get_any v w hv
  have G2 := fun w => Get_any z w hz
  have hq1 := fun w => run_eqE e f w
  have hq2 := fun w => run_eqE (getE v) (getE z) w
  have hecs : (e).cs = #[.bool (e).p, .bool (e).w, .bool (e).u, .bool (e).a, .bool (e).d, .bool (e).s, .bool (e).n, .bool (e).bad, .int .i64 (e).f] := rfl
  have hfcs : (f).cs = #[.bool (f).p, .bool (f).w, .bool (f).u, .bool (f).a, .bool (f).d, .bool (f).s, .bool (f).n, .bool (f).bad, .int .i64 (f).f] := rfl
  have hgcs : (getE v).cs = #[.bool (getE v).p, .bool (getE v).w, .bool (getE v).u, .bool (getE v).a, .bool (getE v).d, .bool (getE v).s, .bool (getE v).n, .bool (getE v).bad, .int .i64 (getE v).f] := rfl
  have hhcs : (getE z).cs = #[.bool (getE z).p, .bool (getE z).w, .bool (getE z).u, .bool (getE z).a, .bool (getE z).d, .bool (getE z).s, .bool (getE z).n, .bool (getE z).bad, .int .i64 (getE z).f] := rfl
  simp only [hecs] at P1 hq1 ⊢
  simp only [hfcs] at P2 hq1 ⊢
  simp only [hgcs] at G1 hq2
  simp only [hhcs] at G2 hq2
  simp only [a1] at P1
  simp only [a2] at P2
  simp only [a4] at hq1
  simp only [b1] at G1 hgcs hq2
  simp only [b2] at G2 hhcs hq2
  simp only [b4] at hq2
  clear a1 a2 a4 b1 b2 b4
  generalize putV e = N1 at *
  generalize putV f = N2 at *
  generalize e.ok = k1 at *
  generalize f.ok = k2 at *
  generalize e.eqb f = pb at *
  generalize (getE v).eqb (getE z) = qb at *
  have HeCS := Lib.hid hecs; clear hecs
  generalize (e).p = ep at *
  generalize (e).w = ew at *
  generalize (e).u = eu at *
  generalize (e).a = ea at *
  generalize (e).d = ed at *
  generalize (e).s = es at *
  generalize (e).n = en at *
  generalize (e).bad = eb at *
  generalize (e).f = ef at *
  have HfCS := Lib.hid hfcs; clear hfcs
  generalize (f).p = fp at *
  generalize (f).w = fw at *
  generalize (f).u = fu at *
  generalize (f).a = fa at *
  generalize (f).d = fd at *
  generalize (f).s = fs at *
  generalize (f).n = fn at *
  generalize (f).bad = fb at *
  generalize (f).f = ff at *
  have HgCS := Lib.hid hgcs; clear hgcs
  generalize (getE v).p = gp at *
  generalize (getE v).w = gw at *
  generalize (getE v).u = gu at *
  generalize (getE v).a = ga at *
  generalize (getE v).d = gd at *
  generalize (getE v).s = gs at *
  generalize (getE v).n = gn at *
  generalize (getE v).bad = gb at *
  generalize (getE v).f = gf at *
  have HhCS := Lib.hid hhcs; clear hhcs
  generalize (getE z).p = hp at *
  generalize (getE z).w = hw at *
  generalize (getE z).u = hu at *
  generalize (getE z).a = ha at *
  generalize (getE z).d = hd at *
  generalize (getE z).s = hs at *
  generalize (getE z).n = hn at *
  generalize (getE z).bad = hb at *
  generalize (getE z).f = hf at *
  go_enter Try.func7, Try.ntmps7
  go_wp2_with fail
  refine (head_any _).mono ?_; rintro x w1 ⟨rfl, hc1⟩
  have hB1 := ((Blk.new w 24 #[.bool ep, .bool ew, .bool eu, .bool ea, .bool ed, .bool es, .bool en, .bool eb, .int .i64 ef]).alloc (Obj.cells #[.bool fp, .bool fw, .bool fu, .bool fa, .bool fd, .bool fs, .bool fn, .bool fb, .int .i64 ff] 24)).chg_ hc1 (by simp)
  have hD1 := (Blk.new (w.alloc (Obj.cells #[.bool ep, .bool ew, .bool eu, .bool ea, .bool ed, .bool es, .bool en, .bool eb, .int .i64 ef] 24)) 24 #[.bool fp, .bool fw, .bool fu, .bool fa, .bool fd, .bool fs, .bool fn, .bool fb, .int .i64 ff]).chg_ hc1 (by simp)
  have hcB1 := (((Chg.refl [] w).alloc (Obj.cells #[.bool ep, .bool ew, .bool eu, .bool ea, .bool ed, .bool es, .bool en, .bool eb, .int .i64 ef] 24)).alloc (Obj.cells #[.bool fp, .bool fw, .bool fu, .bool fa, .bool fd, .bool fs, .bool fn, .bool fb, .int .i64 ff] 24)).trans hc1 (by simp)
  simp only [World.size_alloc] at hD1
  clear hc1
  generalize w.heap.size + 1 = g1 at *
  generalize w.heap.size = g at *
  obtain ⟨e0, e1, e2, e3, e4, e5, e6, e7, e8⟩ := blk9 hB1
  go_wp2_with fail
  refine (P1 _).mono ?_; rintro x w2 ⟨rfl, hc2⟩
  have hB2 := hB1.chg_ hc2 (by simp)
  have hD2 := hD1.chg_ hc2 (by simp)
  have hcB2 := hcB1.trans hc2 (by simp)
  clear e0 e1 e2 e3 e4 e5 e6 e7 e8 hB1 hD1 hcB1 hc2
  obtain ⟨d0, d1, d2, d3, d4, d5, d6, d7, d8⟩ := blk9 hD2
  go_wp2_with fail
  refine (P2 _).mono ?_; rintro x w3 ⟨rfl, hc3⟩
  have hB3 := hB2.chg_ hc3 (by simp)
  have hD3 := hD2.chg_ hc3 (by simp)
  have hcB3 := hcB2.trans hc3 (by simp)
  clear d0 d1 d2 d3 d4 d5 d6 d7 d8 hB2 hD2 hcB2 hc3
  obtain ⟨e0, e1, e2, e3, e4, e5, e6, e7, e8⟩ := blk9 hB3
  obtain ⟨d0, d1, d2, d3, d4, d5, d6, d7, d8⟩ := blk9 hD3
  go_wp2_with fail
  refine (G1 _).mono ?_; rintro x w4 ⟨rfl, hc4⟩
  have hcB4 := hcB3.trans hc4 (by simp)
  clear e0 e1 e2 e3 e4 e5 e6 e7 e8 d0 d1 d2 d3 d4 d5 d6 d7 d8 hB3 hD3 hcB3 hc4
  have hX4 := Blk.new w4 24 #[.bool gp, .bool gw, .bool gu, .bool ga, .bool gd, .bool gs, .bool gn, .bool false, .int .i64 gf]
  have hcB5 := hcB4.alloc (Obj.cells #[.bool gp, .bool gw, .bool gu, .bool ga, .bool gd, .bool gs, .bool gn, .bool false, .int .i64 gf] 24)
  clear hcB4
  go_wp2_with fail
  generalize w4.heap.size = gx at *
  refine (G2 _).mono ?_; rintro x w5 ⟨rfl, hc5⟩
  have hX5 := (hX4.chg_ hc5 (by simp)).alloc (Obj.cells #[.bool hp, .bool hw, .bool hu, .bool ha, .bool hd, .bool hs, .bool hn, .bool false, .int .i64 hf] 24)
  have hcB6 := (hcB5.trans hc5 (by simp)).alloc (Obj.cells #[.bool hp, .bool hw, .bool hu, .bool ha, .bool hd, .bool hs, .bool hn, .bool false, .int .i64 hf] 24)
  clear hX4 hcB5 hc5
  obtain ⟨e0, e1, e2, e3, e4, e5, e6, e7, e8⟩ := blk9 hX5
  go_wp2_with fail
  go_ret
  exact ⟨rfl, hcB6⟩

set_option maxRecDepth 100000 in
set_option maxHeartbeats 4000000 in
theorem unlike_33 (e f : Ent) (v z : Nat) (w : World) (hv : v < 18446744073709551616) (hz : z < 18446744073709551616) (a1 : e.ok = true) (a2 : f.ok = true) (a3 : ((putV e : Int) == (putV f : Int)) = false) (a4 : e.eqb f = false) (b1 : (getE v).bad = false) (b2 : (getE z).bad = false) (b3 : ((v : Int) == (z : Int)) = false) (b4 : (getE v).eqb (getE z) = false) :
    Calls Try.prog 7 #[.agg e.cs, .agg f.cs, .int .u64 v, .int .u64 z] w fun x w' => x = .returned (.bool true) ∧ Chg [] w w' := by
  have P1 := fun w => Put_at e w
  have P2 := fun w => Put_at f w
  have G1 := fun w => Get_any v w hv
  have G2 := fun w => Get_any z w hz
  have hq1 := fun w => run_eqE e f w
  have hq2 := fun w => run_eqE (getE v) (getE z) w
  have hecs : (e).cs = #[.bool (e).p, .bool (e).w, .bool (e).u, .bool (e).a, .bool (e).d, .bool (e).s, .bool (e).n, .bool (e).bad, .int .i64 (e).f] := rfl
  have hfcs : (f).cs = #[.bool (f).p, .bool (f).w, .bool (f).u, .bool (f).a, .bool (f).d, .bool (f).s, .bool (f).n, .bool (f).bad, .int .i64 (f).f] := rfl
  have hgcs : (getE v).cs = #[.bool (getE v).p, .bool (getE v).w, .bool (getE v).u, .bool (getE v).a, .bool (getE v).d, .bool (getE v).s, .bool (getE v).n, .bool (getE v).bad, .int .i64 (getE v).f] := rfl
  have hhcs : (getE z).cs = #[.bool (getE z).p, .bool (getE z).w, .bool (getE z).u, .bool (getE z).a, .bool (getE z).d, .bool (getE z).s, .bool (getE z).n, .bool (getE z).bad, .int .i64 (getE z).f] := rfl
  simp only [hecs] at P1 hq1 ⊢
  simp only [hfcs] at P2 hq1 ⊢
  simp only [hgcs] at G1 hq2
  simp only [hhcs] at G2 hq2
  simp only [a1] at P1
  simp only [a2] at P2
  simp only [a4] at hq1
  simp only [b1] at G1 hgcs hq2
  simp only [b2] at G2 hhcs hq2
  simp only [b4] at hq2
  clear a1 a2 a4 b1 b2 b4
  generalize putV e = N1 at *
  generalize putV f = N2 at *
  generalize e.ok = k1 at *
  generalize f.ok = k2 at *
  generalize e.eqb f = pb at *
  generalize (getE v).eqb (getE z) = qb at *
  have HeCS := Lib.hid hecs; clear hecs
  generalize (e).p = ep at *
  generalize (e).w = ew at *
  generalize (e).u = eu at *
  generalize (e).a = ea at *
  generalize (e).d = ed at *
  generalize (e).s = es at *
  generalize (e).n = en at *
  generalize (e).bad = eb at *
  generalize (e).f = ef at *
  have HfCS := Lib.hid hfcs; clear hfcs
  generalize (f).p = fp at *
  generalize (f).w = fw at *
  generalize (f).u = fu at *
  generalize (f).a = fa at *
  generalize (f).d = fd at *
  generalize (f).s = fs at *
  generalize (f).n = fn at *
  generalize (f).bad = fb at *
  generalize (f).f = ff at *
  have HgCS := Lib.hid hgcs; clear hgcs
  generalize (getE v).p = gp at *
  generalize (getE v).w = gw at *
  generalize (getE v).u = gu at *
  generalize (getE v).a = ga at *
  generalize (getE v).d = gd at *
  generalize (getE v).s = gs at *
  generalize (getE v).n = gn at *
  generalize (getE v).bad = gb at *
  generalize (getE v).f = gf at *
  have HhCS := Lib.hid hhcs; clear hhcs
  generalize (getE z).p = hp at *
  generalize (getE z).w = hw at *
  generalize (getE z).u = hu at *
  generalize (getE z).a = ha at *
  generalize (getE z).d = hd at *
  generalize (getE z).s = hs at *
  generalize (getE z).n = hn at *
  generalize (getE z).bad = hb at *
  generalize (getE z).f = hf at *
  go_enter Try.func7, Try.ntmps7
  go_wp2_with fail
  refine (head_any _).mono ?_; rintro x w1 ⟨rfl, hc1⟩
  have hB1 := ((Blk.new w 24 #[.bool ep, .bool ew, .bool eu, .bool ea, .bool ed, .bool es, .bool en, .bool eb, .int .i64 ef]).alloc (Obj.cells #[.bool fp, .bool fw, .bool fu, .bool fa, .bool fd, .bool fs, .bool fn, .bool fb, .int .i64 ff] 24)).chg_ hc1 (by simp)
  have hD1 := (Blk.new (w.alloc (Obj.cells #[.bool ep, .bool ew, .bool eu, .bool ea, .bool ed, .bool es, .bool en, .bool eb, .int .i64 ef] 24)) 24 #[.bool fp, .bool fw, .bool fu, .bool fa, .bool fd, .bool fs, .bool fn, .bool fb, .int .i64 ff]).chg_ hc1 (by simp)
  have hcB1 := (((Chg.refl [] w).alloc (Obj.cells #[.bool ep, .bool ew, .bool eu, .bool ea, .bool ed, .bool es, .bool en, .bool eb, .int .i64 ef] 24)).alloc (Obj.cells #[.bool fp, .bool fw, .bool fu, .bool fa, .bool fd, .bool fs, .bool fn, .bool fb, .int .i64 ff] 24)).trans hc1 (by simp)
  simp only [World.size_alloc] at hD1
  clear hc1
  generalize w.heap.size + 1 = g1 at *
  generalize w.heap.size = g at *
  obtain ⟨e0, e1, e2, e3, e4, e5, e6, e7, e8⟩ := blk9 hB1
  go_wp2_with fail
  refine (P1 _).mono ?_; rintro x w2 ⟨rfl, hc2⟩
  have hB2 := hB1.chg_ hc2 (by simp)
  have hD2 := hD1.chg_ hc2 (by simp)
  have hcB2 := hcB1.trans hc2 (by simp)
  clear e0 e1 e2 e3 e4 e5 e6 e7 e8 hB1 hD1 hcB1 hc2
  obtain ⟨d0, d1, d2, d3, d4, d5, d6, d7, d8⟩ := blk9 hD2
  go_wp2_with fail
  refine (P2 _).mono ?_; rintro x w3 ⟨rfl, hc3⟩
  have hB3 := hB2.chg_ hc3 (by simp)
  have hD3 := hD2.chg_ hc3 (by simp)
  have hcB3 := hcB2.trans hc3 (by simp)
  clear d0 d1 d2 d3 d4 d5 d6 d7 d8 hB2 hD2 hcB2 hc3
  obtain ⟨e0, e1, e2, e3, e4, e5, e6, e7, e8⟩ := blk9 hB3
  obtain ⟨d0, d1, d2, d3, d4, d5, d6, d7, d8⟩ := blk9 hD3
  go_wp2_with fail
  refine (G1 _).mono ?_; rintro x w4 ⟨rfl, hc4⟩
  have hcB4 := hcB3.trans hc4 (by simp)
  clear e0 e1 e2 e3 e4 e5 e6 e7 e8 d0 d1 d2 d3 d4 d5 d6 d7 d8 hB3 hD3 hcB3 hc4
  have hX4 := Blk.new w4 24 #[.bool gp, .bool gw, .bool gu, .bool ga, .bool gd, .bool gs, .bool gn, .bool false, .int .i64 gf]
  have hcB5 := hcB4.alloc (Obj.cells #[.bool gp, .bool gw, .bool gu, .bool ga, .bool gd, .bool gs, .bool gn, .bool false, .int .i64 gf] 24)
  clear hcB4
  go_wp2_with fail
  generalize w4.heap.size = gx at *
  refine (G2 _).mono ?_; rintro x w5 ⟨rfl, hc5⟩
  have hX5 := (hX4.chg_ hc5 (by simp)).alloc (Obj.cells #[.bool hp, .bool hw, .bool hu, .bool ha, .bool hd, .bool hs, .bool hn, .bool false, .int .i64 hf] 24)
  have hcB6 := (hcB5.trans hc5 (by simp)).alloc (Obj.cells #[.bool hp, .bool hw, .bool hu, .bool ha, .bool hd, .bool hs, .bool hn, .bool false, .int .i64 hf] 24)
  clear hX4 hcB5 hc5
  obtain ⟨e0, e1, e2, e3, e4, e5, e6, e7, e8⟩ := blk9 hX5
  go_wp2_with fail
  go_ret
  exact ⟨rfl, hcB6⟩

theorem PteUnlike_at (e f : Ent) (v z : Nat) (w : World) (hv : v < 18446744073709551616) (hz : z < 18446744073709551616) :
    Calls Try.prog 7 #[.agg e.cs, .agg f.cs, .int .u64 v, .int .u64 z] w fun x w' => x = .returned (.bool true) ∧ Chg [] w w' := by
  rcases unlike_put e f with a1 | ⟨a1, a2⟩ | ⟨a1, a2, a3, a4⟩ | ⟨a1, a2, a3, a4⟩
  · rcases unlike_get v z hv hz with b1 | ⟨b1, b2⟩ | ⟨b1, b2, b3, b4⟩ | ⟨b1, b2, b3, b4⟩
    · exact unlike_00 e f v z w hv hz a1 b1
    · exact unlike_01 e f v z w hv hz a1 b1 b2
    · exact unlike_02 e f v z w hv hz a1 b1 b2 b3 b4
    · exact unlike_03 e f v z w hv hz a1 b1 b2 b3 b4
  · rcases unlike_get v z hv hz with b1 | ⟨b1, b2⟩ | ⟨b1, b2, b3, b4⟩ | ⟨b1, b2, b3, b4⟩
    · exact unlike_10 e f v z w hv hz a1 a2 b1
    · exact unlike_11 e f v z w hv hz a1 a2 b1 b2
    · exact unlike_12 e f v z w hv hz a1 a2 b1 b2 b3 b4
    · exact unlike_13 e f v z w hv hz a1 a2 b1 b2 b3 b4
  · rcases unlike_get v z hv hz with b1 | ⟨b1, b2⟩ | ⟨b1, b2, b3, b4⟩ | ⟨b1, b2, b3, b4⟩
    · exact unlike_20 e f v z w hv hz a1 a2 a3 a4 b1
    · exact unlike_21 e f v z w hv hz a1 a2 a3 a4 b1 b2
    · exact unlike_22 e f v z w hv hz a1 a2 a3 a4 b1 b2 b3 b4
    · exact unlike_23 e f v z w hv hz a1 a2 a3 a4 b1 b2 b3 b4
  · rcases unlike_get v z hv hz with b1 | ⟨b1, b2⟩ | ⟨b1, b2, b3, b4⟩ | ⟨b1, b2, b3, b4⟩
    · exact unlike_30 e f v z w hv hz a1 a2 a3 a4 b1
    · exact unlike_31 e f v z w hv hz a1 a2 a3 a4 b1 b2
    · exact unlike_32 e f v z w hv hz a1 a2 a3 a4 b1 b2 b3 b4
    · exact unlike_33 e f v z w hv hz a1 a2 a3 a4 b1 b2 b3 b4

end Go.Proofs.Ytgmdnglododhfaa
