/-
  PteTells: the walk.
-/
import Derived.Test.YtgmdnglododhfaaPteHead
import Derived.Test.YtgmdnglododhfaaPteT
namespace Go.Proofs.Ytgmdnglododhfaa
open Go.RowKit

set_option maxRecDepth 100000 in
set_option maxHeartbeats 2000000 in
theorem PteTells_at (v : Nat) (e : Ent) (t : Bool) (w : World) (hv : v < 18446744073709551616) :
    Calls Try.prog 3 #[.int .u64 v, .agg e.cs, .bool t] w fun x w' => x = .returned (.bool true) ∧ Chg [] w w' := by
  have P1 := fun w => Put_at e w
  have P2 := fun w => RPut_at e w
  have G1 := fun w => Get_any v w hv
  have G2 := fun w => RGet_any v w hv
  have U1 := fun w => Used_at v t w hv
  have U2 := fun w => RUsed_any v t w hv
  have hq := fun w => run_eqE (getE v) (getE v) w
  simp only [eqb_self] at hq
  generalize usedN v t = y at *
  generalize putV e = N at *
  generalize e.ok = ok at *
  have hecs : (e).cs = #[.bool (e).p, .bool (e).w, .bool (e).u, .bool (e).a, .bool (e).d, .bool (e).s, .bool (e).n, .bool (e).bad, .int .i64 (e).f] := rfl
  have hgcs : (getE v).cs = #[.bool (getE v).p, .bool (getE v).w, .bool (getE v).u, .bool (getE v).a, .bool (getE v).d, .bool (getE v).s, .bool (getE v).n, .bool (getE v).bad, .int .i64 (getE v).f] := rfl
  simp only [hecs] at P1 P2 ⊢
  simp only [hgcs] at G1 G2 hq
  have HeCS := Lib.hid hecs; clear hecs
  generalize (e).p = ep at *
  generalize (e).w = ew at *
  generalize (e).u = eu at *
  generalize (e).a = ea at *
  generalize (e).d = ed at *
  generalize (e).s = es at *
  generalize (e).n = en at *
  generalize (e).bad = eb at *
  generalize (e).f = ef at *
  have HgCS := Lib.hid hgcs; clear hgcs
  generalize (getE v).p = gp at *
  generalize (getE v).w = gw at *
  generalize (getE v).u = gu at *
  generalize (getE v).a = ga at *
  generalize (getE v).d = gd at *
  generalize (getE v).s = gs at *
  generalize (getE v).n = gn at *
  generalize (getE v).bad = gb at *
  generalize (getE v).f = gf at *
  go_enter Try.func3, Try.ntmps3
  go_wp2_with fail
  refine (head_any _).mono ?_; rintro x w1 ⟨rfl, hc1⟩
  have hB1 := (Blk.new w 24 #[.bool ep, .bool ew, .bool eu, .bool ea, .bool ed, .bool es, .bool en, .bool eb, .int .i64 ef]).chg_ hc1 (by simp)
  have hcB1 := ((Chg.refl [] w).alloc (Obj.cells #[.bool ep, .bool ew, .bool eu, .bool ea, .bool ed, .bool es, .bool en, .bool eb, .int .i64 ef] 24)).trans hc1 (by simp)
  clear hc1
  obtain ⟨e0, e1, e2, e3, e4, e5, e6, e7, e8⟩ := blk9 hB1
  generalize w.heap.size = g at *
  go_wp2_with fail
  refine (P1 _).mono ?_; rintro x w2 ⟨rfl, hc2⟩
  have hB2 := hB1.chg_ hc2 (by simp)
  have hcB2 := hcB1.trans hc2 (by simp)
  clear e0 e1 e2 e3 e4 e5 e6 e7 e8
  clear hB1 hcB1 hc2
  obtain ⟨e0, e1, e2, e3, e4, e5, e6, e7, e8⟩ := blk9 hB2
  go_wp2_with fail
  refine (P2 _).mono ?_; rintro x w3 ⟨rfl, hc3⟩
  have hcB3 := hcB2.trans hc3 (by simp)
  clear e0 e1 e2 e3 e4 e5 e6 e7 e8
  clear hB2 hcB2 hc3
  go_wp2_with fail
  refine (G1 _).mono ?_; rintro x w4 ⟨rfl, hc4⟩
  have hcB4 := hcB3.trans hc4 (by simp)
  clear hcB3 hc4
  go_wp2_with fail
  refine (G2 _).mono ?_; rintro x w5 ⟨rfl, hc5⟩
  have hcB5 := hcB4.trans hc5 (by simp)
  clear hcB4 hc5
  go_wp2_with fail
  refine (U1 _).mono ?_; rintro x w6 ⟨rfl, rfl⟩
  go_wp2_with fail
  refine (U2 _).mono ?_; rintro x w6 ⟨rfl, rfl⟩
  go_wp2_with fail
  go_ret
  exact ⟨rfl, hcB5⟩

end Go.Proofs.Ytgmdnglododhfaa
