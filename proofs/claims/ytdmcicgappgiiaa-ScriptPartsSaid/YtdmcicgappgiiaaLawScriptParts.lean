/-
  The law ScriptParts.
-/
import Derived.Test.YtdmcicgappgiiaaScriptHead
namespace Go.Proofs.Ytdmcicgappgiiaa
open Go.RowKit Go.Shelf

theorem parts_bad (o : Sop) {n : Int} (hn : 0 ≤ n) : rightS { o with g := 256 + n } = false ∧ rightS { o with i := 8 + n } = false ∧ rightS { o with n := -1 - n } = false ∧ rightS { o with what := 9 + n } = false := by
  unfold rightS boundS
  refine ⟨?_, ?_, ?_, ?_⟩ <;> (rw [decide_eq_false (by simp; omega)]; rfl)
theorem parts_zero {o : Sop} (h : rightS o = true) : rightS (zeroS o.what) = true := by
  have hb := right_bound h
  unfold rightS boundS zeroS ownS
  rw [decide_eq_true (by simp; omega)]; simp
theorem parts_u : rightS ⟨3, true, 0, 0, 0, 0, 0⟩ = false := by decide
theorem blk_at {w : World} {k : Nat} (h : w.heap.size = k) (t : TypeId) (cs : Array Value) : Blk (w.alloc (.cells cs t)) k t cs := h ▸ Blk.new w t cs

set_option maxRecDepth 100000 in
set_option maxHeartbeats 8000000 in
theorem ScriptParts_walk (o : { o : Sop // o.Wf }) (n : Int) (w : World) (hn : 0 ≤ n ∧ n ≤ 255) :
    Calls Try.prog 7 #[.agg o.1.ar, .int .u8 n] w fun e w' => e = .returned (.bool true) ∧ Chg [] w w' := by
  obtain ⟨o, hwf⟩ := o
  show Calls _ _ #[.agg o.ar, .int .u8 n] _ _
  clear hwf
  have hR := fun w9 => ScRight_any o w9
  have hbad := parts_bad o (n := n) (by omega)
  have hzero := fun h => parts_zero (o := o) h
  have hA := fun w9 => ScRight_any { o with g := 256 + n } w9
  have hB := fun w9 => ScRight_any { o with i := 8 + n } w9
  have hC := fun w9 => ScRight_any { o with n := -1 - n } w9
  have hD := fun w9 => ScRight_any (zeroS o.what) w9
  have hE := fun w9 => ScRight_any { o with what := 9 + n } w9
  have hF := fun w9 => ScRight_any ⟨3, true, 0, 0, 0, 0, 0⟩ w9
  rw [hbad.1] at hA
  rw [hbad.2.1] at hB
  rw [hbad.2.2.1] at hC
  rw [hbad.2.2.2] at hE
  rw [parts_u] at hF
  clear hbad
  simp only [Sop.ar] at hR hA hB hC hE hF ⊢
  generalize hro : rightS o = ro at *
  have B0 := Blk.new w 31 #[.int .i64 o.what, .bool o.user, .int .u64 o.a, .int .u64 o.v, .int .i64 o.g, .int .i64 o.i, .int .i64 o.n]
  have k0 : Chg [] w (w.alloc (.cells #[.int .i64 o.what, .bool o.user, .int .u64 o.a, .int .u64 o.v, .int .i64 o.g, .int .i64 o.i, .int .i64 o.n] 31)) := (Chg.refl [] w).alloc _
  go_enter Try.func7, Try.ntmps7
  go_wp2_with fail
  generalize w.alloc (.cells #[.int .i64 o.what, .bool o.user, .int .u64 o.a, .int .u64 o.v, .int .i64 o.g, .int .i64 o.i, .int .i64 o.n] 31) = w1 at *
  have hb0 := B0.lt
  generalize w.heap.size = g0 at *
  refine (Schead_any _).mono ?_; rintro e w2 ⟨rfl, k2⟩
  replace B0 := k2.blk B0 (by simp)
  replace k0 := k0.trans k2 (by simp)
  clear k2 hb0
  obtain ⟨c0, c1, c2, c3, c4, c5, c6⟩ := blk7 B0
  go_wp2_with fail
  refine (hR _).mono ?_; rintro e w3 ⟨rfl, k3⟩
  replace B0 := k3.blk B0 (by simp)
  replace k0 := k0.trans k3 (by simp)
  clear k3 c0 c1 c2 c3 c4 c5 c6
  obtain ⟨c0, c1, c2, c3, c4, c5, c6⟩ := blk7 B0
  have hb0 := B0.lt
  cases ro
  · clear hA hB hC hD hE hF hzero
    go_wp2_with fail
    go_ret
    exact ⟨rfl, k0⟩
  · have hz := hzero rfl
    rw [hz] at hD
    simp only [zeroS, Sop.ar] at hD
    clear hzero hz
    have B1 : Blk (((((((w3).alloc (.cells #[.int .i64 o.what, .bool o.user, .int .u64 o.a, .int .u64 o.v, .int .i64 (256 + n), .int .i64 o.i, .int .i64 o.n] 31)).alloc (.cells #[.int .i64 o.what, .bool o.user, .int .u64 o.a, .int .u64 o.v, .int .i64 o.g, .int .i64 (8 + n), .int .i64 o.n] 31)).alloc (.cells #[.int .i64 o.what, .bool o.user, .int .u64 o.a, .int .u64 o.v, .int .i64 o.g, .int .i64 o.i, .int .i64 (-1 - n)] 31)).alloc (.cells #[.int .i64 o.what, .bool false, .int .u64 0, .int .u64 0, .int .i64 0, .int .i64 0, .int .i64 0] 31)).alloc (.cells #[.int .i64 (9 + n), .bool o.user, .int .u64 o.a, .int .u64 o.v, .int .i64 o.g, .int .i64 o.i, .int .i64 o.n] 31)).alloc (.cells #[.int .i64 3, .bool true, .int .u64 0, .int .u64 0, .int .i64 0, .int .i64 0, .int .i64 0] 31)) (w3.heap.size) 31 #[.int .i64 o.what, .bool o.user, .int .u64 o.a, .int .u64 o.v, .int .i64 (256 + n), .int .i64 o.i, .int .i64 o.n] := (((((Blk.new w3 _ _).alloc _).alloc _).alloc _).alloc _).alloc _
    have B2 : Blk (((((((w3).alloc (.cells #[.int .i64 o.what, .bool o.user, .int .u64 o.a, .int .u64 o.v, .int .i64 (256 + n), .int .i64 o.i, .int .i64 o.n] 31)).alloc (.cells #[.int .i64 o.what, .bool o.user, .int .u64 o.a, .int .u64 o.v, .int .i64 o.g, .int .i64 (8 + n), .int .i64 o.n] 31)).alloc (.cells #[.int .i64 o.what, .bool o.user, .int .u64 o.a, .int .u64 o.v, .int .i64 o.g, .int .i64 o.i, .int .i64 (-1 - n)] 31)).alloc (.cells #[.int .i64 o.what, .bool false, .int .u64 0, .int .u64 0, .int .i64 0, .int .i64 0, .int .i64 0] 31)).alloc (.cells #[.int .i64 (9 + n), .bool o.user, .int .u64 o.a, .int .u64 o.v, .int .i64 o.g, .int .i64 o.i, .int .i64 o.n] 31)).alloc (.cells #[.int .i64 3, .bool true, .int .u64 0, .int .u64 0, .int .i64 0, .int .i64 0, .int .i64 0] 31)) (w3.heap.size + 1) 31 #[.int .i64 o.what, .bool o.user, .int .u64 o.a, .int .u64 o.v, .int .i64 o.g, .int .i64 (8 + n), .int .i64 o.n] := ((((blk_at (w := (w3).alloc (.cells #[.int .i64 o.what, .bool o.user, .int .u64 o.a, .int .u64 o.v, .int .i64 (256 + n), .int .i64 o.i, .int .i64 o.n] 31)) (by simp) _ _).alloc _).alloc _).alloc _).alloc _
    have B3 : Blk (((((((w3).alloc (.cells #[.int .i64 o.what, .bool o.user, .int .u64 o.a, .int .u64 o.v, .int .i64 (256 + n), .int .i64 o.i, .int .i64 o.n] 31)).alloc (.cells #[.int .i64 o.what, .bool o.user, .int .u64 o.a, .int .u64 o.v, .int .i64 o.g, .int .i64 (8 + n), .int .i64 o.n] 31)).alloc (.cells #[.int .i64 o.what, .bool o.user, .int .u64 o.a, .int .u64 o.v, .int .i64 o.g, .int .i64 o.i, .int .i64 (-1 - n)] 31)).alloc (.cells #[.int .i64 o.what, .bool false, .int .u64 0, .int .u64 0, .int .i64 0, .int .i64 0, .int .i64 0] 31)).alloc (.cells #[.int .i64 (9 + n), .bool o.user, .int .u64 o.a, .int .u64 o.v, .int .i64 o.g, .int .i64 o.i, .int .i64 o.n] 31)).alloc (.cells #[.int .i64 3, .bool true, .int .u64 0, .int .u64 0, .int .i64 0, .int .i64 0, .int .i64 0] 31)) (w3.heap.size + 1 + 1) 31 #[.int .i64 o.what, .bool o.user, .int .u64 o.a, .int .u64 o.v, .int .i64 o.g, .int .i64 o.i, .int .i64 (-1 - n)] := (((blk_at (w := ((w3).alloc (.cells #[.int .i64 o.what, .bool o.user, .int .u64 o.a, .int .u64 o.v, .int .i64 (256 + n), .int .i64 o.i, .int .i64 o.n] 31)).alloc (.cells #[.int .i64 o.what, .bool o.user, .int .u64 o.a, .int .u64 o.v, .int .i64 o.g, .int .i64 (8 + n), .int .i64 o.n] 31)) (by simp) _ _).alloc _).alloc _).alloc _
    have B4 : Blk (((((((w3).alloc (.cells #[.int .i64 o.what, .bool o.user, .int .u64 o.a, .int .u64 o.v, .int .i64 (256 + n), .int .i64 o.i, .int .i64 o.n] 31)).alloc (.cells #[.int .i64 o.what, .bool o.user, .int .u64 o.a, .int .u64 o.v, .int .i64 o.g, .int .i64 (8 + n), .int .i64 o.n] 31)).alloc (.cells #[.int .i64 o.what, .bool o.user, .int .u64 o.a, .int .u64 o.v, .int .i64 o.g, .int .i64 o.i, .int .i64 (-1 - n)] 31)).alloc (.cells #[.int .i64 o.what, .bool false, .int .u64 0, .int .u64 0, .int .i64 0, .int .i64 0, .int .i64 0] 31)).alloc (.cells #[.int .i64 (9 + n), .bool o.user, .int .u64 o.a, .int .u64 o.v, .int .i64 o.g, .int .i64 o.i, .int .i64 o.n] 31)).alloc (.cells #[.int .i64 3, .bool true, .int .u64 0, .int .u64 0, .int .i64 0, .int .i64 0, .int .i64 0] 31)) (w3.heap.size + 1 + 1 + 1) 31 #[.int .i64 o.what, .bool false, .int .u64 0, .int .u64 0, .int .i64 0, .int .i64 0, .int .i64 0] := ((blk_at (w := (((w3).alloc (.cells #[.int .i64 o.what, .bool o.user, .int .u64 o.a, .int .u64 o.v, .int .i64 (256 + n), .int .i64 o.i, .int .i64 o.n] 31)).alloc (.cells #[.int .i64 o.what, .bool o.user, .int .u64 o.a, .int .u64 o.v, .int .i64 o.g, .int .i64 (8 + n), .int .i64 o.n] 31)).alloc (.cells #[.int .i64 o.what, .bool o.user, .int .u64 o.a, .int .u64 o.v, .int .i64 o.g, .int .i64 o.i, .int .i64 (-1 - n)] 31)) (by simp) _ _).alloc _).alloc _
    have B5 : Blk (((((((w3).alloc (.cells #[.int .i64 o.what, .bool o.user, .int .u64 o.a, .int .u64 o.v, .int .i64 (256 + n), .int .i64 o.i, .int .i64 o.n] 31)).alloc (.cells #[.int .i64 o.what, .bool o.user, .int .u64 o.a, .int .u64 o.v, .int .i64 o.g, .int .i64 (8 + n), .int .i64 o.n] 31)).alloc (.cells #[.int .i64 o.what, .bool o.user, .int .u64 o.a, .int .u64 o.v, .int .i64 o.g, .int .i64 o.i, .int .i64 (-1 - n)] 31)).alloc (.cells #[.int .i64 o.what, .bool false, .int .u64 0, .int .u64 0, .int .i64 0, .int .i64 0, .int .i64 0] 31)).alloc (.cells #[.int .i64 (9 + n), .bool o.user, .int .u64 o.a, .int .u64 o.v, .int .i64 o.g, .int .i64 o.i, .int .i64 o.n] 31)).alloc (.cells #[.int .i64 3, .bool true, .int .u64 0, .int .u64 0, .int .i64 0, .int .i64 0, .int .i64 0] 31)) (w3.heap.size + 1 + 1 + 1 + 1) 31 #[.int .i64 (9 + n), .bool o.user, .int .u64 o.a, .int .u64 o.v, .int .i64 o.g, .int .i64 o.i, .int .i64 o.n] := (blk_at (w := ((((w3).alloc (.cells #[.int .i64 o.what, .bool o.user, .int .u64 o.a, .int .u64 o.v, .int .i64 (256 + n), .int .i64 o.i, .int .i64 o.n] 31)).alloc (.cells #[.int .i64 o.what, .bool o.user, .int .u64 o.a, .int .u64 o.v, .int .i64 o.g, .int .i64 (8 + n), .int .i64 o.n] 31)).alloc (.cells #[.int .i64 o.what, .bool o.user, .int .u64 o.a, .int .u64 o.v, .int .i64 o.g, .int .i64 o.i, .int .i64 (-1 - n)] 31)).alloc (.cells #[.int .i64 o.what, .bool false, .int .u64 0, .int .u64 0, .int .i64 0, .int .i64 0, .int .i64 0] 31)) (by simp) _ _).alloc _
    have B6 : Blk (((((((w3).alloc (.cells #[.int .i64 o.what, .bool o.user, .int .u64 o.a, .int .u64 o.v, .int .i64 (256 + n), .int .i64 o.i, .int .i64 o.n] 31)).alloc (.cells #[.int .i64 o.what, .bool o.user, .int .u64 o.a, .int .u64 o.v, .int .i64 o.g, .int .i64 (8 + n), .int .i64 o.n] 31)).alloc (.cells #[.int .i64 o.what, .bool o.user, .int .u64 o.a, .int .u64 o.v, .int .i64 o.g, .int .i64 o.i, .int .i64 (-1 - n)] 31)).alloc (.cells #[.int .i64 o.what, .bool false, .int .u64 0, .int .u64 0, .int .i64 0, .int .i64 0, .int .i64 0] 31)).alloc (.cells #[.int .i64 (9 + n), .bool o.user, .int .u64 o.a, .int .u64 o.v, .int .i64 o.g, .int .i64 o.i, .int .i64 o.n] 31)).alloc (.cells #[.int .i64 3, .bool true, .int .u64 0, .int .u64 0, .int .i64 0, .int .i64 0, .int .i64 0] 31)) (w3.heap.size + 1 + 1 + 1 + 1 + 1) 31 #[.int .i64 3, .bool true, .int .u64 0, .int .u64 0, .int .i64 0, .int .i64 0, .int .i64 0] := blk_at (w := (((((w3).alloc (.cells #[.int .i64 o.what, .bool o.user, .int .u64 o.a, .int .u64 o.v, .int .i64 (256 + n), .int .i64 o.i, .int .i64 o.n] 31)).alloc (.cells #[.int .i64 o.what, .bool o.user, .int .u64 o.a, .int .u64 o.v, .int .i64 o.g, .int .i64 (8 + n), .int .i64 o.n] 31)).alloc (.cells #[.int .i64 o.what, .bool o.user, .int .u64 o.a, .int .u64 o.v, .int .i64 o.g, .int .i64 o.i, .int .i64 (-1 - n)] 31)).alloc (.cells #[.int .i64 o.what, .bool false, .int .u64 0, .int .u64 0, .int .i64 0, .int .i64 0, .int .i64 0] 31)).alloc (.cells #[.int .i64 (9 + n), .bool o.user, .int .u64 o.a, .int .u64 o.v, .int .i64 o.g, .int .i64 o.i, .int .i64 o.n] 31)) (by simp) _ _
    have kc : Chg [] w3 (((((((w3).alloc (.cells #[.int .i64 o.what, .bool o.user, .int .u64 o.a, .int .u64 o.v, .int .i64 (256 + n), .int .i64 o.i, .int .i64 o.n] 31)).alloc (.cells #[.int .i64 o.what, .bool o.user, .int .u64 o.a, .int .u64 o.v, .int .i64 o.g, .int .i64 (8 + n), .int .i64 o.n] 31)).alloc (.cells #[.int .i64 o.what, .bool o.user, .int .u64 o.a, .int .u64 o.v, .int .i64 o.g, .int .i64 o.i, .int .i64 (-1 - n)] 31)).alloc (.cells #[.int .i64 o.what, .bool false, .int .u64 0, .int .u64 0, .int .i64 0, .int .i64 0, .int .i64 0] 31)).alloc (.cells #[.int .i64 (9 + n), .bool o.user, .int .u64 o.a, .int .u64 o.v, .int .i64 o.g, .int .i64 o.i, .int .i64 o.n] 31)).alloc (.cells #[.int .i64 3, .bool true, .int .u64 0, .int .u64 0, .int .i64 0, .int .i64 0, .int .i64 0] 31)) := ((((((Chg.refl [] w3).alloc _).alloc _).alloc _).alloc _).alloc _).alloc _
    obtain ⟨p0, p1, p2, p3, p4, p5, p6⟩ := blk7 ((((B0).alloc (.cells #[.int .i64 o.what, .bool o.user, .int .u64 o.a, .int .u64 o.v, .int .i64 (256 + n), .int .i64 o.i, .int .i64 o.n] 31)).alloc (.cells #[.int .i64 o.what, .bool o.user, .int .u64 o.a, .int .u64 o.v, .int .i64 o.g, .int .i64 (8 + n), .int .i64 o.n] 31)).alloc (.cells #[.int .i64 o.what, .bool o.user, .int .u64 o.a, .int .u64 o.v, .int .i64 o.g, .int .i64 o.i, .int .i64 (-1 - n)] 31))
    obtain ⟨q0, q1, q2, q3, q4, q5, q6⟩ := blk7 (((((B0).alloc (.cells #[.int .i64 o.what, .bool o.user, .int .u64 o.a, .int .u64 o.v, .int .i64 (256 + n), .int .i64 o.i, .int .i64 o.n] 31)).alloc (.cells #[.int .i64 o.what, .bool o.user, .int .u64 o.a, .int .u64 o.v, .int .i64 o.g, .int .i64 (8 + n), .int .i64 o.n] 31)).alloc (.cells #[.int .i64 o.what, .bool o.user, .int .u64 o.a, .int .u64 o.v, .int .i64 o.g, .int .i64 o.i, .int .i64 (-1 - n)] 31)).alloc (.cells #[.int .i64 o.what, .bool false, .int .u64 0, .int .u64 0, .int .i64 0, .int .i64 0, .int .i64 0] 31))
    go_wp2_with fail
    clear p0 p1 p2 p3 p4 p5 p6 q0 q1 q2 q3 q4 q5 q6
    clear B0 c0 c1 c2 c3 c4 c5 c6 hb0
    generalize ((((((w3).alloc (.cells #[.int .i64 o.what, .bool o.user, .int .u64 o.a, .int .u64 o.v, .int .i64 (256 + n), .int .i64 o.i, .int .i64 o.n] 31)).alloc (.cells #[.int .i64 o.what, .bool o.user, .int .u64 o.a, .int .u64 o.v, .int .i64 o.g, .int .i64 (8 + n), .int .i64 o.n] 31)).alloc (.cells #[.int .i64 o.what, .bool o.user, .int .u64 o.a, .int .u64 o.v, .int .i64 o.g, .int .i64 o.i, .int .i64 (-1 - n)] 31)).alloc (.cells #[.int .i64 o.what, .bool false, .int .u64 0, .int .u64 0, .int .i64 0, .int .i64 0, .int .i64 0] 31)).alloc (.cells #[.int .i64 (9 + n), .bool o.user, .int .u64 o.a, .int .u64 o.v, .int .i64 o.g, .int .i64 o.i, .int .i64 o.n] 31)).alloc (.cells #[.int .i64 3, .bool true, .int .u64 0, .int .u64 0, .int .i64 0, .int .i64 0, .int .i64 0] 31) = w4 at *
    replace k0 := k0.trans kc (by simp)
    clear kc
    refine (hA _).mono ?_; rintro e w5 ⟨rfl, y⟩
    replace k0 := k0.trans y (by simp)
    replace B2 := y.blk B2 (by simp)
    replace B3 := y.blk B3 (by simp)
    replace B4 := y.blk B4 (by simp)
    replace B5 := y.blk B5 (by simp)
    replace B6 := y.blk B6 (by simp)
    clear y hA B1
    obtain ⟨m0, m1, m2, m3, m4, m5, m6⟩ := blk7 B2
    go_wp2_with fail
    refine (hB _).mono ?_; rintro e w6 ⟨rfl, y⟩
    replace k0 := k0.trans y (by simp)
    clear m0 m1 m2 m3 m4 m5 m6
    replace B3 := y.blk B3 (by simp)
    replace B4 := y.blk B4 (by simp)
    replace B5 := y.blk B5 (by simp)
    replace B6 := y.blk B6 (by simp)
    clear y hB B2
    obtain ⟨m0, m1, m2, m3, m4, m5, m6⟩ := blk7 B3
    go_wp2_with fail
    refine (hC _).mono ?_; rintro e w7 ⟨rfl, y⟩
    replace k0 := k0.trans y (by simp)
    clear m0 m1 m2 m3 m4 m5 m6
    replace B4 := y.blk B4 (by simp)
    replace B5 := y.blk B5 (by simp)
    replace B6 := y.blk B6 (by simp)
    clear y hC B3
    obtain ⟨m0, m1, m2, m3, m4, m5, m6⟩ := blk7 B4
    go_wp2_with fail
    refine (hD _).mono ?_; rintro e w8 ⟨rfl, y⟩
    replace k0 := k0.trans y (by simp)
    clear m0 m1 m2 m3 m4 m5 m6
    replace B5 := y.blk B5 (by simp)
    replace B6 := y.blk B6 (by simp)
    clear y hD B4
    obtain ⟨m0, m1, m2, m3, m4, m5, m6⟩ := blk7 B5
    go_wp2_with fail
    refine (hE _).mono ?_; rintro e w9 ⟨rfl, y⟩
    replace k0 := k0.trans y (by simp)
    clear m0 m1 m2 m3 m4 m5 m6
    replace B6 := y.blk B6 (by simp)
    clear y hE B5
    obtain ⟨m0, m1, m2, m3, m4, m5, m6⟩ := blk7 B6
    go_wp2_with fail
    refine (hF _).mono ?_; rintro e w10 ⟨rfl, y⟩
    replace k0 := k0.trans y (by simp)
    clear m0 m1 m2 m3 m4 m5 m6
    clear y hF B6
    go_wp2_with fail
    go_ret
    exact ⟨rfl, k0⟩

end Go.Proofs.Ytdmcicgappgiiaa
