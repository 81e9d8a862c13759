/-
  The document's Right.
-/
import Derived.Test.YtdmcicgappgiiaaScriptR1
import Derived.Test.YtdmcicgappgiiaaJoin
namespace Go.Proofs.Ytdmcicgappgiiaa
open Go.RowKit Go.Shelf

theorem ownS_is (o : Sop) : ownS o = ((!o.user || hasC o.what 117) && ((o.a == 0 || hasC o.what 65) && ((o.v == 0 || hasC o.what 86) && ((o.g == 0 || hasC o.what 71) && ((o.i == 0 || hasC o.what 73) && (o.n == 0 || hasC o.what 78)))))) := rfl

set_option maxRecDepth 100000 in
set_option maxHeartbeats 8000000 in
theorem RRight_any (o : Sop) (w : World) : Calls Try.prog 14 #[.agg o.ar] w fun e w' => e = .returned (.bool (rightS o)) ∧ Chg [] w w' := by
  have hEq := ownS_is o
  have hB : rightS o = (boundS o && ownS o) := rfl
  rw [hB, hEq]
  clear hB hEq
  have hH := fun c (hc : isD c) w9 => RHas_any hc o.what w9
  have hHU := fun w9 => hH 117 (by unfold isD; omega) w9
  have hHA := fun w9 => hH 65 (by unfold isD; omega) w9
  have hHV := fun w9 => hH 86 (by unfold isD; omega) w9
  have hHG := fun w9 => hH 71 (by unfold isD; omega) w9
  have hHI := fun w9 => hH 73 (by unfold isD; omega) w9
  have hHN := fun w9 => hH 78 (by unfold isD; omega) w9
  clear hH
  have B0 := Blk.new w 31 #[.int .i64 o.what, .bool o.user, .int .u64 o.a, .int .u64 o.v, .int .i64 o.g, .int .i64 o.i, .int .i64 o.n]
  have k0 : Chg [] w (w.alloc (.cells #[.int .i64 o.what, .bool o.user, .int .u64 o.a, .int .u64 o.v, .int .i64 o.g, .int .i64 o.i, .int .i64 o.n] 31)) := (Chg.refl [] w).alloc _
  simp only [Sop.ar]
  generalize hasC o.what 117 = hU at *
  generalize hasC o.what 65 = hA at *
  generalize hasC o.what 86 = hV at *
  generalize hasC o.what 71 = hG at *
  generalize hasC o.what 73 = hI at *
  generalize hasC o.what 78 = hN at *
  obtain ⟨c0, c1, c2, c3, c4, c5, c6⟩ := blk7 B0
  unfold boundS
  by_cases t0 : o.what < 0
  · rw [decide_eq_false (p := 0 ≤ o.what ∧ o.what ≤ 8 ∧ 0 ≤ o.g ∧ o.g ≤ 255 ∧ 0 ≤ o.n ∧ o.n ≤ 255 ∧ 0 ≤ o.i ∧ o.i ≤ 7) (by omega)]
    go_enter Try.func14, Try.ntmps14
    go_wp2_with fail
    go_ret
    exact ⟨rfl, k0⟩
  by_cases t1 : 8 < o.what
  · rw [decide_eq_false (p := 0 ≤ o.what ∧ o.what ≤ 8 ∧ 0 ≤ o.g ∧ o.g ≤ 255 ∧ 0 ≤ o.n ∧ o.n ≤ 255 ∧ 0 ≤ o.i ∧ o.i ≤ 7) (by omega)]
    go_enter Try.func14, Try.ntmps14
    go_wp2_with fail
    go_ret
    exact ⟨rfl, k0⟩
  by_cases t2 : o.g < 0
  · rw [decide_eq_false (p := 0 ≤ o.what ∧ o.what ≤ 8 ∧ 0 ≤ o.g ∧ o.g ≤ 255 ∧ 0 ≤ o.n ∧ o.n ≤ 255 ∧ 0 ≤ o.i ∧ o.i ≤ 7) (by omega)]
    go_enter Try.func14, Try.ntmps14
    go_wp2_with fail
    go_ret
    exact ⟨rfl, k0⟩
  by_cases t3 : 255 < o.g
  · rw [decide_eq_false (p := 0 ≤ o.what ∧ o.what ≤ 8 ∧ 0 ≤ o.g ∧ o.g ≤ 255 ∧ 0 ≤ o.n ∧ o.n ≤ 255 ∧ 0 ≤ o.i ∧ o.i ≤ 7) (by omega)]
    go_enter Try.func14, Try.ntmps14
    go_wp2_with fail
    go_ret
    exact ⟨rfl, k0⟩
  by_cases t4 : o.n < 0
  · rw [decide_eq_false (p := 0 ≤ o.what ∧ o.what ≤ 8 ∧ 0 ≤ o.g ∧ o.g ≤ 255 ∧ 0 ≤ o.n ∧ o.n ≤ 255 ∧ 0 ≤ o.i ∧ o.i ≤ 7) (by omega)]
    go_enter Try.func14, Try.ntmps14
    go_wp2_with fail
    go_ret
    exact ⟨rfl, k0⟩
  by_cases t5 : 255 < o.n
  · rw [decide_eq_false (p := 0 ≤ o.what ∧ o.what ≤ 8 ∧ 0 ≤ o.g ∧ o.g ≤ 255 ∧ 0 ≤ o.n ∧ o.n ≤ 255 ∧ 0 ≤ o.i ∧ o.i ≤ 7) (by omega)]
    go_enter Try.func14, Try.ntmps14
    go_wp2_with fail
    go_ret
    exact ⟨rfl, k0⟩
  by_cases t6 : o.i < 0
  · rw [decide_eq_false (p := 0 ≤ o.what ∧ o.what ≤ 8 ∧ 0 ≤ o.g ∧ o.g ≤ 255 ∧ 0 ≤ o.n ∧ o.n ≤ 255 ∧ 0 ≤ o.i ∧ o.i ≤ 7) (by omega)]
    go_enter Try.func14, Try.ntmps14
    go_wp2_with fail
    go_ret
    exact ⟨rfl, k0⟩
  by_cases t7 : 7 < o.i
  · rw [decide_eq_false (p := 0 ≤ o.what ∧ o.what ≤ 8 ∧ 0 ≤ o.g ∧ o.g ≤ 255 ∧ 0 ≤ o.n ∧ o.n ≤ 255 ∧ 0 ≤ o.i ∧ o.i ≤ 7) (by omega)]
    go_enter Try.func14, Try.ntmps14
    go_wp2_with fail
    go_ret
    exact ⟨rfl, k0⟩
  rw [decide_eq_true (p := 0 ≤ o.what ∧ o.what ≤ 8 ∧ 0 ≤ o.g ∧ o.g ≤ 255 ∧ 0 ≤ o.n ∧ o.n ≤ 255 ∧ 0 ≤ o.i ∧ o.i ≤ 7) (by omega)]
  generalize hu : o.user = u at *
  replace hu := Lib.hid hu
  generalize hza : (o.a == 0) = za at *
  generalize hzv : (o.v == 0) = zv at *
  generalize hzg : (o.g == 0) = zg at *
  generalize hzi : (o.i == 0) = zi at *
  generalize hzn : (o.n == 0) = zn at *
  generalize hrU : (!u || hU) = rU at *
  replace hrU := Lib.hid hrU
  generalize hrA : (za || hA) = rA at *
  replace hrA := Lib.hid hrA
  generalize hrV : (zv || hV) = rV at *
  replace hrV := Lib.hid hrV
  generalize hrG : (zg || hG) = rG at *
  replace hrG := Lib.hid hrG
  generalize hrI : (zi || hI) = rI at *
  replace hrI := Lib.hid hrI
  generalize hrN : (zn || hN) = rN at *
  replace hrN := Lib.hid hrN
  go_enter Try.func14, Try.ntmps14
  go_wp2_with (first | ((with_reducible refine join_val (o := { dst := some 45, op := _, type := _, pos := _, after := _, guard := _ }) (some 45) rfl (u) (.pointer (some ⟨w.heap.size, 0, none⟩)) ?_ ?_ ?_); (focus (cases u <;> rfl)); (focus (intro hz; go_simp)); intro v45 j45; (try simp only [Act.put, List.setIfInBounds_toArray, List.set_cons_zero, List.set_cons_succ]); (refine join_val (o := { dst := some 46, op := _, type := _, pos := _, after := _, guard := _ }) (some 46) rfl (u) (.int .i64 o.what) ?_ ?_ ?_); (focus (cases u <;> rfl)); (focus (intro hz; have q_ := j45 hz; subst q_; go_simp)); intro v46 j46; (try simp only [Act.put, List.setIfInBounds_toArray, List.set_cons_zero, List.set_cons_succ]); (refine join_call (o := { dst := some 47, op := _, type := _, pos := _, after := _, guard := _ }) (some 47) rfl (u) (.bool hU) 20 #[.int .i64 o.what, .int .u8 117] ?_ ?_ ?_ ?_); (focus (cases u <;> rfl)); (focus (intro hz; have q_ := j46 hz; subst q_; go_simp)); (focus (intro hz; exact hHU _)); intro v47 j47; (try simp only [Act.put, List.setIfInBounds_toArray, List.set_cons_zero, List.set_cons_succ]); (refine join_val (o := { dst := some 48, op := _, type := _, pos := _, after := _, guard := _ }) (some 48) rfl true (.bool rU) ?_ ?_ ?_); (focus (rfl)); (focus (intro hz; clear hz; have q_ := hrU.out; subst q_; clear hrU; cases u <;> (first | (have q2_ := j47 rfl; subst q2_; go_simp; done) | (go_simp; done)))); intro v48 j48; have q_ := j48 rfl; subst q_; (try simp only [Act.put, List.setIfInBounds_toArray, List.set_cons_zero, List.set_cons_succ])) | ((with_reducible refine join_val (o := { dst := some 54, op := _, type := _, pos := _, after := _, guard := _ }) (some 54) rfl (!za) (.pointer (some ⟨w.heap.size, 0, none⟩)) ?_ ?_ ?_); (focus (cases za <;> rfl)); (focus (intro hz; go_simp)); intro v54 j54; (try simp only [Act.put, List.setIfInBounds_toArray, List.set_cons_zero, List.set_cons_succ]); (refine join_val (o := { dst := some 55, op := _, type := _, pos := _, after := _, guard := _ }) (some 55) rfl (!za) (.int .i64 o.what) ?_ ?_ ?_); (focus (cases za <;> rfl)); (focus (intro hz; have q_ := j54 hz; subst q_; go_simp)); intro v55 j55; (try simp only [Act.put, List.setIfInBounds_toArray, List.set_cons_zero, List.set_cons_succ]); (refine join_call (o := { dst := some 56, op := _, type := _, pos := _, after := _, guard := _ }) (some 56) rfl (!za) (.bool hA) 20 #[.int .i64 o.what, .int .u8 65] ?_ ?_ ?_ ?_); (focus (cases za <;> rfl)); (focus (intro hz; have q_ := j55 hz; subst q_; go_simp)); (focus (intro hz; exact hHA _)); intro v56 j56; (try simp only [Act.put, List.setIfInBounds_toArray, List.set_cons_zero, List.set_cons_succ]); (refine join_val (o := { dst := some 57, op := _, type := _, pos := _, after := _, guard := _ }) (some 57) rfl true (.bool rA) ?_ ?_ ?_); (focus (rfl)); (focus (intro hz; clear hz; have q_ := hrA.out; subst q_; clear hrA; cases za <;> (first | (have q2_ := j56 rfl; subst q2_; go_simp; done) | (go_simp; done)))); intro v57 j57; have q_ := j57 rfl; subst q_; (try simp only [Act.put, List.setIfInBounds_toArray, List.set_cons_zero, List.set_cons_succ])) | ((with_reducible refine join_val (o := { dst := some 64, op := _, type := _, pos := _, after := _, guard := _ }) (some 64) rfl (!zv) (.pointer (some ⟨w.heap.size, 0, none⟩)) ?_ ?_ ?_); (focus (cases zv <;> rfl)); (focus (intro hz; go_simp)); intro v64 j64; (try simp only [Act.put, List.setIfInBounds_toArray, List.set_cons_zero, List.set_cons_succ]); (refine join_val (o := { dst := some 65, op := _, type := _, pos := _, after := _, guard := _ }) (some 65) rfl (!zv) (.int .i64 o.what) ?_ ?_ ?_); (focus (cases zv <;> rfl)); (focus (intro hz; have q_ := j64 hz; subst q_; go_simp)); intro v65 j65; (try simp only [Act.put, List.setIfInBounds_toArray, List.set_cons_zero, List.set_cons_succ]); (refine join_call (o := { dst := some 66, op := _, type := _, pos := _, after := _, guard := _ }) (some 66) rfl (!zv) (.bool hV) 20 #[.int .i64 o.what, .int .u8 86] ?_ ?_ ?_ ?_); (focus (cases zv <;> rfl)); (focus (intro hz; have q_ := j65 hz; subst q_; go_simp)); (focus (intro hz; exact hHV _)); intro v66 j66; (try simp only [Act.put, List.setIfInBounds_toArray, List.set_cons_zero, List.set_cons_succ]); (refine join_val (o := { dst := some 67, op := _, type := _, pos := _, after := _, guard := _ }) (some 67) rfl true (.bool rV) ?_ ?_ ?_); (focus (rfl)); (focus (intro hz; clear hz; have q_ := hrV.out; subst q_; clear hrV; cases zv <;> (first | (have q2_ := j66 rfl; subst q2_; go_simp; done) | (go_simp; done)))); intro v67 j67; have q_ := j67 rfl; subst q_; (try simp only [Act.put, List.setIfInBounds_toArray, List.set_cons_zero, List.set_cons_succ])) | ((with_reducible refine join_val (o := { dst := some 74, op := _, type := _, pos := _, after := _, guard := _ }) (some 74) rfl (!zg) (.pointer (some ⟨w.heap.size, 0, none⟩)) ?_ ?_ ?_); (focus (cases zg <;> rfl)); (focus (intro hz; go_simp)); intro v74 j74; (try simp only [Act.put, List.setIfInBounds_toArray, List.set_cons_zero, List.set_cons_succ]); (refine join_val (o := { dst := some 75, op := _, type := _, pos := _, after := _, guard := _ }) (some 75) rfl (!zg) (.int .i64 o.what) ?_ ?_ ?_); (focus (cases zg <;> rfl)); (focus (intro hz; have q_ := j74 hz; subst q_; go_simp)); intro v75 j75; (try simp only [Act.put, List.setIfInBounds_toArray, List.set_cons_zero, List.set_cons_succ]); (refine join_call (o := { dst := some 76, op := _, type := _, pos := _, after := _, guard := _ }) (some 76) rfl (!zg) (.bool hG) 20 #[.int .i64 o.what, .int .u8 71] ?_ ?_ ?_ ?_); (focus (cases zg <;> rfl)); (focus (intro hz; have q_ := j75 hz; subst q_; go_simp)); (focus (intro hz; exact hHG _)); intro v76 j76; (try simp only [Act.put, List.setIfInBounds_toArray, List.set_cons_zero, List.set_cons_succ]); (refine join_val (o := { dst := some 77, op := _, type := _, pos := _, after := _, guard := _ }) (some 77) rfl true (.bool rG) ?_ ?_ ?_); (focus (rfl)); (focus (intro hz; clear hz; have q_ := hrG.out; subst q_; clear hrG; cases zg <;> (first | (have q2_ := j76 rfl; subst q2_; go_simp; done) | (go_simp; done)))); intro v77 j77; have q_ := j77 rfl; subst q_; (try simp only [Act.put, List.setIfInBounds_toArray, List.set_cons_zero, List.set_cons_succ])) | ((with_reducible refine join_val (o := { dst := some 84, op := _, type := _, pos := _, after := _, guard := _ }) (some 84) rfl (!zi) (.pointer (some ⟨w.heap.size, 0, none⟩)) ?_ ?_ ?_); (focus (cases zi <;> rfl)); (focus (intro hz; go_simp)); intro v84 j84; (try simp only [Act.put, List.setIfInBounds_toArray, List.set_cons_zero, List.set_cons_succ]); (refine join_val (o := { dst := some 85, op := _, type := _, pos := _, after := _, guard := _ }) (some 85) rfl (!zi) (.int .i64 o.what) ?_ ?_ ?_); (focus (cases zi <;> rfl)); (focus (intro hz; have q_ := j84 hz; subst q_; go_simp)); intro v85 j85; (try simp only [Act.put, List.setIfInBounds_toArray, List.set_cons_zero, List.set_cons_succ]); (refine join_call (o := { dst := some 86, op := _, type := _, pos := _, after := _, guard := _ }) (some 86) rfl (!zi) (.bool hI) 20 #[.int .i64 o.what, .int .u8 73] ?_ ?_ ?_ ?_); (focus (cases zi <;> rfl)); (focus (intro hz; have q_ := j85 hz; subst q_; go_simp)); (focus (intro hz; exact hHI _)); intro v86 j86; (try simp only [Act.put, List.setIfInBounds_toArray, List.set_cons_zero, List.set_cons_succ]); (refine join_val (o := { dst := some 87, op := _, type := _, pos := _, after := _, guard := _ }) (some 87) rfl true (.bool rI) ?_ ?_ ?_); (focus (rfl)); (focus (intro hz; clear hz; have q_ := hrI.out; subst q_; clear hrI; cases zi <;> (first | (have q2_ := j86 rfl; subst q2_; go_simp; done) | (go_simp; done)))); intro v87 j87; have q_ := j87 rfl; subst q_; (try simp only [Act.put, List.setIfInBounds_toArray, List.set_cons_zero, List.set_cons_succ])) | ((with_reducible refine join_val (o := { dst := some 94, op := _, type := _, pos := _, after := _, guard := _ }) (some 94) rfl (!zn) (.pointer (some ⟨w.heap.size, 0, none⟩)) ?_ ?_ ?_); (focus (cases zn <;> rfl)); (focus (intro hz; go_simp)); intro v94 j94; (try simp only [Act.put, List.setIfInBounds_toArray, List.set_cons_zero, List.set_cons_succ]); (refine join_val (o := { dst := some 95, op := _, type := _, pos := _, after := _, guard := _ }) (some 95) rfl (!zn) (.int .i64 o.what) ?_ ?_ ?_); (focus (cases zn <;> rfl)); (focus (intro hz; have q_ := j94 hz; subst q_; go_simp)); intro v95 j95; (try simp only [Act.put, List.setIfInBounds_toArray, List.set_cons_zero, List.set_cons_succ]); (refine join_call (o := { dst := some 96, op := _, type := _, pos := _, after := _, guard := _ }) (some 96) rfl (!zn) (.bool hN) 20 #[.int .i64 o.what, .int .u8 78] ?_ ?_ ?_ ?_); (focus (cases zn <;> rfl)); (focus (intro hz; have q_ := j95 hz; subst q_; go_simp)); (focus (intro hz; exact hHN _)); intro v96 j96; (try simp only [Act.put, List.setIfInBounds_toArray, List.set_cons_zero, List.set_cons_succ]); (refine join_val (o := { dst := some 97, op := _, type := _, pos := _, after := _, guard := _ }) (some 97) rfl true (.bool rN) ?_ ?_ ?_); (focus (rfl)); (focus (intro hz; clear hz; have q_ := hrN.out; subst q_; clear hrN; cases zn <;> (first | (have q2_ := j96 rfl; subst q2_; go_simp; done) | (go_simp; done)))); intro v97 j97; have q_ := j97 rfl; subst q_; (try simp only [Act.put, List.setIfInBounds_toArray, List.set_cons_zero, List.set_cons_succ])))
  all_goals
    go_ret
    exact ⟨rfl, k0⟩

end Go.Proofs.Ytdmcicgappgiiaa
