/-
  The law ScriptRow.
-/
import Derived.Test.YtdmcicgappgiiaaScriptHead
namespace Go.Proofs.Ytdmcicgappgiiaa
open Go.RowKit Go.Shelf

set_option maxRecDepth 100000 in
set_option maxHeartbeats 8000000 in
theorem ScriptRow_walk (A : Option Addr) (na ca : Nat) (la : List Sop) (B : Option Addr) (nb cb : Nat) (lb : List Sop) (w : World) (hA : SlG opE w A na la) (hwa : ∀ o ∈ la, o.Wf) (hA0 : A = none → na = 0 ∧ ca = 0) (hB : SlG opE w B nb lb) (hwb : ∀ o ∈ lb, o.Wf) (hB0 : B = none → nb = 0 ∧ cb = 0) :
    Calls Try.prog 6 #[.slice A na ca, .slice B nb cb] w fun e w' => e = .returned (.bool true) ∧ Chg [] w w' := by
  have hal := Lib.hid hA.len
  have hbl := Lib.hid hB.len
  have hle := hA.le
  have hle2 := hB.le
  go_enter Try.func6, Try.ntmps6
  go_wp2_with fail
  refine (Schead_any _).mono ?_; rintro e w1 ⟨rfl, k1⟩
  by_cases hbig : 400 < na
  · go_wp2_with fail
    go_ret
    exact ⟨rfl, k1⟩
  by_cases hbig2 : 400 < nb
  · go_wp2_with fail
    go_ret
    exact ⟨rfl, k1⟩
  have hp0 := putS_le la
  rw [hA.len] at hp0
  have hq0 := putS_le lb
  rw [hB.len] at hq0
  have hra := put_all (l := la)
  have hrb := put_all (l := lb)
  rw [hA.len] at hra
  rw [hB.len] at hrb
  generalize hpe : putS la = p at *
  generalize hqe : putS lb = q at *
  generalize hnp : p.length = np at *
  generalize hnq : q.length = nq at *
  have hP := ScPut_is (c := ca) hpe hnp (hA.new k1) hwa (by omega)
  have hQ := fun w9 (k9 : Chg [] w w9) => ScPut_is (c := cb) hqe hnq (hB.new k9) hwb (by omega)
  replace hnp := Lib.hid hnp
  replace hnq := Lib.hid hnq
  replace hpe := Lib.hid hpe
  replace hqe := Lib.hid hqe
  go_wp2_with fail
  refine hP.mono ?_; rintro e w2 ⟨A2, c2, rfl, lg2⟩
  clear hP
  have k2 := k1.trans lg2.1 (by simp)
  go_wp2_with fail
  refine (hQ _ k2).mono ?_; rintro e w3 ⟨A3, c3, rfl, lg3⟩
  clear hQ
  have k3 := k2.trans lg3.1 (by simp)
  replace lg2 := lg2.new lg3.1
  clear k2
  by_cases q_np : np = 0
  · by_cases q_na : 0 < na
    · have z_np : ((np : Int) == 0) = true := by simp; omega
      have y_na : decide (0 < na) = true := by simpa using q_na
      clear q_na q_np
      go_wp2_with fail
      go_ret
      exact ⟨rfl, k3⟩
    · have z_np : ((np : Int) == 0) = true := by simp; omega
      have y_na : decide (0 < na) = false := by simpa using q_na
      have r_np : ¬ (np = 0 ∧ 0 < na) := by omega
      clear q_na q_np
      by_cases q_nq : nq = 0
      · by_cases q_nb : 0 < nb
        · have z_nq : ((nq : Int) == 0) = true := by simp; omega
          have y_nb : decide (0 < nb) = true := by simpa using q_nb
          clear q_nb q_nq
          go_wp2_with fail
          go_ret
          exact ⟨rfl, k3⟩
        · have z_nq : ((nq : Int) == 0) = true := by simp; omega
          have y_nb : decide (0 < nb) = false := by simpa using q_nb
          have r_nq : ¬ (nq = 0 ∧ 0 < nb) := by omega
          clear q_nb q_nq
          replace hra := hra r_np; replace hrb := hrb r_nq
          clear r_np r_nq
          have hpq := put_app hra hrb
          rw [hpe.out, hqe.out] at hpq
          have hse := put_eq hra hrb hwa hwb
          rw [hpe.out, hqe.out] at hse
          have lge : LG opE w3 (w3.alloc (.cells #[] 31)) 31 (.slice (some ⟨w3.heap.size, 0, none⟩) 0 0) [] := ⟨(Chg.refl [] w3).alloc _, OwnG.lit (L := []) (Blk.new w3 31 #[]) (by decide), by simp [Value.ownBlock]⟩
          have k4 := k3.trans lge.1 (by simp)
          go_wp2_with (at_builtin; first | (refine wpList_append_G rfl _ _ 22 rfl 31 (.agg #[.int .i64 0, .bool false, .int .u64 0, .int .u64 0, .int .i64 0, .int .i64 0, .int .i64 0]) 56 Try.underlying22 (by kernel_rfl) (by kernel_rfl) (.slice (some ⟨w3.heap.size, 0, none⟩) 0 0) ([]) rfl (lge.2.1) (A) na ca (la) rfl ((hA.new k4).src hA0) (hal.out) (by simp; omega) ?_; intro v5 w5 ho5 hc5 hv5; rw [List.nil_append] at ho5; obtain ⟨A5, c5, rfl, _, _⟩ := ho5.form; have lg5 := lge.app ho5 hc5 hv5; have k5 := k3.trans lg5.1 (by simp); replace lg5 := lg5.len_ hal.out; clear lge ho5 hc5 hv5; rw [hal.out]) | (refine wpList_append_G rfl _ _ 22 rfl 31 (.agg #[.int .i64 0, .bool false, .int .u64 0, .int .u64 0, .int .i64 0, .int .i64 0, .int .i64 0]) 56 Try.underlying22 (by kernel_rfl) (by kernel_rfl) (.slice A5 na c5) (la) rfl (lg5.2.1) (B) nb cb (lb) rfl ((hB.new k5).src hB0) (hbl.out) (by rw [hal.out]; omega) ?_; intro v7 w7 ho7 hc7 hv7; obtain ⟨A7, c7, rfl, _, _⟩ := ho7.form; have lg7 := lg5.app ho7 hc7 hv7; have k7 := k3.trans lg7.1 (by simp); have l7 : (la ++ lb).length = na + nb := (by rw [List.length_append, hal.out, hbl.out]); replace lg7 := lg7.len_ l7; rw [l7]; clear lg5 ho7 hc7 hv7))
          replace l7 := Lib.hid l7
          have hPa := ScPut_is (n := np + nq) (c := c7) hpq (by rw [List.length_append, hnp.out, hnq.out]) lg7.2.1.slg (fun o ho => (List.mem_append.1 ho).elim (hwa o) (hwb o)) (by omega)
          refine hPa.mono ?_; rintro e w8 ⟨A8, c8, rfl, lg8⟩
          clear hPa hpq
          have k38 := lg7.1.trans lg8.1 (by simp)
          have k8 := k3.trans k38 (by simp)
          replace lg2 := lg2.new k38
          replace lg3 := lg3.new k38
          clear lg7 k7 k5 k4 k3 k38 l7
          have hc8 := fun w9 (k9 : Chg [] w8 w9) => run_str (P := Try.prog) (c := c8) (lg8.new k9).2.1.slg (fun e => (lg8.2.1.nil_ e).1) 23 5 9 Try.underlying23 Try.underlying5 Try.underlying9
          have hc2 := fun w9 (k9 : Chg [] w8 w9) => run_str (P := Try.prog) (c := c2) (lg2.new k9).2.1.slg (fun e => (lg2.2.1.nil_ e).1) 23 5 9 Try.underlying23 Try.underlying5 Try.underlying9
          have hc3 := fun w9 (k9 : Chg [] w8 w9) => run_str (P := Try.prog) (c := c3) (lg3.new k9).2.1.slg (fun e => (lg3.2.1.nil_ e).1) 23 5 9 Try.underlying23 Try.underlying5 Try.underlying9
          rw [str_app] at hc8
          have hss : ¬ 9223372036854775807 < (strOfNums p).size + (strOfNums q).size := by rw [strOfNums_size, strOfNums_size, hnp.out, hnq.out]; omega
          have hS := fun w9 (k9 : Chg [] w8 w9) => ScSame_any A B na nb ca cb la lb w9 (hA.new (k8.trans k9 (by simp))) (hB.new (k8.trans k9 (by simp)))
          generalize strOfNums p = SP at *
          generalize strOfNums q = SQ at *
          generalize decide (la = lb) = eqd at *
          go_wp2_with fail
          refine wp_region_noPanic ?_
          refine wp_region_held_drew (S := (fun w' => Chg [] w8 w')) (by kernel_rfl) ?_ (fun hHeld => ?_)
          · exact (Chg.refl [] w8).drew
          (refine take_on 0 (some 48) (v := ?_) rfl rfl (by kernel_rfl) (by kernel_rfl) (by kernel_rfl) (fun _ _ _ h => h) (by rfl) (by assumption) ?_ ?_; rotate_left; · (intro w hSw; (try dsimp only at hSw); go_simp; (try with_reducible rfl)))
          (try simp only [Act.put, List.setIfInBounds_toArray, List.set_cons_zero, List.set_cons_succ])
          (refine take_on 1 (some 49) (v := ?_) rfl rfl (by kernel_rfl) (by kernel_rfl) (by kernel_rfl) (fun _ _ _ h => h) (by rfl) (by assumption) ?_ ?_; rotate_left; · (intro w hSw; (try dsimp only at hSw); go_simp; (try with_reducible rfl)))
          (try simp only [Act.put, List.setIfInBounds_toArray, List.set_cons_zero, List.set_cons_succ])
          (refine take_on 2 (some 50) (v := ?_) rfl rfl (by kernel_rfl) (by kernel_rfl) (by kernel_rfl) (fun _ _ _ h => h) (by rfl) (by assumption) ?_ ?_; rotate_left; · (intro w hSw; (try dsimp only at hSw); go_simp; (try with_reducible rfl)))
          (try simp only [Act.put, List.setIfInBounds_toArray, List.set_cons_zero, List.set_cons_succ])
          (refine take_on 3 (some 51) (v := ?_) rfl rfl (by kernel_rfl) (by kernel_rfl) (by kernel_rfl) (fun _ _ _ h => h) (by rfl) (by assumption) ?_ ?_; rotate_left; · (intro w hSw; (try dsimp only at hSw); have hq_ := hc8 _ hSw; go_simp; (try with_reducible rfl)))
          (try simp only [Act.put, List.setIfInBounds_toArray, List.set_cons_zero, List.set_cons_succ])
          (refine take_on 4 (some 52) (v := ?_) rfl rfl (by kernel_rfl) (by kernel_rfl) (by kernel_rfl) (fun _ _ _ h => h) (by rfl) (by assumption) ?_ ?_; rotate_left; · (intro w hSw; (try dsimp only at hSw); go_simp; (try with_reducible rfl)))
          (try simp only [Act.put, List.setIfInBounds_toArray, List.set_cons_zero, List.set_cons_succ])
          (refine take_on 5 (some 53) (v := ?_) rfl rfl (by kernel_rfl) (by kernel_rfl) (by kernel_rfl) (fun _ _ _ h => h) (by rfl) (by assumption) ?_ ?_; rotate_left; · (intro w hSw; (try dsimp only at hSw); have hq_ := hc2 _ hSw; go_simp; (try with_reducible rfl)))
          (try simp only [Act.put, List.setIfInBounds_toArray, List.set_cons_zero, List.set_cons_succ])
          (refine take_on 6 (some 54) (v := ?_) rfl rfl (by kernel_rfl) (by kernel_rfl) (by kernel_rfl) (fun _ _ _ h => h) (by rfl) (by assumption) ?_ ?_; rotate_left; · (intro w hSw; (try dsimp only at hSw); go_simp; (try with_reducible rfl)))
          (try simp only [Act.put, List.setIfInBounds_toArray, List.set_cons_zero, List.set_cons_succ])
          (refine take_on 7 (some 55) (v := ?_) rfl rfl (by kernel_rfl) (by kernel_rfl) (by kernel_rfl) (fun _ _ _ h => h) (by rfl) (by assumption) ?_ ?_; rotate_left; · (intro w hSw; (try dsimp only at hSw); have hq_ := hc3 _ hSw; go_simp; (try with_reducible rfl)))
          (try simp only [Act.put, List.setIfInBounds_toArray, List.set_cons_zero, List.set_cons_succ])
          (refine take_on 8 (some 56) (v := ?_) rfl rfl (by kernel_rfl) (by kernel_rfl) (by kernel_rfl) (fun _ _ _ h => h) (by rfl) (by assumption) ?_ ?_; rotate_left; · (intro w hSw; (try dsimp only at hSw); go_simp; (try with_reducible rfl)))
          (try simp only [Act.put, List.setIfInBounds_toArray, List.set_cons_zero, List.set_cons_succ])
          (refine take_on 9 (some 57) (v := ?_) rfl rfl (by kernel_rfl) (by kernel_rfl) (by kernel_rfl) (fun _ _ _ h => h) (by rfl) (by assumption) ?_ ?_; rotate_left; · (intro w hSw; (try dsimp only at hSw); go_simp; (try with_reducible rfl)))
          (try simp only [Act.put, List.setIfInBounds_toArray, List.set_cons_zero, List.set_cons_succ])
          (refine take_on 10 (some 58) (v := ?_) rfl rfl (by kernel_rfl) (by kernel_rfl) (by kernel_rfl) (fun _ _ _ h => h) (by rfl) (by assumption) ?_ ?_; rotate_left; · (intro w hSw; (try dsimp only at hSw); go_simp; (try with_reducible rfl)))
          (try simp only [Act.put, List.setIfInBounds_toArray, List.set_cons_zero, List.set_cons_succ])
          (refine take_on 11 (some 59) (v := ?_) rfl rfl (by kernel_rfl) (by kernel_rfl) (by kernel_rfl) (fun _ _ _ h => h) (by rfl) (by assumption) ?_ ?_; rotate_left; · (intro w hSw; (try dsimp only at hSw); go_simp; (try with_reducible rfl)))
          (try simp only [Act.put, List.setIfInBounds_toArray, List.set_cons_zero, List.set_cons_succ])
          (refine take_on 12 (some 60) (v := ?_) rfl rfl (by kernel_rfl) (by kernel_rfl) (by kernel_rfl) (fun _ _ _ h => h) (by rfl) (by assumption) ?_ ?_; rotate_left; · (intro w hSw; (try dsimp only at hSw); go_simp; (try with_reducible rfl)))
          (try simp only [Act.put, List.setIfInBounds_toArray, List.set_cons_zero, List.set_cons_succ])
          (refine take_on 13 (some 61) (v := ?_) rfl rfl (by kernel_rfl) (by kernel_rfl) (by kernel_rfl) (fun _ _ _ h => h) (by rfl) (by assumption) ?_ ?_; rotate_left; · (intro w hSw; (try dsimp only at hSw); have hq_ := hc2 _ hSw; go_simp; (try with_reducible rfl)))
          (try simp only [Act.put, List.setIfInBounds_toArray, List.set_cons_zero, List.set_cons_succ])
          (refine take_on 14 (some 62) (v := ?_) rfl rfl (by kernel_rfl) (by kernel_rfl) (by kernel_rfl) (fun _ _ _ h => h) (by rfl) (by assumption) ?_ ?_; rotate_left; · (intro w hSw; (try dsimp only at hSw); go_simp; (try with_reducible rfl)))
          (try simp only [Act.put, List.setIfInBounds_toArray, List.set_cons_zero, List.set_cons_succ])
          (refine take_on 15 (some 63) (v := ?_) rfl rfl (by kernel_rfl) (by kernel_rfl) (by kernel_rfl) (fun _ _ _ h => h) (by rfl) (by assumption) ?_ ?_; rotate_left; · (intro w hSw; (try dsimp only at hSw); have hq_ := hc3 _ hSw; go_simp; (try with_reducible rfl)))
          (try simp only [Act.put, List.setIfInBounds_toArray, List.set_cons_zero, List.set_cons_succ])
          (refine take_on 16 (some 64) (v := ?_) rfl rfl (by kernel_rfl) (by kernel_rfl) (by kernel_rfl) (fun _ _ _ h => h) (by rfl) (by assumption) ?_ ?_; rotate_left; · (intro w hSw; (try dsimp only at hSw); go_simp; (try with_reducible rfl)))
          (try simp only [Act.put, List.setIfInBounds_toArray, List.set_cons_zero, List.set_cons_succ])
          (refine take_on 17 (some 65) (v := ?_) rfl rfl (by kernel_rfl) (by kernel_rfl) (by kernel_rfl) (fun _ _ _ h => h) (by rfl) (by assumption) ?_ ?_; rotate_left; · (intro w hSw; (try dsimp only at hSw); go_simp; (try with_reducible rfl)))
          (try simp only [Act.put, List.setIfInBounds_toArray, List.set_cons_zero, List.set_cons_succ])
          (refine take_on 18 (some 66) (v := ?_) rfl rfl (by kernel_rfl) (by kernel_rfl) (by kernel_rfl) (fun _ _ _ h => h) (by rfl) (by assumption) ?_ ?_; rotate_left; · (intro w hSw; (try dsimp only at hSw); go_simp; (try with_reducible rfl)))
          (try simp only [Act.put, List.setIfInBounds_toArray, List.set_cons_zero, List.set_cons_succ])
          refine wpAnyH_ready (rs := [19]) (by kernel_rfl) (by simp) ?_; refine AllReadyH.cons (o := _) rfl (fun K hK => ?_) AllReadyH.nil
          go_simp
          (go_at_call 17; refine (hS _ hHeld).mono ?_; rintro e u1 ⟨rfl, y1⟩)
          refine hK.out _ _ (by (try dsimp only); exact hHeld.trans y1 (by simp)) (fun hHeld => ?_)
          clear hK K
          (try simp only [Act.put, List.setIfInBounds_toArray, List.set_cons_zero, List.set_cons_succ])
          (refine take_on 20 (some 68) (v := ?_) rfl rfl (by kernel_rfl) (by kernel_rfl) (by kernel_rfl) (fun _ _ _ h => h) (by rfl) (by assumption) ?_ ?_; rotate_left; · (intro w hSw; (try dsimp only at hSw); go_simp; (try with_reducible rfl)))
          (try simp only [Act.put, List.setIfInBounds_toArray, List.set_cons_zero, List.set_cons_succ])
          (refine take_on 21 (some 69) (v := ?_) rfl rfl (by kernel_rfl) (by kernel_rfl) (by kernel_rfl) (fun _ _ _ h => h) (by rfl) (by assumption) ?_ ?_; rotate_left; · (intro w hSw; (try dsimp only at hSw); go_simp; (try with_reducible rfl)))
          (try simp only [Act.put, List.setIfInBounds_toArray, List.set_cons_zero, List.set_cons_succ])
          (refine take_on 22 (some 4) (v := ?_) rfl rfl (by kernel_rfl) (by kernel_rfl) (by kernel_rfl) (fun _ _ _ h => h) (by rfl) (by assumption) ?_ ?_; rotate_left; · (intro w hSw; (try dsimp only at hSw); go_simp; (try with_reducible rfl)))
          (try simp only [Act.put, List.setIfInBounds_toArray, List.set_cons_zero, List.set_cons_succ])
          refine wpAnyH_done (by kernel_rfl) ?_ _
          refine NoPanic.normal ?_
          replace k8 := k8.trans hHeld (by simp)
          clear hHeld hc8 hc2 hc3 hS
          go_wp2_with fail
          go_ret
          exact ⟨rfl, k8⟩
      · have z_nq : ((nq : Int) == 0) = false := by simp; omega
        have r_nq : ¬ (nq = 0 ∧ 0 < nb) := by omega
        clear q_nq
        replace hra := hra r_np; replace hrb := hrb r_nq
        clear r_np r_nq
        have hpq := put_app hra hrb
        rw [hpe.out, hqe.out] at hpq
        have hse := put_eq hra hrb hwa hwb
        rw [hpe.out, hqe.out] at hse
        have lge : LG opE w3 (w3.alloc (.cells #[] 31)) 31 (.slice (some ⟨w3.heap.size, 0, none⟩) 0 0) [] := ⟨(Chg.refl [] w3).alloc _, OwnG.lit (L := []) (Blk.new w3 31 #[]) (by decide), by simp [Value.ownBlock]⟩
        have k4 := k3.trans lge.1 (by simp)
        go_wp2_with (at_builtin; first | (refine wpList_append_G rfl _ _ 22 rfl 31 (.agg #[.int .i64 0, .bool false, .int .u64 0, .int .u64 0, .int .i64 0, .int .i64 0, .int .i64 0]) 56 Try.underlying22 (by kernel_rfl) (by kernel_rfl) (.slice (some ⟨w3.heap.size, 0, none⟩) 0 0) ([]) rfl (lge.2.1) (A) na ca (la) rfl ((hA.new k4).src hA0) (hal.out) (by simp; omega) ?_; intro v5 w5 ho5 hc5 hv5; rw [List.nil_append] at ho5; obtain ⟨A5, c5, rfl, _, _⟩ := ho5.form; have lg5 := lge.app ho5 hc5 hv5; have k5 := k3.trans lg5.1 (by simp); replace lg5 := lg5.len_ hal.out; clear lge ho5 hc5 hv5; rw [hal.out]) | (refine wpList_append_G rfl _ _ 22 rfl 31 (.agg #[.int .i64 0, .bool false, .int .u64 0, .int .u64 0, .int .i64 0, .int .i64 0, .int .i64 0]) 56 Try.underlying22 (by kernel_rfl) (by kernel_rfl) (.slice A5 na c5) (la) rfl (lg5.2.1) (B) nb cb (lb) rfl ((hB.new k5).src hB0) (hbl.out) (by rw [hal.out]; omega) ?_; intro v7 w7 ho7 hc7 hv7; obtain ⟨A7, c7, rfl, _, _⟩ := ho7.form; have lg7 := lg5.app ho7 hc7 hv7; have k7 := k3.trans lg7.1 (by simp); have l7 : (la ++ lb).length = na + nb := (by rw [List.length_append, hal.out, hbl.out]); replace lg7 := lg7.len_ l7; rw [l7]; clear lg5 ho7 hc7 hv7))
        replace l7 := Lib.hid l7
        have hPa := ScPut_is (n := np + nq) (c := c7) hpq (by rw [List.length_append, hnp.out, hnq.out]) lg7.2.1.slg (fun o ho => (List.mem_append.1 ho).elim (hwa o) (hwb o)) (by omega)
        refine hPa.mono ?_; rintro e w8 ⟨A8, c8, rfl, lg8⟩
        clear hPa hpq
        have k38 := lg7.1.trans lg8.1 (by simp)
        have k8 := k3.trans k38 (by simp)
        replace lg2 := lg2.new k38
        replace lg3 := lg3.new k38
        clear lg7 k7 k5 k4 k3 k38 l7
        have hc8 := fun w9 (k9 : Chg [] w8 w9) => run_str (P := Try.prog) (c := c8) (lg8.new k9).2.1.slg (fun e => (lg8.2.1.nil_ e).1) 23 5 9 Try.underlying23 Try.underlying5 Try.underlying9
        have hc2 := fun w9 (k9 : Chg [] w8 w9) => run_str (P := Try.prog) (c := c2) (lg2.new k9).2.1.slg (fun e => (lg2.2.1.nil_ e).1) 23 5 9 Try.underlying23 Try.underlying5 Try.underlying9
        have hc3 := fun w9 (k9 : Chg [] w8 w9) => run_str (P := Try.prog) (c := c3) (lg3.new k9).2.1.slg (fun e => (lg3.2.1.nil_ e).1) 23 5 9 Try.underlying23 Try.underlying5 Try.underlying9
        rw [str_app] at hc8
        have hss : ¬ 9223372036854775807 < (strOfNums p).size + (strOfNums q).size := by rw [strOfNums_size, strOfNums_size, hnp.out, hnq.out]; omega
        have hS := fun w9 (k9 : Chg [] w8 w9) => ScSame_any A B na nb ca cb la lb w9 (hA.new (k8.trans k9 (by simp))) (hB.new (k8.trans k9 (by simp)))
        generalize strOfNums p = SP at *
        generalize strOfNums q = SQ at *
        generalize decide (la = lb) = eqd at *
        go_wp2_with fail
        refine wp_region_noPanic ?_
        refine wp_region_held_drew (S := (fun w' => Chg [] w8 w')) (by kernel_rfl) ?_ (fun hHeld => ?_)
        · exact (Chg.refl [] w8).drew
        (refine take_on 0 (some 48) (v := ?_) rfl rfl (by kernel_rfl) (by kernel_rfl) (by kernel_rfl) (fun _ _ _ h => h) (by rfl) (by assumption) ?_ ?_; rotate_left; · (intro w hSw; (try dsimp only at hSw); go_simp; (try with_reducible rfl)))
        (try simp only [Act.put, List.setIfInBounds_toArray, List.set_cons_zero, List.set_cons_succ])
        (refine take_on 1 (some 49) (v := ?_) rfl rfl (by kernel_rfl) (by kernel_rfl) (by kernel_rfl) (fun _ _ _ h => h) (by rfl) (by assumption) ?_ ?_; rotate_left; · (intro w hSw; (try dsimp only at hSw); go_simp; (try with_reducible rfl)))
        (try simp only [Act.put, List.setIfInBounds_toArray, List.set_cons_zero, List.set_cons_succ])
        (refine take_on 2 (some 50) (v := ?_) rfl rfl (by kernel_rfl) (by kernel_rfl) (by kernel_rfl) (fun _ _ _ h => h) (by rfl) (by assumption) ?_ ?_; rotate_left; · (intro w hSw; (try dsimp only at hSw); go_simp; (try with_reducible rfl)))
        (try simp only [Act.put, List.setIfInBounds_toArray, List.set_cons_zero, List.set_cons_succ])
        (refine take_on 3 (some 51) (v := ?_) rfl rfl (by kernel_rfl) (by kernel_rfl) (by kernel_rfl) (fun _ _ _ h => h) (by rfl) (by assumption) ?_ ?_; rotate_left; · (intro w hSw; (try dsimp only at hSw); have hq_ := hc8 _ hSw; go_simp; (try with_reducible rfl)))
        (try simp only [Act.put, List.setIfInBounds_toArray, List.set_cons_zero, List.set_cons_succ])
        (refine take_on 4 (some 52) (v := ?_) rfl rfl (by kernel_rfl) (by kernel_rfl) (by kernel_rfl) (fun _ _ _ h => h) (by rfl) (by assumption) ?_ ?_; rotate_left; · (intro w hSw; (try dsimp only at hSw); go_simp; (try with_reducible rfl)))
        (try simp only [Act.put, List.setIfInBounds_toArray, List.set_cons_zero, List.set_cons_succ])
        (refine take_on 5 (some 53) (v := ?_) rfl rfl (by kernel_rfl) (by kernel_rfl) (by kernel_rfl) (fun _ _ _ h => h) (by rfl) (by assumption) ?_ ?_; rotate_left; · (intro w hSw; (try dsimp only at hSw); have hq_ := hc2 _ hSw; go_simp; (try with_reducible rfl)))
        (try simp only [Act.put, List.setIfInBounds_toArray, List.set_cons_zero, List.set_cons_succ])
        (refine take_on 6 (some 54) (v := ?_) rfl rfl (by kernel_rfl) (by kernel_rfl) (by kernel_rfl) (fun _ _ _ h => h) (by rfl) (by assumption) ?_ ?_; rotate_left; · (intro w hSw; (try dsimp only at hSw); go_simp; (try with_reducible rfl)))
        (try simp only [Act.put, List.setIfInBounds_toArray, List.set_cons_zero, List.set_cons_succ])
        (refine take_on 7 (some 55) (v := ?_) rfl rfl (by kernel_rfl) (by kernel_rfl) (by kernel_rfl) (fun _ _ _ h => h) (by rfl) (by assumption) ?_ ?_; rotate_left; · (intro w hSw; (try dsimp only at hSw); have hq_ := hc3 _ hSw; go_simp; (try with_reducible rfl)))
        (try simp only [Act.put, List.setIfInBounds_toArray, List.set_cons_zero, List.set_cons_succ])
        (refine take_on 8 (some 56) (v := ?_) rfl rfl (by kernel_rfl) (by kernel_rfl) (by kernel_rfl) (fun _ _ _ h => h) (by rfl) (by assumption) ?_ ?_; rotate_left; · (intro w hSw; (try dsimp only at hSw); go_simp; (try with_reducible rfl)))
        (try simp only [Act.put, List.setIfInBounds_toArray, List.set_cons_zero, List.set_cons_succ])
        (refine take_on 9 (some 57) (v := ?_) rfl rfl (by kernel_rfl) (by kernel_rfl) (by kernel_rfl) (fun _ _ _ h => h) (by rfl) (by assumption) ?_ ?_; rotate_left; · (intro w hSw; (try dsimp only at hSw); go_simp; (try with_reducible rfl)))
        (try simp only [Act.put, List.setIfInBounds_toArray, List.set_cons_zero, List.set_cons_succ])
        (refine take_on 10 (some 58) (v := ?_) rfl rfl (by kernel_rfl) (by kernel_rfl) (by kernel_rfl) (fun _ _ _ h => h) (by rfl) (by assumption) ?_ ?_; rotate_left; · (intro w hSw; (try dsimp only at hSw); go_simp; (try with_reducible rfl)))
        (try simp only [Act.put, List.setIfInBounds_toArray, List.set_cons_zero, List.set_cons_succ])
        (refine take_on 11 (some 59) (v := ?_) rfl rfl (by kernel_rfl) (by kernel_rfl) (by kernel_rfl) (fun _ _ _ h => h) (by rfl) (by assumption) ?_ ?_; rotate_left; · (intro w hSw; (try dsimp only at hSw); go_simp; (try with_reducible rfl)))
        (try simp only [Act.put, List.setIfInBounds_toArray, List.set_cons_zero, List.set_cons_succ])
        (refine take_on 12 (some 60) (v := ?_) rfl rfl (by kernel_rfl) (by kernel_rfl) (by kernel_rfl) (fun _ _ _ h => h) (by rfl) (by assumption) ?_ ?_; rotate_left; · (intro w hSw; (try dsimp only at hSw); go_simp; (try with_reducible rfl)))
        (try simp only [Act.put, List.setIfInBounds_toArray, List.set_cons_zero, List.set_cons_succ])
        (refine take_on 13 (some 61) (v := ?_) rfl rfl (by kernel_rfl) (by kernel_rfl) (by kernel_rfl) (fun _ _ _ h => h) (by rfl) (by assumption) ?_ ?_; rotate_left; · (intro w hSw; (try dsimp only at hSw); have hq_ := hc2 _ hSw; go_simp; (try with_reducible rfl)))
        (try simp only [Act.put, List.setIfInBounds_toArray, List.set_cons_zero, List.set_cons_succ])
        (refine take_on 14 (some 62) (v := ?_) rfl rfl (by kernel_rfl) (by kernel_rfl) (by kernel_rfl) (fun _ _ _ h => h) (by rfl) (by assumption) ?_ ?_; rotate_left; · (intro w hSw; (try dsimp only at hSw); go_simp; (try with_reducible rfl)))
        (try simp only [Act.put, List.setIfInBounds_toArray, List.set_cons_zero, List.set_cons_succ])
        (refine take_on 15 (some 63) (v := ?_) rfl rfl (by kernel_rfl) (by kernel_rfl) (by kernel_rfl) (fun _ _ _ h => h) (by rfl) (by assumption) ?_ ?_; rotate_left; · (intro w hSw; (try dsimp only at hSw); have hq_ := hc3 _ hSw; go_simp; (try with_reducible rfl)))
        (try simp only [Act.put, List.setIfInBounds_toArray, List.set_cons_zero, List.set_cons_succ])
        (refine take_on 16 (some 64) (v := ?_) rfl rfl (by kernel_rfl) (by kernel_rfl) (by kernel_rfl) (fun _ _ _ h => h) (by rfl) (by assumption) ?_ ?_; rotate_left; · (intro w hSw; (try dsimp only at hSw); go_simp; (try with_reducible rfl)))
        (try simp only [Act.put, List.setIfInBounds_toArray, List.set_cons_zero, List.set_cons_succ])
        (refine take_on 17 (some 65) (v := ?_) rfl rfl (by kernel_rfl) (by kernel_rfl) (by kernel_rfl) (fun _ _ _ h => h) (by rfl) (by assumption) ?_ ?_; rotate_left; · (intro w hSw; (try dsimp only at hSw); go_simp; (try with_reducible rfl)))
        (try simp only [Act.put, List.setIfInBounds_toArray, List.set_cons_zero, List.set_cons_succ])
        (refine take_on 18 (some 66) (v := ?_) rfl rfl (by kernel_rfl) (by kernel_rfl) (by kernel_rfl) (fun _ _ _ h => h) (by rfl) (by assumption) ?_ ?_; rotate_left; · (intro w hSw; (try dsimp only at hSw); go_simp; (try with_reducible rfl)))
        (try simp only [Act.put, List.setIfInBounds_toArray, List.set_cons_zero, List.set_cons_succ])
        refine wpAnyH_ready (rs := [19]) (by kernel_rfl) (by simp) ?_; refine AllReadyH.cons (o := _) rfl (fun K hK => ?_) AllReadyH.nil
        go_simp
        (go_at_call 17; refine (hS _ hHeld).mono ?_; rintro e u1 ⟨rfl, y1⟩)
        refine hK.out _ _ (by (try dsimp only); exact hHeld.trans y1 (by simp)) (fun hHeld => ?_)
        clear hK K
        (try simp only [Act.put, List.setIfInBounds_toArray, List.set_cons_zero, List.set_cons_succ])
        (refine take_on 20 (some 68) (v := ?_) rfl rfl (by kernel_rfl) (by kernel_rfl) (by kernel_rfl) (fun _ _ _ h => h) (by rfl) (by assumption) ?_ ?_; rotate_left; · (intro w hSw; (try dsimp only at hSw); go_simp; (try with_reducible rfl)))
        (try simp only [Act.put, List.setIfInBounds_toArray, List.set_cons_zero, List.set_cons_succ])
        (refine take_on 21 (some 69) (v := ?_) rfl rfl (by kernel_rfl) (by kernel_rfl) (by kernel_rfl) (fun _ _ _ h => h) (by rfl) (by assumption) ?_ ?_; rotate_left; · (intro w hSw; (try dsimp only at hSw); go_simp; (try with_reducible rfl)))
        (try simp only [Act.put, List.setIfInBounds_toArray, List.set_cons_zero, List.set_cons_succ])
        (refine take_on 22 (some 4) (v := ?_) rfl rfl (by kernel_rfl) (by kernel_rfl) (by kernel_rfl) (fun _ _ _ h => h) (by rfl) (by assumption) ?_ ?_; rotate_left; · (intro w hSw; (try dsimp only at hSw); go_simp; (try with_reducible rfl)))
        (try simp only [Act.put, List.setIfInBounds_toArray, List.set_cons_zero, List.set_cons_succ])
        refine wpAnyH_done (by kernel_rfl) ?_ _
        refine NoPanic.normal ?_
        replace k8 := k8.trans hHeld (by simp)
        clear hHeld hc8 hc2 hc3 hS
        go_wp2_with fail
        go_ret
        exact ⟨rfl, k8⟩
  · have z_np : ((np : Int) == 0) = false := by simp; omega
    have r_np : ¬ (np = 0 ∧ 0 < na) := by omega
    clear q_np
    by_cases q_nq : nq = 0
    · by_cases q_nb : 0 < nb
      · have z_nq : ((nq : Int) == 0) = true := by simp; omega
        have y_nb : decide (0 < nb) = true := by simpa using q_nb
        clear q_nb q_nq
        go_wp2_with fail
        go_ret
        exact ⟨rfl, k3⟩
      · have z_nq : ((nq : Int) == 0) = true := by simp; omega
        have y_nb : decide (0 < nb) = false := by simpa using q_nb
        have r_nq : ¬ (nq = 0 ∧ 0 < nb) := by omega
        clear q_nb q_nq
        replace hra := hra r_np; replace hrb := hrb r_nq
        clear r_np r_nq
        have hpq := put_app hra hrb
        rw [hpe.out, hqe.out] at hpq
        have hse := put_eq hra hrb hwa hwb
        rw [hpe.out, hqe.out] at hse
        have lge : LG opE w3 (w3.alloc (.cells #[] 31)) 31 (.slice (some ⟨w3.heap.size, 0, none⟩) 0 0) [] := ⟨(Chg.refl [] w3).alloc _, OwnG.lit (L := []) (Blk.new w3 31 #[]) (by decide), by simp [Value.ownBlock]⟩
        have k4 := k3.trans lge.1 (by simp)
        go_wp2_with (at_builtin; first | (refine wpList_append_G rfl _ _ 22 rfl 31 (.agg #[.int .i64 0, .bool false, .int .u64 0, .int .u64 0, .int .i64 0, .int .i64 0, .int .i64 0]) 56 Try.underlying22 (by kernel_rfl) (by kernel_rfl) (.slice (some ⟨w3.heap.size, 0, none⟩) 0 0) ([]) rfl (lge.2.1) (A) na ca (la) rfl ((hA.new k4).src hA0) (hal.out) (by simp; omega) ?_; intro v5 w5 ho5 hc5 hv5; rw [List.nil_append] at ho5; obtain ⟨A5, c5, rfl, _, _⟩ := ho5.form; have lg5 := lge.app ho5 hc5 hv5; have k5 := k3.trans lg5.1 (by simp); replace lg5 := lg5.len_ hal.out; clear lge ho5 hc5 hv5; rw [hal.out]) | (refine wpList_append_G rfl _ _ 22 rfl 31 (.agg #[.int .i64 0, .bool false, .int .u64 0, .int .u64 0, .int .i64 0, .int .i64 0, .int .i64 0]) 56 Try.underlying22 (by kernel_rfl) (by kernel_rfl) (.slice A5 na c5) (la) rfl (lg5.2.1) (B) nb cb (lb) rfl ((hB.new k5).src hB0) (hbl.out) (by rw [hal.out]; omega) ?_; intro v7 w7 ho7 hc7 hv7; obtain ⟨A7, c7, rfl, _, _⟩ := ho7.form; have lg7 := lg5.app ho7 hc7 hv7; have k7 := k3.trans lg7.1 (by simp); have l7 : (la ++ lb).length = na + nb := (by rw [List.length_append, hal.out, hbl.out]); replace lg7 := lg7.len_ l7; rw [l7]; clear lg5 ho7 hc7 hv7))
        replace l7 := Lib.hid l7
        have hPa := ScPut_is (n := np + nq) (c := c7) hpq (by rw [List.length_append, hnp.out, hnq.out]) lg7.2.1.slg (fun o ho => (List.mem_append.1 ho).elim (hwa o) (hwb o)) (by omega)
        refine hPa.mono ?_; rintro e w8 ⟨A8, c8, rfl, lg8⟩
        clear hPa hpq
        have k38 := lg7.1.trans lg8.1 (by simp)
        have k8 := k3.trans k38 (by simp)
        replace lg2 := lg2.new k38
        replace lg3 := lg3.new k38
        clear lg7 k7 k5 k4 k3 k38 l7
        have hc8 := fun w9 (k9 : Chg [] w8 w9) => run_str (P := Try.prog) (c := c8) (lg8.new k9).2.1.slg (fun e => (lg8.2.1.nil_ e).1) 23 5 9 Try.underlying23 Try.underlying5 Try.underlying9
        have hc2 := fun w9 (k9 : Chg [] w8 w9) => run_str (P := Try.prog) (c := c2) (lg2.new k9).2.1.slg (fun e => (lg2.2.1.nil_ e).1) 23 5 9 Try.underlying23 Try.underlying5 Try.underlying9
        have hc3 := fun w9 (k9 : Chg [] w8 w9) => run_str (P := Try.prog) (c := c3) (lg3.new k9).2.1.slg (fun e => (lg3.2.1.nil_ e).1) 23 5 9 Try.underlying23 Try.underlying5 Try.underlying9
        rw [str_app] at hc8
        have hss : ¬ 9223372036854775807 < (strOfNums p).size + (strOfNums q).size := by rw [strOfNums_size, strOfNums_size, hnp.out, hnq.out]; omega
        have hS := fun w9 (k9 : Chg [] w8 w9) => ScSame_any A B na nb ca cb la lb w9 (hA.new (k8.trans k9 (by simp))) (hB.new (k8.trans k9 (by simp)))
        generalize strOfNums p = SP at *
        generalize strOfNums q = SQ at *
        generalize decide (la = lb) = eqd at *
        go_wp2_with fail
        refine wp_region_noPanic ?_
        refine wp_region_held_drew (S := (fun w' => Chg [] w8 w')) (by kernel_rfl) ?_ (fun hHeld => ?_)
        · exact (Chg.refl [] w8).drew
        (refine take_on 0 (some 48) (v := ?_) rfl rfl (by kernel_rfl) (by kernel_rfl) (by kernel_rfl) (fun _ _ _ h => h) (by rfl) (by assumption) ?_ ?_; rotate_left; · (intro w hSw; (try dsimp only at hSw); go_simp; (try with_reducible rfl)))
        (try simp only [Act.put, List.setIfInBounds_toArray, List.set_cons_zero, List.set_cons_succ])
        (refine take_on 1 (some 49) (v := ?_) rfl rfl (by kernel_rfl) (by kernel_rfl) (by kernel_rfl) (fun _ _ _ h => h) (by rfl) (by assumption) ?_ ?_; rotate_left; · (intro w hSw; (try dsimp only at hSw); go_simp; (try with_reducible rfl)))
        (try simp only [Act.put, List.setIfInBounds_toArray, List.set_cons_zero, List.set_cons_succ])
        (refine take_on 2 (some 50) (v := ?_) rfl rfl (by kernel_rfl) (by kernel_rfl) (by kernel_rfl) (fun _ _ _ h => h) (by rfl) (by assumption) ?_ ?_; rotate_left; · (intro w hSw; (try dsimp only at hSw); go_simp; (try with_reducible rfl)))
        (try simp only [Act.put, List.setIfInBounds_toArray, List.set_cons_zero, List.set_cons_succ])
        (refine take_on 3 (some 51) (v := ?_) rfl rfl (by kernel_rfl) (by kernel_rfl) (by kernel_rfl) (fun _ _ _ h => h) (by rfl) (by assumption) ?_ ?_; rotate_left; · (intro w hSw; (try dsimp only at hSw); have hq_ := hc8 _ hSw; go_simp; (try with_reducible rfl)))
        (try simp only [Act.put, List.setIfInBounds_toArray, List.set_cons_zero, List.set_cons_succ])
        (refine take_on 4 (some 52) (v := ?_) rfl rfl (by kernel_rfl) (by kernel_rfl) (by kernel_rfl) (fun _ _ _ h => h) (by rfl) (by assumption) ?_ ?_; rotate_left; · (intro w hSw; (try dsimp only at hSw); go_simp; (try with_reducible rfl)))
        (try simp only [Act.put, List.setIfInBounds_toArray, List.set_cons_zero, List.set_cons_succ])
        (refine take_on 5 (some 53) (v := ?_) rfl rfl (by kernel_rfl) (by kernel_rfl) (by kernel_rfl) (fun _ _ _ h => h) (by rfl) (by assumption) ?_ ?_; rotate_left; · (intro w hSw; (try dsimp only at hSw); have hq_ := hc2 _ hSw; go_simp; (try with_reducible rfl)))
        (try simp only [Act.put, List.setIfInBounds_toArray, List.set_cons_zero, List.set_cons_succ])
        (refine take_on 6 (some 54) (v := ?_) rfl rfl (by kernel_rfl) (by kernel_rfl) (by kernel_rfl) (fun _ _ _ h => h) (by rfl) (by assumption) ?_ ?_; rotate_left; · (intro w hSw; (try dsimp only at hSw); go_simp; (try with_reducible rfl)))
        (try simp only [Act.put, List.setIfInBounds_toArray, List.set_cons_zero, List.set_cons_succ])
        (refine take_on 7 (some 55) (v := ?_) rfl rfl (by kernel_rfl) (by kernel_rfl) (by kernel_rfl) (fun _ _ _ h => h) (by rfl) (by assumption) ?_ ?_; rotate_left; · (intro w hSw; (try dsimp only at hSw); have hq_ := hc3 _ hSw; go_simp; (try with_reducible rfl)))
        (try simp only [Act.put, List.setIfInBounds_toArray, List.set_cons_zero, List.set_cons_succ])
        (refine take_on 8 (some 56) (v := ?_) rfl rfl (by kernel_rfl) (by kernel_rfl) (by kernel_rfl) (fun _ _ _ h => h) (by rfl) (by assumption) ?_ ?_; rotate_left; · (intro w hSw; (try dsimp only at hSw); go_simp; (try with_reducible rfl)))
        (try simp only [Act.put, List.setIfInBounds_toArray, List.set_cons_zero, List.set_cons_succ])
        (refine take_on 9 (some 57) (v := ?_) rfl rfl (by kernel_rfl) (by kernel_rfl) (by kernel_rfl) (fun _ _ _ h => h) (by rfl) (by assumption) ?_ ?_; rotate_left; · (intro w hSw; (try dsimp only at hSw); go_simp; (try with_reducible rfl)))
        (try simp only [Act.put, List.setIfInBounds_toArray, List.set_cons_zero, List.set_cons_succ])
        (refine take_on 10 (some 58) (v := ?_) rfl rfl (by kernel_rfl) (by kernel_rfl) (by kernel_rfl) (fun _ _ _ h => h) (by rfl) (by assumption) ?_ ?_; rotate_left; · (intro w hSw; (try dsimp only at hSw); go_simp; (try with_reducible rfl)))
        (try simp only [Act.put, List.setIfInBounds_toArray, List.set_cons_zero, List.set_cons_succ])
        (refine take_on 11 (some 59) (v := ?_) rfl rfl (by kernel_rfl) (by kernel_rfl) (by kernel_rfl) (fun _ _ _ h => h) (by rfl) (by assumption) ?_ ?_; rotate_left; · (intro w hSw; (try dsimp only at hSw); go_simp; (try with_reducible rfl)))
        (try simp only [Act.put, List.setIfInBounds_toArray, List.set_cons_zero, List.set_cons_succ])
        (refine take_on 12 (some 60) (v := ?_) rfl rfl (by kernel_rfl) (by kernel_rfl) (by kernel_rfl) (fun _ _ _ h => h) (by rfl) (by assumption) ?_ ?_; rotate_left; · (intro w hSw; (try dsimp only at hSw); go_simp; (try with_reducible rfl)))
        (try simp only [Act.put, List.setIfInBounds_toArray, List.set_cons_zero, List.set_cons_succ])
        (refine take_on 13 (some 61) (v := ?_) rfl rfl (by kernel_rfl) (by kernel_rfl) (by kernel_rfl) (fun _ _ _ h => h) (by rfl) (by assumption) ?_ ?_; rotate_left; · (intro w hSw; (try dsimp only at hSw); have hq_ := hc2 _ hSw; go_simp; (try with_reducible rfl)))
        (try simp only [Act.put, List.setIfInBounds_toArray, List.set_cons_zero, List.set_cons_succ])
        (refine take_on 14 (some 62) (v := ?_) rfl rfl (by kernel_rfl) (by kernel_rfl) (by kernel_rfl) (fun _ _ _ h => h) (by rfl) (by assumption) ?_ ?_; rotate_left; · (intro w hSw; (try dsimp only at hSw); go_simp; (try with_reducible rfl)))
        (try simp only [Act.put, List.setIfInBounds_toArray, List.set_cons_zero, List.set_cons_succ])
        (refine take_on 15 (some 63) (v := ?_) rfl rfl (by kernel_rfl) (by kernel_rfl) (by kernel_rfl) (fun _ _ _ h => h) (by rfl) (by assumption) ?_ ?_; rotate_left; · (intro w hSw; (try dsimp only at hSw); have hq_ := hc3 _ hSw; go_simp; (try with_reducible rfl)))
        (try simp only [Act.put, List.setIfInBounds_toArray, List.set_cons_zero, List.set_cons_succ])
        (refine take_on 16 (some 64) (v := ?_) rfl rfl (by kernel_rfl) (by kernel_rfl) (by kernel_rfl) (fun _ _ _ h => h) (by rfl) (by assumption) ?_ ?_; rotate_left; · (intro w hSw; (try dsimp only at hSw); go_simp; (try with_reducible rfl)))
        (try simp only [Act.put, List.setIfInBounds_toArray, List.set_cons_zero, List.set_cons_succ])
        (refine take_on 17 (some 65) (v := ?_) rfl rfl (by kernel_rfl) (by kernel_rfl) (by kernel_rfl) (fun _ _ _ h => h) (by rfl) (by assumption) ?_ ?_; rotate_left; · (intro w hSw; (try dsimp only at hSw); go_simp; (try with_reducible rfl)))
        (try simp only [Act.put, List.setIfInBounds_toArray, List.set_cons_zero, List.set_cons_succ])
        (refine take_on 18 (some 66) (v := ?_) rfl rfl (by kernel_rfl) (by kernel_rfl) (by kernel_rfl) (fun _ _ _ h => h) (by rfl) (by assumption) ?_ ?_; rotate_left; · (intro w hSw; (try dsimp only at hSw); go_simp; (try with_reducible rfl)))
        (try simp only [Act.put, List.setIfInBounds_toArray, List.set_cons_zero, List.set_cons_succ])
        refine wpAnyH_ready (rs := [19]) (by kernel_rfl) (by simp) ?_; refine AllReadyH.cons (o := _) rfl (fun K hK => ?_) AllReadyH.nil
        go_simp
        (go_at_call 17; refine (hS _ hHeld).mono ?_; rintro e u1 ⟨rfl, y1⟩)
        refine hK.out _ _ (by (try dsimp only); exact hHeld.trans y1 (by simp)) (fun hHeld => ?_)
        clear hK K
        (try simp only [Act.put, List.setIfInBounds_toArray, List.set_cons_zero, List.set_cons_succ])
        (refine take_on 20 (some 68) (v := ?_) rfl rfl (by kernel_rfl) (by kernel_rfl) (by kernel_rfl) (fun _ _ _ h => h) (by rfl) (by assumption) ?_ ?_; rotate_left; · (intro w hSw; (try dsimp only at hSw); go_simp; (try with_reducible rfl)))
        (try simp only [Act.put, List.setIfInBounds_toArray, List.set_cons_zero, List.set_cons_succ])
        (refine take_on 21 (some 69) (v := ?_) rfl rfl (by kernel_rfl) (by kernel_rfl) (by kernel_rfl) (fun _ _ _ h => h) (by rfl) (by assumption) ?_ ?_; rotate_left; · (intro w hSw; (try dsimp only at hSw); go_simp; (try with_reducible rfl)))
        (try simp only [Act.put, List.setIfInBounds_toArray, List.set_cons_zero, List.set_cons_succ])
        (refine take_on 22 (some 4) (v := ?_) rfl rfl (by kernel_rfl) (by kernel_rfl) (by kernel_rfl) (fun _ _ _ h => h) (by rfl) (by assumption) ?_ ?_; rotate_left; · (intro w hSw; (try dsimp only at hSw); go_simp; (try with_reducible rfl)))
        (try simp only [Act.put, List.setIfInBounds_toArray, List.set_cons_zero, List.set_cons_succ])
        refine wpAnyH_done (by kernel_rfl) ?_ _
        refine NoPanic.normal ?_
        replace k8 := k8.trans hHeld (by simp)
        clear hHeld hc8 hc2 hc3 hS
        go_wp2_with fail
        go_ret
        exact ⟨rfl, k8⟩
    · have z_nq : ((nq : Int) == 0) = false := by simp; omega
      have r_nq : ¬ (nq = 0 ∧ 0 < nb) := by omega
      clear q_nq
      replace hra := hra r_np; replace hrb := hrb r_nq
      clear r_np r_nq
      have hpq := put_app hra hrb
      rw [hpe.out, hqe.out] at hpq
      have hse := put_eq hra hrb hwa hwb
      rw [hpe.out, hqe.out] at hse
      have lge : LG opE w3 (w3.alloc (.cells #[] 31)) 31 (.slice (some ⟨w3.heap.size, 0, none⟩) 0 0) [] := ⟨(Chg.refl [] w3).alloc _, OwnG.lit (L := []) (Blk.new w3 31 #[]) (by decide), by simp [Value.ownBlock]⟩
      have k4 := k3.trans lge.1 (by simp)
      go_wp2_with (at_builtin; first | (refine wpList_append_G rfl _ _ 22 rfl 31 (.agg #[.int .i64 0, .bool false, .int .u64 0, .int .u64 0, .int .i64 0, .int .i64 0, .int .i64 0]) 56 Try.underlying22 (by kernel_rfl) (by kernel_rfl) (.slice (some ⟨w3.heap.size, 0, none⟩) 0 0) ([]) rfl (lge.2.1) (A) na ca (la) rfl ((hA.new k4).src hA0) (hal.out) (by simp; omega) ?_; intro v5 w5 ho5 hc5 hv5; rw [List.nil_append] at ho5; obtain ⟨A5, c5, rfl, _, _⟩ := ho5.form; have lg5 := lge.app ho5 hc5 hv5; have k5 := k3.trans lg5.1 (by simp); replace lg5 := lg5.len_ hal.out; clear lge ho5 hc5 hv5; rw [hal.out]) | (refine wpList_append_G rfl _ _ 22 rfl 31 (.agg #[.int .i64 0, .bool false, .int .u64 0, .int .u64 0, .int .i64 0, .int .i64 0, .int .i64 0]) 56 Try.underlying22 (by kernel_rfl) (by kernel_rfl) (.slice A5 na c5) (la) rfl (lg5.2.1) (B) nb cb (lb) rfl ((hB.new k5).src hB0) (hbl.out) (by rw [hal.out]; omega) ?_; intro v7 w7 ho7 hc7 hv7; obtain ⟨A7, c7, rfl, _, _⟩ := ho7.form; have lg7 := lg5.app ho7 hc7 hv7; have k7 := k3.trans lg7.1 (by simp); have l7 : (la ++ lb).length = na + nb := (by rw [List.length_append, hal.out, hbl.out]); replace lg7 := lg7.len_ l7; rw [l7]; clear lg5 ho7 hc7 hv7))
      replace l7 := Lib.hid l7
      have hPa := ScPut_is (n := np + nq) (c := c7) hpq (by rw [List.length_append, hnp.out, hnq.out]) lg7.2.1.slg (fun o ho => (List.mem_append.1 ho).elim (hwa o) (hwb o)) (by omega)
      refine hPa.mono ?_; rintro e w8 ⟨A8, c8, rfl, lg8⟩
      clear hPa hpq
      have k38 := lg7.1.trans lg8.1 (by simp)
      have k8 := k3.trans k38 (by simp)
      replace lg2 := lg2.new k38
      replace lg3 := lg3.new k38
      clear lg7 k7 k5 k4 k3 k38 l7
      have hc8 := fun w9 (k9 : Chg [] w8 w9) => run_str (P := Try.prog) (c := c8) (lg8.new k9).2.1.slg (fun e => (lg8.2.1.nil_ e).1) 23 5 9 Try.underlying23 Try.underlying5 Try.underlying9
      have hc2 := fun w9 (k9 : Chg [] w8 w9) => run_str (P := Try.prog) (c := c2) (lg2.new k9).2.1.slg (fun e => (lg2.2.1.nil_ e).1) 23 5 9 Try.underlying23 Try.underlying5 Try.underlying9
      have hc3 := fun w9 (k9 : Chg [] w8 w9) => run_str (P := Try.prog) (c := c3) (lg3.new k9).2.1.slg (fun e => (lg3.2.1.nil_ e).1) 23 5 9 Try.underlying23 Try.underlying5 Try.underlying9
      rw [str_app] at hc8
      have hss : ¬ 9223372036854775807 < (strOfNums p).size + (strOfNums q).size := by rw [strOfNums_size, strOfNums_size, hnp.out, hnq.out]; omega
      have hS := fun w9 (k9 : Chg [] w8 w9) => ScSame_any A B na nb ca cb la lb w9 (hA.new (k8.trans k9 (by simp))) (hB.new (k8.trans k9 (by simp)))
      generalize strOfNums p = SP at *
      generalize strOfNums q = SQ at *
      generalize decide (la = lb) = eqd at *
      go_wp2_with fail
      refine wp_region_noPanic ?_
      refine wp_region_held_drew (S := (fun w' => Chg [] w8 w')) (by kernel_rfl) ?_ (fun hHeld => ?_)
      · exact (Chg.refl [] w8).drew
      (refine take_on 0 (some 48) (v := ?_) rfl rfl (by kernel_rfl) (by kernel_rfl) (by kernel_rfl) (fun _ _ _ h => h) (by rfl) (by assumption) ?_ ?_; rotate_left; · (intro w hSw; (try dsimp only at hSw); go_simp; (try with_reducible rfl)))
      (try simp only [Act.put, List.setIfInBounds_toArray, List.set_cons_zero, List.set_cons_succ])
      (refine take_on 1 (some 49) (v := ?_) rfl rfl (by kernel_rfl) (by kernel_rfl) (by kernel_rfl) (fun _ _ _ h => h) (by rfl) (by assumption) ?_ ?_; rotate_left; · (intro w hSw; (try dsimp only at hSw); go_simp; (try with_reducible rfl)))
      (try simp only [Act.put, List.setIfInBounds_toArray, List.set_cons_zero, List.set_cons_succ])
      (refine take_on 2 (some 50) (v := ?_) rfl rfl (by kernel_rfl) (by kernel_rfl) (by kernel_rfl) (fun _ _ _ h => h) (by rfl) (by assumption) ?_ ?_; rotate_left; · (intro w hSw; (try dsimp only at hSw); go_simp; (try with_reducible rfl)))
      (try simp only [Act.put, List.setIfInBounds_toArray, List.set_cons_zero, List.set_cons_succ])
      (refine take_on 3 (some 51) (v := ?_) rfl rfl (by kernel_rfl) (by kernel_rfl) (by kernel_rfl) (fun _ _ _ h => h) (by rfl) (by assumption) ?_ ?_; rotate_left; · (intro w hSw; (try dsimp only at hSw); have hq_ := hc8 _ hSw; go_simp; (try with_reducible rfl)))
      (try simp only [Act.put, List.setIfInBounds_toArray, List.set_cons_zero, List.set_cons_succ])
      (refine take_on 4 (some 52) (v := ?_) rfl rfl (by kernel_rfl) (by kernel_rfl) (by kernel_rfl) (fun _ _ _ h => h) (by rfl) (by assumption) ?_ ?_; rotate_left; · (intro w hSw; (try dsimp only at hSw); go_simp; (try with_reducible rfl)))
      (try simp only [Act.put, List.setIfInBounds_toArray, List.set_cons_zero, List.set_cons_succ])
      (refine take_on 5 (some 53) (v := ?_) rfl rfl (by kernel_rfl) (by kernel_rfl) (by kernel_rfl) (fun _ _ _ h => h) (by rfl) (by assumption) ?_ ?_; rotate_left; · (intro w hSw; (try dsimp only at hSw); have hq_ := hc2 _ hSw; go_simp; (try with_reducible rfl)))
      (try simp only [Act.put, List.setIfInBounds_toArray, List.set_cons_zero, List.set_cons_succ])
      (refine take_on 6 (some 54) (v := ?_) rfl rfl (by kernel_rfl) (by kernel_rfl) (by kernel_rfl) (fun _ _ _ h => h) (by rfl) (by assumption) ?_ ?_; rotate_left; · (intro w hSw; (try dsimp only at hSw); go_simp; (try with_reducible rfl)))
      (try simp only [Act.put, List.setIfInBounds_toArray, List.set_cons_zero, List.set_cons_succ])
      (refine take_on 7 (some 55) (v := ?_) rfl rfl (by kernel_rfl) (by kernel_rfl) (by kernel_rfl) (fun _ _ _ h => h) (by rfl) (by assumption) ?_ ?_; rotate_left; · (intro w hSw; (try dsimp only at hSw); have hq_ := hc3 _ hSw; go_simp; (try with_reducible rfl)))
      (try simp only [Act.put, List.setIfInBounds_toArray, List.set_cons_zero, List.set_cons_succ])
      (refine take_on 8 (some 56) (v := ?_) rfl rfl (by kernel_rfl) (by kernel_rfl) (by kernel_rfl) (fun _ _ _ h => h) (by rfl) (by assumption) ?_ ?_; rotate_left; · (intro w hSw; (try dsimp only at hSw); go_simp; (try with_reducible rfl)))
      (try simp only [Act.put, List.setIfInBounds_toArray, List.set_cons_zero, List.set_cons_succ])
      (refine take_on 9 (some 57) (v := ?_) rfl rfl (by kernel_rfl) (by kernel_rfl) (by kernel_rfl) (fun _ _ _ h => h) (by rfl) (by assumption) ?_ ?_; rotate_left; · (intro w hSw; (try dsimp only at hSw); go_simp; (try with_reducible rfl)))
      (try simp only [Act.put, List.setIfInBounds_toArray, List.set_cons_zero, List.set_cons_succ])
      (refine take_on 10 (some 58) (v := ?_) rfl rfl (by kernel_rfl) (by kernel_rfl) (by kernel_rfl) (fun _ _ _ h => h) (by rfl) (by assumption) ?_ ?_; rotate_left; · (intro w hSw; (try dsimp only at hSw); go_simp; (try with_reducible rfl)))
      (try simp only [Act.put, List.setIfInBounds_toArray, List.set_cons_zero, List.set_cons_succ])
      (refine take_on 11 (some 59) (v := ?_) rfl rfl (by kernel_rfl) (by kernel_rfl) (by kernel_rfl) (fun _ _ _ h => h) (by rfl) (by assumption) ?_ ?_; rotate_left; · (intro w hSw; (try dsimp only at hSw); go_simp; (try with_reducible rfl)))
      (try simp only [Act.put, List.setIfInBounds_toArray, List.set_cons_zero, List.set_cons_succ])
      (refine take_on 12 (some 60) (v := ?_) rfl rfl (by kernel_rfl) (by kernel_rfl) (by kernel_rfl) (fun _ _ _ h => h) (by rfl) (by assumption) ?_ ?_; rotate_left; · (intro w hSw; (try dsimp only at hSw); go_simp; (try with_reducible rfl)))
      (try simp only [Act.put, List.setIfInBounds_toArray, List.set_cons_zero, List.set_cons_succ])
      (refine take_on 13 (some 61) (v := ?_) rfl rfl (by kernel_rfl) (by kernel_rfl) (by kernel_rfl) (fun _ _ _ h => h) (by rfl) (by assumption) ?_ ?_; rotate_left; · (intro w hSw; (try dsimp only at hSw); have hq_ := hc2 _ hSw; go_simp; (try with_reducible rfl)))
      (try simp only [Act.put, List.setIfInBounds_toArray, List.set_cons_zero, List.set_cons_succ])
      (refine take_on 14 (some 62) (v := ?_) rfl rfl (by kernel_rfl) (by kernel_rfl) (by kernel_rfl) (fun _ _ _ h => h) (by rfl) (by assumption) ?_ ?_; rotate_left; · (intro w hSw; (try dsimp only at hSw); go_simp; (try with_reducible rfl)))
      (try simp only [Act.put, List.setIfInBounds_toArray, List.set_cons_zero, List.set_cons_succ])
      (refine take_on 15 (some 63) (v := ?_) rfl rfl (by kernel_rfl) (by kernel_rfl) (by kernel_rfl) (fun _ _ _ h => h) (by rfl) (by assumption) ?_ ?_; rotate_left; · (intro w hSw; (try dsimp only at hSw); have hq_ := hc3 _ hSw; go_simp; (try with_reducible rfl)))
      (try simp only [Act.put, List.setIfInBounds_toArray, List.set_cons_zero, List.set_cons_succ])
      (refine take_on 16 (some 64) (v := ?_) rfl rfl (by kernel_rfl) (by kernel_rfl) (by kernel_rfl) (fun _ _ _ h => h) (by rfl) (by assumption) ?_ ?_; rotate_left; · (intro w hSw; (try dsimp only at hSw); go_simp; (try with_reducible rfl)))
      (try simp only [Act.put, List.setIfInBounds_toArray, List.set_cons_zero, List.set_cons_succ])
      (refine take_on 17 (some 65) (v := ?_) rfl rfl (by kernel_rfl) (by kernel_rfl) (by kernel_rfl) (fun _ _ _ h => h) (by rfl) (by assumption) ?_ ?_; rotate_left; · (intro w hSw; (try dsimp only at hSw); go_simp; (try with_reducible rfl)))
      (try simp only [Act.put, List.setIfInBounds_toArray, List.set_cons_zero, List.set_cons_succ])
      (refine take_on 18 (some 66) (v := ?_) rfl rfl (by kernel_rfl) (by kernel_rfl) (by kernel_rfl) (fun _ _ _ h => h) (by rfl) (by assumption) ?_ ?_; rotate_left; · (intro w hSw; (try dsimp only at hSw); go_simp; (try with_reducible rfl)))
      (try simp only [Act.put, List.setIfInBounds_toArray, List.set_cons_zero, List.set_cons_succ])
      refine wpAnyH_ready (rs := [19]) (by kernel_rfl) (by simp) ?_; refine AllReadyH.cons (o := _) rfl (fun K hK => ?_) AllReadyH.nil
      go_simp
      (go_at_call 17; refine (hS _ hHeld).mono ?_; rintro e u1 ⟨rfl, y1⟩)
      refine hK.out _ _ (by (try dsimp only); exact hHeld.trans y1 (by simp)) (fun hHeld => ?_)
      clear hK K
      (try simp only [Act.put, List.setIfInBounds_toArray, List.set_cons_zero, List.set_cons_succ])
      (refine take_on 20 (some 68) (v := ?_) rfl rfl (by kernel_rfl) (by kernel_rfl) (by kernel_rfl) (fun _ _ _ h => h) (by rfl) (by assumption) ?_ ?_; rotate_left; · (intro w hSw; (try dsimp only at hSw); go_simp; (try with_reducible rfl)))
      (try simp only [Act.put, List.setIfInBounds_toArray, List.set_cons_zero, List.set_cons_succ])
      (refine take_on 21 (some 69) (v := ?_) rfl rfl (by kernel_rfl) (by kernel_rfl) (by kernel_rfl) (fun _ _ _ h => h) (by rfl) (by assumption) ?_ ?_; rotate_left; · (intro w hSw; (try dsimp only at hSw); go_simp; (try with_reducible rfl)))
      (try simp only [Act.put, List.setIfInBounds_toArray, List.set_cons_zero, List.set_cons_succ])
      (refine take_on 22 (some 4) (v := ?_) rfl rfl (by kernel_rfl) (by kernel_rfl) (by kernel_rfl) (fun _ _ _ h => h) (by rfl) (by assumption) ?_ ?_; rotate_left; · (intro w hSw; (try dsimp only at hSw); go_simp; (try with_reducible rfl)))
      (try simp only [Act.put, List.setIfInBounds_toArray, List.set_cons_zero, List.set_cons_succ])
      refine wpAnyH_done (by kernel_rfl) ?_ _
      refine NoPanic.normal ?_
      replace k8 := k8.trans hHeld (by simp)
      clear hHeld hc8 hc2 hc3 hS
      go_wp2_with fail
      go_ret
      exact ⟨rfl, k8⟩

end Go.Proofs.Ytdmcicgappgiiaa
