/-
  The law ScriptTells.
-/
import Derived.Test.YtdmcicgappgiiaaScriptHead
import Derived.Test.YtdmcicgappgiiaaScriptR4
import Derived.Test.YtdmcicgappgiiaaHold
namespace Go.Proofs.Ytdmcicgappgiiaa
open Go.RowKit Go.Shelf

set_option maxRecDepth 100000 in
set_option maxHeartbeats 8000000 in
theorem ScriptTells_walk (CL : Option Addr) (nl cl : Nat) (l : List Sop) (B : Option Addr) (nb cb : Nat) (b : List Int) (w : World) (hL : SlG opE w CL nl l) (hwl : ∀ o ∈ l, o.Wf) (hB : SlG (numE .u8) w B nb b) (hrb : ∀ x ∈ b, 0 ≤ x ∧ x < 256) (hBc : nb ≤ cb) :
    Calls Try.prog 3 #[.slice CL nl cl, .slice B nb cb] w fun e w' => e = .returned (.bool true) ∧ Chg [] w w' := by
  have hll := Lib.hid hL.len
  have hbl := Lib.hid hB.len
  have hle := hL.le
  have hle2 := hB.le
  go_enter Try.func3, Try.ntmps3
  go_wp2_with fail
  refine (Schead_any _).mono ?_; rintro e w1 ⟨rfl, k1⟩
  by_cases big_nl : 900 < nl
  · go_wp2_with fail
    go_ret
    exact ⟨rfl, k1⟩
  by_cases big_nb : 9000 < nb
  · go_wp2_with fail
    go_ret
    exact ⟨rfl, k1⟩
  have hG := fun w9 (k9 : Chg [] w w9) => ScGet_any B nb cb b w9 (hB.new k9) hBc (by omega) hrb
  have hRG := fun w9 (k9 : Chg [] w w9) => RGet_any B nb cb b w9 (hB.new k9) hBc (by omega) hrb
  generalize (getS b).1 = ys at *
  generalize (getS b).2 = m at *
  generalize gotE b = er at *
  generalize hny : ys.length = ny at *
  replace hny := Lib.hid hny
  go_wp2_with fail
  refine (hG _ k1).mono ?_; rintro e w2 ⟨A2, c2, rfl, lg2⟩
  clear hG
  have k2 := k1.trans lg2.1 (by simp)
  go_wp2_with fail
  refine (hRG _ k2).mono ?_; rintro e w3 ⟨A3, c3, rfl, lg3⟩
  clear hRG
  replace k2 := k2.trans lg3.1 (by simp)
  replace lg2 := lg2.new lg3.1
  go_wp2_with fail
  go_loopg [12] nl (fun gg s12 wr => ∃ (i : Nat), i ≤ nl ∧ nl - i ≤ gg ∧ s12 = .int .i64 (i : Nat) ∧ Aside (Chg [] w3 wr))
  case atStart => exact ⟨0, by omega, by omega, rfl, Chg.refl [] w3⟩
  case round =>
    obtain ⟨i, hi, hg, rfl, k4⟩ := hrel
    replace k4 := k4.out
    by_cases hlt : i < nl
    · obtain ⟨bl, off, o, rfl, hbl, hx, c0, c1, c2', c3', c4, c5, c6⟩ := SlS.get (hL.new (k2.trans k4 (by simp))) hlt
      clear hx
      have hR := fun w9 => ScRight_any o w9
      have hRR := fun w9 => RRight_any o w9
      simp only [Sop.ar] at hR hRR
      generalize rightS o = ro at *
      have d0 := fun n : Cls wr => (n.ok.cell (p := ⟨bl, off + i * 7, none⟩) hbl (by simp)).trans c0
      have d1 := fun n : Cls wr => (n.ok.cell (p := ⟨bl, off + i * 7 + 1, none⟩) hbl (by simp)).trans c1
      have d2 := fun n : Cls wr => (n.ok.cell (p := ⟨bl, off + i * 7 + 2, none⟩) hbl (by simp)).trans c2'
      have d3 := fun n : Cls wr => (n.ok.cell (p := ⟨bl, off + i * 7 + 3, none⟩) hbl (by simp)).trans c3'
      have d4 := fun n : Cls wr => (n.ok.cell (p := ⟨bl, off + i * 7 + 4, none⟩) hbl (by simp)).trans c4
      have d5 := fun n : Cls wr => (n.ok.cell (p := ⟨bl, off + i * 7 + 5, none⟩) hbl (by simp)).trans c5
      have d6 := fun n : Cls wr => (n.ok.cell (p := ⟨bl, off + i * 7 + 6, none⟩) hbl (by simp)).trans c6
      clear c0 c1 c2' c3' c4 c5 c6
      go_wp2_with fail
      refine wp_region_cls (by kernel_rfl) (by kernel_rfl) ?_
      repeat (go_big_quiet_step (first | (go_at_call 13; with_reducible exact Calls.cls (hR _)) | (go_at_call 14; with_reducible exact Calls.cls (hRR _))))
      refine wpQuiet_nil ?_
      rintro _ ⟨n, rfl⟩
      go_wp2_with fail
      go_roundg (nl - (i + 1))
      case measure => omega
      case rel => exact ⟨i + 1, by omega, by omega, by go_num, k4.trans n.ok (by simp)⟩
    · obtain rfl : i = nl := by omega
      clear hlt hg
      have k5 := k2.trans k4 (by simp)
      replace lg2 := lg2.new k4
      replace lg3 := lg3.new k4
      clear k2 k4
      have hpl := putS_le l
      rw [hL.len] at hpl
      have hP := fun w9 (k9 : Chg [] wr w9) => ScPut_any CL i cl l w9 (hL.new (k5.trans k9 (by simp))) hwl (by omega)
      have hRP := fun w9 (k9 : Chg [] wr w9) => RPut_any CL i cl l w9 (hL.new (k5.trans k9 (by simp))) hwl (by omega)
      generalize putS l = p at *
      generalize hnp : p.length = np at *
      replace hnp := Lib.hid hnp
      obtain ⟨SB, hSB⟩ : ∃ s, s = strOfNums p := ⟨_, rfl⟩
      replace hSB := Lib.hid hSB
      have hS := fun w9 (k9 : Chg [] wr w9) => ScSame_any A2 A3 _ _ c2 c3 ys ys w9 (lg2.new k9).2.1.slg (lg3.new k9).2.1.slg
      rw [decide_eq_true (rfl : ys = ys)] at hS
      go_wp2_with fail
      refine wp_region_noPanic ?_
      refine wp_region_held_drew (S := (fun w' => Chg [] wr w')) (by kernel_rfl) ?_ (fun hHeld => ?_)
      · exact (Chg.refl [] wr).drew
      (refine take_on 0 (some 52) (v := ?_) rfl rfl (by kernel_rfl) (by kernel_rfl) (by kernel_rfl) (fun _ _ _ h => h) (by rfl) (by assumption) ?_ ?_; rotate_left; · (intro w hSw; (try dsimp only at hSw); go_simp; (try with_reducible rfl)))
      (try simp only [Act.put, List.setIfInBounds_toArray, List.set_cons_zero, List.set_cons_succ])
      (refine take_on 1 (some 53) (v := ?_) rfl rfl (by kernel_rfl) (by kernel_rfl) (by kernel_rfl) (fun _ _ _ h => h) (by rfl) (by assumption) ?_ ?_; rotate_left; · (intro w hSw; (try dsimp only at hSw); go_simp; (try with_reducible rfl)))
      (try simp only [Act.put, List.setIfInBounds_toArray, List.set_cons_zero, List.set_cons_succ])
      (refine take_on 2 (some 54) (v := ?_) rfl rfl (by kernel_rfl) (by kernel_rfl) (by kernel_rfl) (fun _ _ _ h => h) (by rfl) (by assumption) ?_ ?_; rotate_left; · (intro w hSw; (try dsimp only at hSw); go_simp; (try with_reducible rfl)))
      (try simp only [Act.put, List.setIfInBounds_toArray, List.set_cons_zero, List.set_cons_succ])
      (refine take_on 5 (some 57) (v := ?_) rfl rfl (by kernel_rfl) (by kernel_rfl) (by kernel_rfl) (fun _ _ _ h => h) (by rfl) (by assumption) ?_ ?_; rotate_left; · (intro w hSw; (try dsimp only at hSw); go_simp; (try with_reducible rfl)))
      (try simp only [Act.put, List.setIfInBounds_toArray, List.set_cons_zero, List.set_cons_succ])
      refine wpAnyH_ready (rs := [3]) (by kernel_rfl) (by simp) ?_; refine AllReadyH.cons (o := _) rfl (fun K hK => ?_) AllReadyH.nil
      go_simp
      (go_at_call 15; refine (hP _ hHeld).mono ?_; rintro e u1 ⟨A7, c7, rfl, lg7⟩)
      refine hK.out _ _ (by (try dsimp only); exact hHeld.trans lg7.1 (by simp)) (fun hHeld => ?_)
      clear hK K
      (try simp only [Act.put, List.setIfInBounds_toArray, List.set_cons_zero, List.set_cons_succ])
      refine held_up (S' := fun w' => Chg [] u1 w') (fun w' h => hHeld.trans h (by simp)) ?_
      replace k5 := k5.trans hHeld (by simp)
      have hc7 := fun w9 (k9 : Chg [] u1 w9) => run_str (P := Try.prog) (c := c7) (lg7.new k9).2.1.slg (fun e => (lg7.2.1.nil_ e).1) 23 5 9 Try.underlying23 Try.underlying5 Try.underlying9
      rw [← hSB.out] at hc7
      have hRP := fun w9 (k9 : Chg [] u1 w9) => hRP w9 (hHeld.trans k9 (by simp))
      have hS := fun w9 (k9 : Chg [] u1 w9) => hS w9 (hHeld.trans k9 (by simp))
      clear hHeld
      have hHeld := Chg.refl [] u1
      (refine take_on 4 (some 56) (v := ?_) rfl rfl (by kernel_rfl) (by kernel_rfl) (by kernel_rfl) (fun _ _ _ h => h) (by rfl) (by assumption) ?_ ?_; rotate_left; · (intro w hSw; (try dsimp only at hSw); have hq_ := hc7 _ hSw; go_simp; (try with_reducible rfl)))
      (try simp only [Act.put, List.setIfInBounds_toArray, List.set_cons_zero, List.set_cons_succ])
      refine wpAnyH_ready (rs := [6]) (by kernel_rfl) (by simp) ?_; refine AllReadyH.cons (o := _) rfl (fun K hK => ?_) AllReadyH.nil
      go_simp
      (go_at_call 16; refine (hRP _ hHeld).mono ?_; rintro e u2 ⟨A8, c8, rfl, lg8⟩)
      refine hK.out _ _ (by (try dsimp only); exact hHeld.trans lg8.1 (by simp)) (fun hHeld => ?_)
      clear hK K
      (try simp only [Act.put, List.setIfInBounds_toArray, List.set_cons_zero, List.set_cons_succ])
      have hs8 := run_str (P := Try.prog) (c := c8) lg8.2.1.slg (fun e => (lg8.2.1.nil_ e).1) 23 5 9 Try.underlying23 Try.underlying5 Try.underlying9
      rw [← hSB.out] at hs8
      refine wpAnyH_ready (rs := [7]) (by kernel_rfl) (by simp) ?_; refine AllReadyH.cons (o := _) rfl (fun K hK => ?_) AllReadyH.nil
      go_simp
      skip
      refine hK.out _ _ (by (try dsimp only); exact hHeld) (fun hHeld => ?_)
      clear hK K
      (try simp only [Act.put, List.setIfInBounds_toArray, List.set_cons_zero, List.set_cons_succ])
      (refine take_on 8 (some 60) (v := ?_) rfl rfl (by kernel_rfl) (by kernel_rfl) (by kernel_rfl) (fun _ _ _ h => h) (by rfl) (by assumption) ?_ ?_; rotate_left; · (intro w hSw; (try dsimp only at hSw); go_simp; (try with_reducible rfl)))
      (try simp only [Act.put, List.setIfInBounds_toArray, List.set_cons_zero, List.set_cons_succ])
      (refine take_on 9 (some 61) (v := ?_) rfl rfl (by kernel_rfl) (by kernel_rfl) (by kernel_rfl) (fun _ _ _ h => h) (by rfl) (by assumption) ?_ ?_; rotate_left; · (intro w hSw; (try dsimp only at hSw); go_simp; (try with_reducible rfl)))
      (try simp only [Act.put, List.setIfInBounds_toArray, List.set_cons_zero, List.set_cons_succ])
      (refine take_on 10 (some 62) (v := ?_) rfl rfl (by kernel_rfl) (by kernel_rfl) (by kernel_rfl) (fun _ _ _ h => h) (by rfl) (by assumption) ?_ ?_; rotate_left; · (intro w hSw; (try dsimp only at hSw); go_simp; (try with_reducible rfl)))
      (try simp only [Act.put, List.setIfInBounds_toArray, List.set_cons_zero, List.set_cons_succ])
      (refine take_on 11 (some 63) (v := ?_) rfl rfl (by kernel_rfl) (by kernel_rfl) (by kernel_rfl) (fun _ _ _ h => h) (by rfl) (by assumption) ?_ ?_; rotate_left; · (intro w hSw; (try dsimp only at hSw); go_simp; (try with_reducible rfl)))
      (try simp only [Act.put, List.setIfInBounds_toArray, List.set_cons_zero, List.set_cons_succ])
      (refine take_on 12 (some 64) (v := ?_) rfl rfl (by kernel_rfl) (by kernel_rfl) (by kernel_rfl) (fun _ _ _ h => h) (by rfl) (by assumption) ?_ ?_; rotate_left; · (intro w hSw; (try dsimp only at hSw); go_simp; (try with_reducible rfl)))
      (try simp only [Act.put, List.setIfInBounds_toArray, List.set_cons_zero, List.set_cons_succ])
      refine wpAnyH_ready (rs := [13]) (by kernel_rfl) (by simp) ?_; refine AllReadyH.cons (o := _) rfl (fun K hK => ?_) AllReadyH.nil
      go_simp
      (go_at_call 17; refine (hS _ hHeld).mono ?_; rintro e u3 ⟨rfl, y3⟩)
      refine hK.out _ _ (by (try dsimp only); exact hHeld.trans y3 (by simp)) (fun hHeld => ?_)
      clear hK K
      (try simp only [Act.put, List.setIfInBounds_toArray, List.set_cons_zero, List.set_cons_succ])
      (refine take_on 14 (some 66) (v := ?_) rfl rfl (by kernel_rfl) (by kernel_rfl) (by kernel_rfl) (fun _ _ _ h => h) (by rfl) (by assumption) ?_ ?_; rotate_left; · (intro w hSw; (try dsimp only at hSw); go_simp; (try with_reducible rfl)))
      (try simp only [Act.put, List.setIfInBounds_toArray, List.set_cons_zero, List.set_cons_succ])
      (refine take_on 15 (some 67) (v := ?_) rfl rfl (by kernel_rfl) (by kernel_rfl) (by kernel_rfl) (fun _ _ _ h => h) (by rfl) (by assumption) ?_ ?_; rotate_left; · (intro w hSw; (try dsimp only at hSw); go_simp; (try with_reducible rfl)))
      (try simp only [Act.put, List.setIfInBounds_toArray, List.set_cons_zero, List.set_cons_succ])
      (refine take_on 16 (some 68) (v := ?_) rfl rfl (by kernel_rfl) (by kernel_rfl) (by kernel_rfl) (fun _ _ _ h => h) (by rfl) (by assumption) ?_ ?_; rotate_left; · (intro w hSw; (try dsimp only at hSw); go_simp; (try with_reducible rfl)))
      (try simp only [Act.put, List.setIfInBounds_toArray, List.set_cons_zero, List.set_cons_succ])
      (refine take_on 17 (some 69) (v := ?_) rfl rfl (by kernel_rfl) (by kernel_rfl) (by kernel_rfl) (fun _ _ _ h => h) (by rfl) (by assumption) ?_ ?_; rotate_left; · (intro w hSw; (try dsimp only at hSw); go_simp; (try with_reducible rfl)))
      (try simp only [Act.put, List.setIfInBounds_toArray, List.set_cons_zero, List.set_cons_succ])
      (refine take_on 18 (some 70) (v := ?_) rfl rfl (by kernel_rfl) (by kernel_rfl) (by kernel_rfl) (fun _ _ _ h => h) (by rfl) (by assumption) ?_ ?_; rotate_left; · (intro w hSw; (try dsimp only at hSw); go_simp; (try with_reducible rfl)))
      (try simp only [Act.put, List.setIfInBounds_toArray, List.set_cons_zero, List.set_cons_succ])
      (refine take_on 19 (some 71) (v := ?_) rfl rfl (by kernel_rfl) (by kernel_rfl) (by kernel_rfl) (fun _ _ _ h => h) (by rfl) (by assumption) ?_ ?_; rotate_left; · (intro w hSw; (try dsimp only at hSw); go_simp; (try with_reducible rfl)))
      (try simp only [Act.put, List.setIfInBounds_toArray, List.set_cons_zero, List.set_cons_succ])
      (refine take_on 20 (some 72) (v := ?_) rfl rfl (by kernel_rfl) (by kernel_rfl) (by kernel_rfl) (fun _ _ _ h => h) (by rfl) (by assumption) ?_ ?_; rotate_left; · (intro w hSw; (try dsimp only at hSw); go_simp; (try with_reducible rfl)))
      (try simp only [Act.put, List.setIfInBounds_toArray, List.set_cons_zero, List.set_cons_succ])
      (refine take_on 21 (some 73) (v := ?_) rfl rfl (by kernel_rfl) (by kernel_rfl) (by kernel_rfl) (fun _ _ _ h => h) (by rfl) (by assumption) ?_ ?_; rotate_left; · (intro w hSw; (try dsimp only at hSw); go_simp; (try with_reducible rfl)))
      (try simp only [Act.put, List.setIfInBounds_toArray, List.set_cons_zero, List.set_cons_succ])
      (refine take_on 22 (some 74) (v := ?_) rfl rfl (by kernel_rfl) (by kernel_rfl) (by kernel_rfl) (fun _ _ _ h => h) (by rfl) (by assumption) ?_ ?_; rotate_left; · (intro w hSw; (try dsimp only at hSw); go_simp; (try with_reducible rfl)))
      (try simp only [Act.put, List.setIfInBounds_toArray, List.set_cons_zero, List.set_cons_succ])
      (refine take_on 23 (some 75) (v := ?_) rfl rfl (by kernel_rfl) (by kernel_rfl) (by kernel_rfl) (fun _ _ _ h => h) (by rfl) (by assumption) ?_ ?_; rotate_left; · (intro w hSw; (try dsimp only at hSw); go_simp; (try with_reducible rfl)))
      (try simp only [Act.put, List.setIfInBounds_toArray, List.set_cons_zero, List.set_cons_succ])
      (refine take_on 24 (some 76) (v := ?_) rfl rfl (by kernel_rfl) (by kernel_rfl) (by kernel_rfl) (fun _ _ _ h => h) (by rfl) (by assumption) ?_ ?_; rotate_left; · (intro w hSw; (try dsimp only at hSw); go_simp; (try with_reducible rfl)))
      (try simp only [Act.put, List.setIfInBounds_toArray, List.set_cons_zero, List.set_cons_succ])
      (refine take_on 25 (some 4) (v := ?_) rfl rfl (by kernel_rfl) (by kernel_rfl) (by kernel_rfl) (fun _ _ _ h => h) (by rfl) (by assumption) ?_ ?_; rotate_left; · (intro w hSw; (try dsimp only at hSw); go_simp; (try with_reducible rfl)))
      (try simp only [Act.put, List.setIfInBounds_toArray, List.set_cons_zero, List.set_cons_succ])
      refine wpAnyH_done (by kernel_rfl) ?_ _
      refine NoPanic.normal ?_
      have k9 := k5.trans hHeld (by simp)
      go_wp2_with fail
      go_ret
      exact ⟨rfl, k9⟩

end Go.Proofs.Ytdmcicgappgiiaa
