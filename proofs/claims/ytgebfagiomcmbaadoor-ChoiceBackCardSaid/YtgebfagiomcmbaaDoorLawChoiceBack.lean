/-
  ChoiceBack: the walk.
-/
import Derived.Test.YtgebfagiomcmbaaDoorChoiceHead
namespace Go.Proofs.YtgebfagiomcmbaaDoor
open Go.RowKit Go.Shelf Go.Maps

theorem putC_wf {l : List Ch} : ∀ x ∈ putC l, 0 ≤ x ∧ x < 256 := by
  unfold putC
  split
  · rename_i h
    rw [List.all_eq_true] at h
    intro x hx
    unfold bytC at hx
    obtain ⟨c, hc, hx⟩ := List.mem_flatMap.1 hx
    have hk := h c hc
    unfold Ch.ok at hk; rw [decide_eq_true_eq] at hk
    obtain ⟨f, p⟩ := c
    simp only [Ch.hi, Ch.lo, List.mem_cons, List.not_mem_nil, or_false] at hx hk
    rcases hx with rfl | rfl
    · split <;> omega
    · omega
  · simp
theorem dec_eq (b c : Bool) (w : World) : (binOp .neq 4 (.bool b) (.bool c)).run Tryd.prog w = .ok (.bool (b != c)) w := by cases b <;> cases c <;> kernel_rfl

set_option maxRecDepth 100000 in
set_option maxHeartbeats 8000000 in
theorem ChoiceBack_walk (C : Option Addr) (nc e : Nat) (lc : List Ch) (B : Option Addr) (nb d : Nat) (b : List Int) (w : World) (hC : SlG chE w C nc lc) (hB : SlG (numE .u8) w B nb b) (hB0 : B = none → nb = 0 ∧ d = 0) (hwf : ∀ x ∈ b, 0 ≤ x ∧ x < 256) (hE : ErrIn w) :
    Calls Tryd.prog 3 #[.slice C nc e, .slice B nb d] w fun e w' => e = .returned (.bool true) ∧ Chg [] w w' := by
  have hlc := hC.le
  have hlb := hB.le
  have hcl := Lib.hid hC.len
  go_enter Tryd.func3, Tryd.ntmps3
  go_wp2_with fail
  refine (Chhead_any _ hE).mono ?_; rintro e w1 ⟨rfl, k1⟩
  by_cases hbigc : (nc : Int) > 900
  · go_wp2_with fail
    go_ret
    exact ⟨rfl, k1⟩
  · by_cases hbigb : (nb : Int) > 2000
    · go_wp2_with fail
      go_ret
      exact ⟨rfl, k1⟩
    · go_wp2_with fail
      go_loopg [6, 7] nc (fun gg s6 s7 wr => ∃ k : Nat, k ≤ nc ∧ nc - k ≤ gg ∧ s6 = .bool ((lc.take k).all Ch.ok) ∧ s7 = .int .i64 k ∧ Aside (Chg [] w wr))
      case atStart => exact ⟨0, by omega, by omega, by simp, rfl, k1⟩
      case round =>
        clear k1
        obtain ⟨k, hk, hg, rfl, rfl, H0⟩ := hrel
        replace H0 := H0.out
        by_cases hlt : k < nc
        · obtain ⟨bl, off, ⟨cf, cp⟩, rfl, hbl, hx, c0, c1⟩ := SlC.get (hC.new H0) hlt
          simp only at c0 c1
          have hal := all_succ hx
          have hR := fun (n : Cls wr) => ChRight_any cf cp n.val
          have hcl0 := fun n : Cls wr => n.cell c0
          have hcl1 := fun n : Cls wr => n.cell c1
          have eok : Ch.ok ⟨cf, cp⟩ = (decide (cp ≥ 0) && decide (cp < 512)) := by unfold Ch.ok; simp
          rw [eok] at hR hal
          generalize (lc.take k).all Ch.ok = rt at *
          have hlt' : (k : Int) < (nc : Int) := by omega
          clear hx eok
          replace hal := Lib.hid hal
          cases rt <;> cases h0 : decide (cp ≥ 0) <;> cases h1 : decide (cp < 512)
          all_goals
            rw [h0, h1] at hR hal
            go_wp2_with fail
            refine wp_region_cls (by kernel_rfl) (by kernel_rfl) ?_
            repeat (go_big_quiet_step (first | (go_at_call 5; with_reducible exact Calls.cls (hR _))))
            refine wpQuiet_nil ?_
            rintro _ ⟨n, rfl⟩
            go_wp2_with fail
            go_roundg (nc - (k + 1))
            case measure => omega
            case rel => exact ⟨k + 1, by omega, by omega, by rw [hal.out]; rfl, by go_num, H0.trans n.ok (by simp)⟩
        · obtain rfl : k = nc := by omega
          rw [show lc.take k = lc from by rw [← hcl.out, List.take_length]] at *
          have hPut := ChPut_any C k e lc wr (hC.new H0) (by omega)
          clear hk hg hlt
          go_wp2_with fail
          refine hPut.mono ?_; rintro e w2 ⟨A2, c2, rfl, ho2, _, k2⟩
          clear hPut
          have H2 := H0.trans k2 (by simp)
          cases hall : lc.all Ch.ok with
          | false =>
            have hp0 : putC lc = [] := by unfold putC; rw [hall]; rfl
            rw [hp0] at ho2 ⊢
            rw [show ([] : List Int).length = 0 from rfl] at ho2 ⊢
            have H0 := H2
            clear H2 k2 ho2
            have hG := ChGet_any B nb d b _ (hB.new H0) (by omega) hwf
            go_wp2_with fail
            refine hG.mono ?_; rintro e z1 ⟨(⟨hn, rfl⟩ | ⟨A7, c7, L7, hL, rfl, lg7⟩), kz⟩
            · have h1 := H0.trans kz (by simp)
              clear hG
              go_wp2_with fail
              refine wp_region_cls (by kernel_rfl) (by kernel_rfl) ?_
              repeat (go_big_quiet_step (fail))
              refine wpQuiet_nil ?_
              rintro _ ⟨n, rfl⟩
              go_wp2_with fail
              go_ret
              exact ⟨rfl, h1.trans n.ok (by simp)⟩
            · have h1 := H0.trans kz (by simp)
              have hput := byt_getC hwf hL
              have hpe : putC L7 = b := by unfold putC; rw [if_pos hput.1]; exact hput.2
              have hl7 : L7.length ≤ 1000000 := by have h := bytC_len L7; rw [hput.2, hB.len] at h; omega
              have hPt := fun w' (k : Chg [] z1 w') => ChPut_any A7 L7.length c7 L7 w' (lg7.2.1.slg.new k) hl7
              rw [hpe, hB.len] at hPt
              have hcb := fun w' (k : Chg [] z1 w') => run_str (P := Tryd.prog) (c := d) (hB.new (h1.trans k (by simp))) (fun e => (hB0 e).1) 23 5 9 Tryd.underlying23 Tryd.underlying5 Tryd.underlying9
              clear hG hput hpe hL
              generalize hl7e : L7.length = l7 at *
              clear hl7e
              generalize hsb : strOfNums b = sb at *
              replace hsb := Lib.hid hsb
              go_wp2_with fail
              refine wp_region_noPanic ?_
              refine wp_region_held_drew (S := (fun w' => Chg [] z1 w')) (by kernel_rfl) ?_ (fun hHeld => ?_)
              · exact (Chg.refl [] z1).drew
              (refine take_on 0 (some 98) (v := ?_) rfl rfl (by kernel_rfl) (by kernel_rfl) (by kernel_rfl) (fun _ _ _ h => h) (by rfl) (by assumption) ?_ ?_; rotate_left; · (intro w hSw; (try dsimp only at hSw); go_simp; (try with_reducible rfl)))
              (try simp only [Act.put, List.setIfInBounds_toArray, List.set_cons_zero, List.set_cons_succ])
              (refine take_on 1 (some 99) (v := ?_) rfl rfl (by kernel_rfl) (by kernel_rfl) (by kernel_rfl) (fun _ _ _ h => h) (by rfl) (by assumption) ?_ ?_; rotate_left; · (intro w hSw; (try dsimp only at hSw); go_simp; (try with_reducible rfl)))
              (try simp only [Act.put, List.setIfInBounds_toArray, List.set_cons_zero, List.set_cons_succ])
              (refine take_on 2 (some 100) (v := ?_) rfl rfl (by kernel_rfl) (by kernel_rfl) (by kernel_rfl) (fun _ _ _ h => h) (by rfl) (by assumption) ?_ ?_; rotate_left; · (intro w hSw; (try dsimp only at hSw); go_simp; (try with_reducible rfl)))
              (try simp only [Act.put, List.setIfInBounds_toArray, List.set_cons_zero, List.set_cons_succ])
              (refine take_on 3 (some 101) (v := ?_) rfl rfl (by kernel_rfl) (by kernel_rfl) (by kernel_rfl) (fun _ _ _ h => h) (by rfl) (by assumption) ?_ ?_; rotate_left; · (intro w hSw; (try dsimp only at hSw); go_simp; (try with_reducible rfl)))
              (try simp only [Act.put, List.setIfInBounds_toArray, List.set_cons_zero, List.set_cons_succ])
              (refine take_on 4 (some 102) (v := ?_) rfl rfl (by kernel_rfl) (by kernel_rfl) (by kernel_rfl) (fun _ _ _ h => h) (by rfl) (by assumption) ?_ ?_; rotate_left; · (intro w hSw; (try dsimp only at hSw); go_simp; (try with_reducible rfl)))
              (try simp only [Act.put, List.setIfInBounds_toArray, List.set_cons_zero, List.set_cons_succ])
              (refine take_off 5 (some 103) rfl rfl (by kernel_rfl) (by kernel_rfl) (by kernel_rfl) (fun _ _ _ h => h) (by rfl) (by assumption) ?_)
              (try simp only [Act.put, List.setIfInBounds_toArray, List.set_cons_zero, List.set_cons_succ])
              (refine take_off 6 (some 104) rfl rfl (by kernel_rfl) (by kernel_rfl) (by kernel_rfl) (fun _ _ _ h => h) (by rfl) (by assumption) ?_)
              (try simp only [Act.put, List.setIfInBounds_toArray, List.set_cons_zero, List.set_cons_succ])
              (refine take_off 7 (some 105) rfl rfl (by kernel_rfl) (by kernel_rfl) (by kernel_rfl) (fun _ _ _ h => h) (by rfl) (by assumption) ?_)
              (try simp only [Act.put, List.setIfInBounds_toArray, List.set_cons_zero, List.set_cons_succ])
              (refine take_on 8 (some 106) (v := ?_) rfl rfl (by kernel_rfl) (by kernel_rfl) (by kernel_rfl) (fun _ _ _ h => h) (by rfl) (by assumption) ?_ ?_; rotate_left; · (intro w hSw; (try dsimp only at hSw); go_simp; (try with_reducible rfl)))
              (try simp only [Act.put, List.setIfInBounds_toArray, List.set_cons_zero, List.set_cons_succ])
              (refine take_on 9 (some 107) (v := ?_) rfl rfl (by kernel_rfl) (by kernel_rfl) (by kernel_rfl) (fun _ _ _ h => h) (by rfl) (by assumption) ?_ ?_; rotate_left; · (intro w hSw; (try dsimp only at hSw); go_simp; (try with_reducible rfl)))
              (try simp only [Act.put, List.setIfInBounds_toArray, List.set_cons_zero, List.set_cons_succ])
              (refine take_on 10 (some 108) (v := ?_) rfl rfl (by kernel_rfl) (by kernel_rfl) (by kernel_rfl) (fun _ _ _ h => h) (by rfl) (by assumption) ?_ ?_; rotate_left; · (intro w hSw; (try dsimp only at hSw); go_simp; (try with_reducible rfl)))
              (try simp only [Act.put, List.setIfInBounds_toArray, List.set_cons_zero, List.set_cons_succ])
              (refine take_on 11 (some 109) (v := ?_) rfl rfl (by kernel_rfl) (by kernel_rfl) (by kernel_rfl) (fun _ _ _ h => h) (by rfl) (by assumption) ?_ ?_; rotate_left; · (intro w hSw; (try dsimp only at hSw); go_simp; (try with_reducible rfl)))
              (try simp only [Act.put, List.setIfInBounds_toArray, List.set_cons_zero, List.set_cons_succ])
              (refine take_on 12 (some 110) (v := ?_) rfl rfl (by kernel_rfl) (by kernel_rfl) (by kernel_rfl) (fun _ _ _ h => h) (by rfl) (by assumption) ?_ ?_; rotate_left; · (intro w hSw; (try dsimp only at hSw); go_simp; (try with_reducible rfl)))
              (try simp only [Act.put, List.setIfInBounds_toArray, List.set_cons_zero, List.set_cons_succ])
              (refine take_on 13 (some 111) (v := ?_) rfl rfl (by kernel_rfl) (by kernel_rfl) (by kernel_rfl) (fun _ _ _ h => h) (by rfl) (by assumption) ?_ ?_; rotate_left; · (intro w hSw; (try dsimp only at hSw); go_simp; (try with_reducible rfl)))
              (try simp only [Act.put, List.setIfInBounds_toArray, List.set_cons_zero, List.set_cons_succ])
              (refine take_on 16 (some 114) (v := ?_) rfl rfl (by kernel_rfl) (by kernel_rfl) (by kernel_rfl) (fun _ _ _ h => h) (by rfl) (by assumption) ?_ ?_; rotate_left; · (intro w hSw; (try dsimp only at hSw); go_simp; (try with_reducible rfl)))
              (try simp only [Act.put, List.setIfInBounds_toArray, List.set_cons_zero, List.set_cons_succ])
              (refine take_on 17 (some 115) (v := ?_) rfl rfl (by kernel_rfl) (by kernel_rfl) (by kernel_rfl) (fun _ _ _ h => h) (by rfl) (by assumption) ?_ ?_; rotate_left; · (intro w hSw; (try dsimp only at hSw); have hq_ := hcb _ hSw; go_simp; (try with_reducible rfl)))
              (try simp only [Act.put, List.setIfInBounds_toArray, List.set_cons_zero, List.set_cons_succ])
              refine wpAnyH_ready (rs := [14]) (by kernel_rfl) (by simp) ?_; refine AllReadyH.cons (o := _) rfl (fun K hK => ?_) AllReadyH.nil
              go_simp
              (go_at_call 6; refine (hPt _ hHeld).mono ?_; rintro e u1 ⟨A9, c9, rfl, ho9, _, y1⟩)
              refine hK.out _ _ (by (try dsimp only); exact hHeld.trans y1 (by simp)) (fun hHeld => ?_)
              clear hK K
              (try simp only [Act.put, List.setIfInBounds_toArray, List.set_cons_zero, List.set_cons_succ])
              have hs9 := run_str (P := Tryd.prog) (c := c9) ho9.slg (fun e => (ho9.nil_ e).1) 23 5 9 Tryd.underlying23 Tryd.underlying5 Tryd.underlying9
              rw [hsb.out] at hs9
              refine wpAnyH_ready (rs := [15]) (by kernel_rfl) (by simp) ?_; refine AllReadyH.cons (o := _) rfl (fun K hK => ?_) AllReadyH.nil
              go_simp
              skip
              refine hK.out _ _ (by (try dsimp only); exact hHeld) (fun hHeld => ?_)
              clear hK K
              (try simp only [Act.put, List.setIfInBounds_toArray, List.set_cons_zero, List.set_cons_succ])
              (refine take_on 18 (some 116) (v := ?_) rfl rfl (by kernel_rfl) (by kernel_rfl) (by kernel_rfl) (fun _ _ _ h => h) (by rfl) (by assumption) ?_ ?_; rotate_left; · (intro w hSw; (try dsimp only at hSw); go_simp; (try with_reducible rfl)))
              (try simp only [Act.put, List.setIfInBounds_toArray, List.set_cons_zero, List.set_cons_succ])
              (refine take_on 19 (some 117) (v := ?_) rfl rfl (by kernel_rfl) (by kernel_rfl) (by kernel_rfl) (fun _ _ _ h => h) (by rfl) (by assumption) ?_ ?_; rotate_left; · (intro w hSw; (try dsimp only at hSw); go_simp; (try with_reducible rfl)))
              (try simp only [Act.put, List.setIfInBounds_toArray, List.set_cons_zero, List.set_cons_succ])
              (refine take_on 20 (some 118) (v := ?_) rfl rfl (by kernel_rfl) (by kernel_rfl) (by kernel_rfl) (fun _ _ _ h => h) (by rfl) (by assumption) ?_ ?_; rotate_left; · (intro w hSw; (try dsimp only at hSw); go_simp; (try with_reducible rfl)))
              (try simp only [Act.put, List.setIfInBounds_toArray, List.set_cons_zero, List.set_cons_succ])
              (refine take_on 21 (some 119) (v := ?_) rfl rfl (by kernel_rfl) (by kernel_rfl) (by kernel_rfl) (fun _ _ _ h => h) (by rfl) (by assumption) ?_ ?_; rotate_left; · (intro w hSw; (try dsimp only at hSw); go_simp; (try with_reducible rfl)))
              (try simp only [Act.put, List.setIfInBounds_toArray, List.set_cons_zero, List.set_cons_succ])
              (refine take_on 22 (some 4) (v := ?_) rfl rfl (by kernel_rfl) (by kernel_rfl) (by kernel_rfl) (fun _ _ _ h => h) (by rfl) (by assumption) ?_ ?_; rotate_left; · (intro w hSw; (try dsimp only at hSw); go_simp; (try with_reducible rfl)))
              (try simp only [Act.put, List.setIfInBounds_toArray, List.set_cons_zero, List.set_cons_succ])
              refine wpAnyH_done (by kernel_rfl) ?_ _
              refine NoPanic.normal ?_
              have h9 := h1.trans hHeld (by simp)
              clear hHeld hs9 ho9 y1
              go_wp2_with fail
              go_ret
              exact ⟨rfl, h9⟩
          | true =>
            have hp1 : putC lc = bytC lc := by unfold putC; rw [if_pos hall]
            have hgt := getC_byt hall
            rw [← hp1] at hgt
            have hpl : (putC lc).length = 2 * k := by rw [hp1, bytC_len, hcl.out]
            skip
            have hG1 := ChGet_any A2 (putC lc).length c2 (putC lc) w2 ho2.slg (by rw [hpl]; omega) putC_wf
            rw [hgt] at hG1
            rw [hpl] at hG1 ho2 ⊢
            go_wp2_with fail
            refine hG1.mono ?_; rintro e w3 ⟨(⟨hn, _⟩ | ⟨A3, c3, L3, hL, rfl, lg3⟩), k3⟩; · cases hn
            injection hL with hL; subst hL
            clear hG1
            have hS := ChSame_any A3 C _ _ c3 e lc lc w3 lg3.2.1.slg (hC.new (H2.trans k3 (by simp)))
            rw [decide_eq_true (rfl : lc = lc), hcl.out] at hS
            rw [hcl.out]
            have H3 := H2.trans k3 (by simp)
            have hm2 : ((2 * k : Nat) : Int) = 2 * (k : Int) := by omega
            go_wp2_with fail
            refine hS.mono ?_; rintro e w4 ⟨rfl, k4⟩
            have H0 := H3.trans k4 (by simp)
            clear hS H3 H2 k2 k3 k4 lg3 ho2
            have hG := ChGet_any B nb d b _ (hB.new H0) (by omega) hwf
            go_wp2_with fail
            refine hG.mono ?_; rintro e z1 ⟨(⟨hn, rfl⟩ | ⟨A7, c7, L7, hL, rfl, lg7⟩), kz⟩
            · have h1 := H0.trans kz (by simp)
              clear hG
              go_wp2_with fail
              refine wp_region_cls (by kernel_rfl) (by kernel_rfl) ?_
              repeat (go_big_quiet_step (fail))
              refine wpQuiet_nil ?_
              rintro _ ⟨n, rfl⟩
              go_wp2_with fail
              go_ret
              exact ⟨rfl, h1.trans n.ok (by simp)⟩
            · have h1 := H0.trans kz (by simp)
              have hput := byt_getC hwf hL
              have hpe : putC L7 = b := by unfold putC; rw [if_pos hput.1]; exact hput.2
              have hl7 : L7.length ≤ 1000000 := by have h := bytC_len L7; rw [hput.2, hB.len] at h; omega
              have hPt := fun w' (k : Chg [] z1 w') => ChPut_any A7 L7.length c7 L7 w' (lg7.2.1.slg.new k) hl7
              rw [hpe, hB.len] at hPt
              have hcb := fun w' (k : Chg [] z1 w') => run_str (P := Tryd.prog) (c := d) (hB.new (h1.trans k (by simp))) (fun e => (hB0 e).1) 23 5 9 Tryd.underlying23 Tryd.underlying5 Tryd.underlying9
              clear hG hput hpe hL
              generalize hl7e : L7.length = l7 at *
              clear hl7e
              generalize hsb : strOfNums b = sb at *
              replace hsb := Lib.hid hsb
              go_wp2_with fail
              refine wp_region_noPanic ?_
              refine wp_region_held_drew (S := (fun w' => Chg [] z1 w')) (by kernel_rfl) ?_ (fun hHeld => ?_)
              · exact (Chg.refl [] z1).drew
              (refine take_on 0 (some 98) (v := ?_) rfl rfl (by kernel_rfl) (by kernel_rfl) (by kernel_rfl) (fun _ _ _ h => h) (by rfl) (by assumption) ?_ ?_; rotate_left; · (intro w hSw; (try dsimp only at hSw); go_simp; (try with_reducible rfl)))
              (try simp only [Act.put, List.setIfInBounds_toArray, List.set_cons_zero, List.set_cons_succ])
              (refine take_on 1 (some 99) (v := ?_) rfl rfl (by kernel_rfl) (by kernel_rfl) (by kernel_rfl) (fun _ _ _ h => h) (by rfl) (by assumption) ?_ ?_; rotate_left; · (intro w hSw; (try dsimp only at hSw); go_simp; (try with_reducible rfl)))
              (try simp only [Act.put, List.setIfInBounds_toArray, List.set_cons_zero, List.set_cons_succ])
              (refine take_on 2 (some 100) (v := ?_) rfl rfl (by kernel_rfl) (by kernel_rfl) (by kernel_rfl) (fun _ _ _ h => h) (by rfl) (by assumption) ?_ ?_; rotate_left; · (intro w hSw; (try dsimp only at hSw); go_simp; (try with_reducible rfl)))
              (try simp only [Act.put, List.setIfInBounds_toArray, List.set_cons_zero, List.set_cons_succ])
              (refine take_on 3 (some 101) (v := ?_) rfl rfl (by kernel_rfl) (by kernel_rfl) (by kernel_rfl) (fun _ _ _ h => h) (by rfl) (by assumption) ?_ ?_; rotate_left; · (intro w hSw; (try dsimp only at hSw); go_simp; (try with_reducible rfl)))
              (try simp only [Act.put, List.setIfInBounds_toArray, List.set_cons_zero, List.set_cons_succ])
              (refine take_on 4 (some 102) (v := ?_) rfl rfl (by kernel_rfl) (by kernel_rfl) (by kernel_rfl) (fun _ _ _ h => h) (by rfl) (by assumption) ?_ ?_; rotate_left; · (intro w hSw; (try dsimp only at hSw); go_simp; (try with_reducible rfl)))
              (try simp only [Act.put, List.setIfInBounds_toArray, List.set_cons_zero, List.set_cons_succ])
              (refine take_off 5 (some 103) rfl rfl (by kernel_rfl) (by kernel_rfl) (by kernel_rfl) (fun _ _ _ h => h) (by rfl) (by assumption) ?_)
              (try simp only [Act.put, List.setIfInBounds_toArray, List.set_cons_zero, List.set_cons_succ])
              (refine take_off 6 (some 104) rfl rfl (by kernel_rfl) (by kernel_rfl) (by kernel_rfl) (fun _ _ _ h => h) (by rfl) (by assumption) ?_)
              (try simp only [Act.put, List.setIfInBounds_toArray, List.set_cons_zero, List.set_cons_succ])
              (refine take_off 7 (some 105) rfl rfl (by kernel_rfl) (by kernel_rfl) (by kernel_rfl) (fun _ _ _ h => h) (by rfl) (by assumption) ?_)
              (try simp only [Act.put, List.setIfInBounds_toArray, List.set_cons_zero, List.set_cons_succ])
              (refine take_on 8 (some 106) (v := ?_) rfl rfl (by kernel_rfl) (by kernel_rfl) (by kernel_rfl) (fun _ _ _ h => h) (by rfl) (by assumption) ?_ ?_; rotate_left; · (intro w hSw; (try dsimp only at hSw); go_simp; (try with_reducible rfl)))
              (try simp only [Act.put, List.setIfInBounds_toArray, List.set_cons_zero, List.set_cons_succ])
              (refine take_on 9 (some 107) (v := ?_) rfl rfl (by kernel_rfl) (by kernel_rfl) (by kernel_rfl) (fun _ _ _ h => h) (by rfl) (by assumption) ?_ ?_; rotate_left; · (intro w hSw; (try dsimp only at hSw); go_simp; (try with_reducible rfl)))
              (try simp only [Act.put, List.setIfInBounds_toArray, List.set_cons_zero, List.set_cons_succ])
              (refine take_on 10 (some 108) (v := ?_) rfl rfl (by kernel_rfl) (by kernel_rfl) (by kernel_rfl) (fun _ _ _ h => h) (by rfl) (by assumption) ?_ ?_; rotate_left; · (intro w hSw; (try dsimp only at hSw); go_simp; (try with_reducible rfl)))
              (try simp only [Act.put, List.setIfInBounds_toArray, List.set_cons_zero, List.set_cons_succ])
              (refine take_on 11 (some 109) (v := ?_) rfl rfl (by kernel_rfl) (by kernel_rfl) (by kernel_rfl) (fun _ _ _ h => h) (by rfl) (by assumption) ?_ ?_; rotate_left; · (intro w hSw; (try dsimp only at hSw); go_simp; (try with_reducible rfl)))
              (try simp only [Act.put, List.setIfInBounds_toArray, List.set_cons_zero, List.set_cons_succ])
              (refine take_on 12 (some 110) (v := ?_) rfl rfl (by kernel_rfl) (by kernel_rfl) (by kernel_rfl) (fun _ _ _ h => h) (by rfl) (by assumption) ?_ ?_; rotate_left; · (intro w hSw; (try dsimp only at hSw); go_simp; (try with_reducible rfl)))
              (try simp only [Act.put, List.setIfInBounds_toArray, List.set_cons_zero, List.set_cons_succ])
              (refine take_on 13 (some 111) (v := ?_) rfl rfl (by kernel_rfl) (by kernel_rfl) (by kernel_rfl) (fun _ _ _ h => h) (by rfl) (by assumption) ?_ ?_; rotate_left; · (intro w hSw; (try dsimp only at hSw); go_simp; (try with_reducible rfl)))
              (try simp only [Act.put, List.setIfInBounds_toArray, List.set_cons_zero, List.set_cons_succ])
              (refine take_on 16 (some 114) (v := ?_) rfl rfl (by kernel_rfl) (by kernel_rfl) (by kernel_rfl) (fun _ _ _ h => h) (by rfl) (by assumption) ?_ ?_; rotate_left; · (intro w hSw; (try dsimp only at hSw); go_simp; (try with_reducible rfl)))
              (try simp only [Act.put, List.setIfInBounds_toArray, List.set_cons_zero, List.set_cons_succ])
              (refine take_on 17 (some 115) (v := ?_) rfl rfl (by kernel_rfl) (by kernel_rfl) (by kernel_rfl) (fun _ _ _ h => h) (by rfl) (by assumption) ?_ ?_; rotate_left; · (intro w hSw; (try dsimp only at hSw); have hq_ := hcb _ hSw; go_simp; (try with_reducible rfl)))
              (try simp only [Act.put, List.setIfInBounds_toArray, List.set_cons_zero, List.set_cons_succ])
              refine wpAnyH_ready (rs := [14]) (by kernel_rfl) (by simp) ?_; refine AllReadyH.cons (o := _) rfl (fun K hK => ?_) AllReadyH.nil
              go_simp
              (go_at_call 6; refine (hPt _ hHeld).mono ?_; rintro e u1 ⟨A9, c9, rfl, ho9, _, y1⟩)
              refine hK.out _ _ (by (try dsimp only); exact hHeld.trans y1 (by simp)) (fun hHeld => ?_)
              clear hK K
              (try simp only [Act.put, List.setIfInBounds_toArray, List.set_cons_zero, List.set_cons_succ])
              have hs9 := run_str (P := Tryd.prog) (c := c9) ho9.slg (fun e => (ho9.nil_ e).1) 23 5 9 Tryd.underlying23 Tryd.underlying5 Tryd.underlying9
              rw [hsb.out] at hs9
              refine wpAnyH_ready (rs := [15]) (by kernel_rfl) (by simp) ?_; refine AllReadyH.cons (o := _) rfl (fun K hK => ?_) AllReadyH.nil
              go_simp
              skip
              refine hK.out _ _ (by (try dsimp only); exact hHeld) (fun hHeld => ?_)
              clear hK K
              (try simp only [Act.put, List.setIfInBounds_toArray, List.set_cons_zero, List.set_cons_succ])
              (refine take_on 18 (some 116) (v := ?_) rfl rfl (by kernel_rfl) (by kernel_rfl) (by kernel_rfl) (fun _ _ _ h => h) (by rfl) (by assumption) ?_ ?_; rotate_left; · (intro w hSw; (try dsimp only at hSw); go_simp; (try with_reducible rfl)))
              (try simp only [Act.put, List.setIfInBounds_toArray, List.set_cons_zero, List.set_cons_succ])
              (refine take_on 19 (some 117) (v := ?_) rfl rfl (by kernel_rfl) (by kernel_rfl) (by kernel_rfl) (fun _ _ _ h => h) (by rfl) (by assumption) ?_ ?_; rotate_left; · (intro w hSw; (try dsimp only at hSw); go_simp; (try with_reducible rfl)))
              (try simp only [Act.put, List.setIfInBounds_toArray, List.set_cons_zero, List.set_cons_succ])
              (refine take_on 20 (some 118) (v := ?_) rfl rfl (by kernel_rfl) (by kernel_rfl) (by kernel_rfl) (fun _ _ _ h => h) (by rfl) (by assumption) ?_ ?_; rotate_left; · (intro w hSw; (try dsimp only at hSw); go_simp; (try with_reducible rfl)))
              (try simp only [Act.put, List.setIfInBounds_toArray, List.set_cons_zero, List.set_cons_succ])
              (refine take_on 21 (some 119) (v := ?_) rfl rfl (by kernel_rfl) (by kernel_rfl) (by kernel_rfl) (fun _ _ _ h => h) (by rfl) (by assumption) ?_ ?_; rotate_left; · (intro w hSw; (try dsimp only at hSw); go_simp; (try with_reducible rfl)))
              (try simp only [Act.put, List.setIfInBounds_toArray, List.set_cons_zero, List.set_cons_succ])
              (refine take_on 22 (some 4) (v := ?_) rfl rfl (by kernel_rfl) (by kernel_rfl) (by kernel_rfl) (fun _ _ _ h => h) (by rfl) (by assumption) ?_ ?_; rotate_left; · (intro w hSw; (try dsimp only at hSw); go_simp; (try with_reducible rfl)))
              (try simp only [Act.put, List.setIfInBounds_toArray, List.set_cons_zero, List.set_cons_succ])
              refine wpAnyH_done (by kernel_rfl) ?_ _
              refine NoPanic.normal ?_
              have h9 := h1.trans hHeld (by simp)
              clear hHeld hs9 ho9 y1
              go_wp2_with fail
              go_ret
              exact ⟨rfl, h9⟩

end Go.Proofs.YtgebfagiomcmbaaDoor
