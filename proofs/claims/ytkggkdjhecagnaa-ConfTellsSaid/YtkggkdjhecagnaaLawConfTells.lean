/-
  ConfTells: the law, walked from contracts.
-/
import Derived.Test.YtkggkdjhecagnaaConfR2
namespace Go.Proofs.Ytkggkdjhecagnaa
open Go.RowKit Go.Maps


set_option maxRecDepth 100000 in
set_option maxHeartbeats 8000000 in
theorem ConfTells_walk (c : Cf) (A : Option Addr) (n k : Nat) (w : World) (hin : CfIn c A n w) :
    Calls Try.prog 3 #[.agg (c.cs A n k)] w fun e w' => e = .returned (.bool true) ∧ Chg [] w w' := by
  have hsl := hin.sl
  have hwf := hin.wf
  have hlen := hsl.len
  have hle := hsl.le
  obtain ⟨h, L, f, m, t, a, r⟩ := c
  unfold Cf.cs
  simp only at *
  by_cases hn : 900 < n
  · have hnz : (900 : Int) < (n : Int) := by omega
    have hng : decide ((n : Int) > 900) = true := by simpa using hnz
    go_enter Try.func3, Try.ntmps3
    go_wp2_with fail
    have b1 := Blk.new w 24 #[.int .i64 h, .slice A n k, .int .i64 f, .int .i64 m, .int .i64 t, .int .i64 a, .int .i64 r]
    refine (Chead_any _).mono ?_; rintro e w1 ⟨rfl, k1⟩
    replace b1 := b1.chg_ k1 (by simp)
    have hc : Chg [] w w1 := ((Chg.refl [] w).alloc _).trans k1 (by simp)
    replace hsl := hsl.chg hc
    clear k1
    obtain ⟨c0, c1, c2, c3, c4, c5, c6⟩ := cfc7 b1
    clear hlen hle
    go_wp2_with fail
    go_ret
    exact ⟨rfl, hc⟩
  · have hnz : ¬ (900 : Int) < (n : Int) := by omega
    have hng : decide ((n : Int) > 900) = false := by simpa using hnz
    have hiR := Cf.image_rng (c := ⟨h, L, f, m, t, a, r⟩)
    have hfR := Cf.foreign_rng (c := ⟨h, L, f, m, t, a, r⟩)
    have RC := fun w (hs : SlK .i64 w A n L) => CRight_at ⟨h, L, f, m, t, a, r⟩ A n k w ⟨hs, hwf⟩
    have RD := fun w (hs : SlK .i64 w A n L) => RCRight_at ⟨h, L, f, m, t, a, r⟩ A n k w ⟨hs, hwf⟩
    have IC := fun w (hs : SlK .i64 w A n L) => CImage_at ⟨h, L, f, m, t, a, r⟩ A n k w ⟨hs, hwf⟩
    have ID := fun w (hs : SlK .i64 w A n L) => RCImage_at ⟨h, L, f, m, t, a, r⟩ A n k w ⟨hs, hwf⟩
    have FC := fun w (hs : SlK .i64 w A n L) => CForeign_at ⟨h, L, f, m, t, a, r⟩ A n k w ⟨hs, hwf⟩
    have FD := fun w (hs : SlK .i64 w A n L) => RCForeign_at ⟨h, L, f, m, t, a, r⟩ A n k w ⟨hs, hwf⟩
    generalize Cf.right ⟨h, L, f, m, t, a, r⟩ = R at *
    generalize Cf.image ⟨h, L, f, m, t, a, r⟩ = I1 at *
    generalize Cf.foreign ⟨h, L, f, m, t, a, r⟩ = I2 at *
    unfold Cf.cs at *
    simp only at *
    have HIR := Lib.hid hiR
    have HFR := Lib.hid hfR
    clear hiR hfR hwf hlen hle
    go_enter Try.func3, Try.ntmps3
    go_wp2_with fail
    have b1 := Blk.new w 24 #[.int .i64 h, .slice A n k, .int .i64 f, .int .i64 m, .int .i64 t, .int .i64 a, .int .i64 r]
    refine (Chead_any _).mono ?_; rintro e w1 ⟨rfl, k1⟩
    replace b1 := b1.chg_ k1 (by simp)
    have hc : Chg [] w w1 := ((Chg.refl [] w).alloc _).trans k1 (by simp)
    replace hsl := hsl.chg hc
    clear k1
    obtain ⟨c0, c1, c2, c3, c4, c5, c6⟩ := cfc7 b1
    go_wp2_with fail
    clear c0 c1 c2 c3 c4 c5 c6
    refine wp_region_noPanic ?_
    refine wp_region_held_drew (S := (fun w' => Chg [] w1 w')) (by kernel_rfl) ?_ (fun hHeld => ?_)
    · exact (Chg.refl [] w1).drew
    (refine take_on 0 (some 10) (v := ?_) rfl rfl (by kernel_rfl) (by kernel_rfl) (by kernel_rfl) (fun _ _ _ h => h) (by rfl) (by assumption) ?_ ?_; rotate_left; · (intro w hSw; go_simp; (try with_reducible rfl)))
    (try simp only [Act.put, List.setIfInBounds_toArray, List.set_cons_zero, List.set_cons_succ])
    (refine take_on 1 (some 11) (v := ?_) rfl rfl (by kernel_rfl) (by kernel_rfl) (by kernel_rfl) (fun _ _ _ h => h) (by rfl) (by assumption) ?_ ?_; rotate_left; · (intro w hSw; go_simp; (try with_reducible rfl)))
    (try simp only [Act.put, List.setIfInBounds_toArray, List.set_cons_zero, List.set_cons_succ])
    (refine take_on 2 (some 12) (v := ?_) rfl rfl (by kernel_rfl) (by kernel_rfl) (by kernel_rfl) (fun _ _ _ h => h) (by rfl) (by assumption) ?_ ?_; rotate_left; · (intro w hSw; (try dsimp only at hSw); have b_ := b1.chg_ hSw (by simp); obtain ⟨d0, d1, d2, d3, d4, d5, d6⟩ := cfc7 b_; go_simp; (try with_reducible rfl)))
    (try simp only [Act.put, List.setIfInBounds_toArray, List.set_cons_zero, List.set_cons_succ])
    (refine take_on 4 (some 14) (v := ?_) rfl rfl (by kernel_rfl) (by kernel_rfl) (by kernel_rfl) (fun _ _ _ h => h) (by rfl) (by assumption) ?_ ?_; rotate_left; · (intro w hSw; (try dsimp only at hSw); have b_ := b1.chg_ hSw (by simp); obtain ⟨d0, d1, d2, d3, d4, d5, d6⟩ := cfc7 b_; go_simp; (try with_reducible rfl)))
    (try simp only [Act.put, List.setIfInBounds_toArray, List.set_cons_zero, List.set_cons_succ])
    refine wpAnyH_ready (rs := [3]) (by kernel_rfl) (by simp) ?_; refine AllReadyH.cons (o := _) rfl (fun K hK => ?_) AllReadyH.nil
    go_simp
    (go_at_call 10; refine (RC _ (hsl.chg hHeld)).mono ?_; rintro e u0 ⟨rfl, y0⟩)
    refine hK.out _ _ (by (try dsimp only); exact hHeld.trans y0 (by simp)) (fun hHeld => ?_)
    clear hK K
    (try simp only [Act.put, List.setIfInBounds_toArray, List.set_cons_zero, List.set_cons_succ])
    refine wpAnyH_ready (rs := [5]) (by kernel_rfl) (by simp) ?_; refine AllReadyH.cons (o := _) rfl (fun K hK => ?_) AllReadyH.nil
    go_simp
    (go_at_call 11; refine (RD _ (hsl.chg hHeld)).mono ?_; rintro e u1 ⟨rfl, y1⟩)
    refine hK.out _ _ (by (try dsimp only); exact hHeld.trans y1 (by simp)) (fun hHeld => ?_)
    clear hK K
    (try simp only [Act.put, List.setIfInBounds_toArray, List.set_cons_zero, List.set_cons_succ])
    (refine take_on 6 (some 16) (v := ?_) rfl rfl (by kernel_rfl) (by kernel_rfl) (by kernel_rfl) (fun _ _ _ h => h) (by rfl) (by assumption) ?_ ?_; rotate_left; · (intro w hSw; go_simp; (try with_reducible rfl)))
    (try simp only [Act.put, List.setIfInBounds_toArray, List.set_cons_zero, List.set_cons_succ])
    (refine take_on 7 (some 17) (v := ?_) rfl rfl (by kernel_rfl) (by kernel_rfl) (by kernel_rfl) (fun _ _ _ h => h) (by rfl) (by assumption) ?_ ?_; rotate_left; · (intro w hSw; go_simp; (try with_reducible rfl)))
    (try simp only [Act.put, List.setIfInBounds_toArray, List.set_cons_zero, List.set_cons_succ])
    (refine take_on 8 (some 18) (v := ?_) rfl rfl (by kernel_rfl) (by kernel_rfl) (by kernel_rfl) (fun _ _ _ h => h) (by rfl) (by assumption) ?_ ?_; rotate_left; · (intro w hSw; go_simp; (try with_reducible rfl)))
    (try simp only [Act.put, List.setIfInBounds_toArray, List.set_cons_zero, List.set_cons_succ])
    (refine take_on 9 (some 19) (v := ?_) rfl rfl (by kernel_rfl) (by kernel_rfl) (by kernel_rfl) (fun _ _ _ h => h) (by rfl) (by assumption) ?_ ?_; rotate_left; · (intro w hSw; (try dsimp only at hSw); have b_ := b1.chg_ hSw (by simp); obtain ⟨d0, d1, d2, d3, d4, d5, d6⟩ := cfc7 b_; go_simp; (try with_reducible rfl)))
    (try simp only [Act.put, List.setIfInBounds_toArray, List.set_cons_zero, List.set_cons_succ])
    (refine take_on 11 (some 21) (v := ?_) rfl rfl (by kernel_rfl) (by kernel_rfl) (by kernel_rfl) (fun _ _ _ h => h) (by rfl) (by assumption) ?_ ?_; rotate_left; · (intro w hSw; (try dsimp only at hSw); have b_ := b1.chg_ hSw (by simp); obtain ⟨d0, d1, d2, d3, d4, d5, d6⟩ := cfc7 b_; go_simp; (try with_reducible rfl)))
    (try simp only [Act.put, List.setIfInBounds_toArray, List.set_cons_zero, List.set_cons_succ])
    refine wpAnyH_ready (rs := [10]) (by kernel_rfl) (by simp) ?_; refine AllReadyH.cons (o := _) rfl (fun K hK => ?_) AllReadyH.nil
    go_simp
    (go_at_call 13; refine (IC _ (hsl.chg hHeld)).mono ?_; rintro e u2 ⟨B3, m3, rfl, ho1, _, y2⟩; have hi1 := slk_rng ho1 HIR.out)
    refine hK.out _ _ (by (try dsimp only); exact hHeld.trans y2 (by simp)) (fun hHeld => ?_)
    clear hK K
    (try simp only [Act.put, List.setIfInBounds_toArray, List.set_cons_zero, List.set_cons_succ])
    refine wpAnyH_ready (rs := [12]) (by kernel_rfl) (by simp) ?_; refine AllReadyH.cons (o := _) rfl (fun K hK => ?_) AllReadyH.nil
    go_simp
    (go_at_call 14; refine (ID _ (hsl.chg hHeld)).mono ?_; rintro e u3 ⟨B4, m4, rfl, ho2, _, y3⟩; have hi2 := slk_rng ho2 HIR.out; replace hi1 := hi1.chg y3)
    refine hK.out _ _ (by (try dsimp only); exact hHeld.trans y3 (by simp)) (fun hHeld => ?_)
    clear hK K
    (try simp only [Act.put, List.setIfInBounds_toArray, List.set_cons_zero, List.set_cons_succ])
    refine wpAnyH_ready (rs := [13]) (by kernel_rfl) (by simp) ?_; refine AllReadyH.cons (o := _) rfl (fun K hK => ?_) AllReadyH.nil
    go_simp
    (go_at_call 12; refine (SameI_is _ _ _ I1 _ _ _ I1 true _ hi1 hi2 (by simp)).mono ?_; rintro e u4 ⟨rfl, y4⟩)
    refine hK.out _ _ (by (try dsimp only); exact hHeld.trans y4 (by simp)) (fun hHeld => ?_)
    clear hK K
    (try simp only [Act.put, List.setIfInBounds_toArray, List.set_cons_zero, List.set_cons_succ])
    (refine take_on 14 (some 24) (v := ?_) rfl rfl (by kernel_rfl) (by kernel_rfl) (by kernel_rfl) (fun _ _ _ h => h) (by rfl) (by assumption) ?_ ?_; rotate_left; · (intro w hSw; go_simp; (try with_reducible rfl)))
    (try simp only [Act.put, List.setIfInBounds_toArray, List.set_cons_zero, List.set_cons_succ])
    (refine take_on 15 (some 25) (v := ?_) rfl rfl (by kernel_rfl) (by kernel_rfl) (by kernel_rfl) (fun _ _ _ h => h) (by rfl) (by assumption) ?_ ?_; rotate_left; · (intro w hSw; go_simp; (try with_reducible rfl)))
    (try simp only [Act.put, List.setIfInBounds_toArray, List.set_cons_zero, List.set_cons_succ])
    (refine take_on 16 (some 26) (v := ?_) rfl rfl (by kernel_rfl) (by kernel_rfl) (by kernel_rfl) (fun _ _ _ h => h) (by rfl) (by assumption) ?_ ?_; rotate_left; · (intro w hSw; (try dsimp only at hSw); have b_ := b1.chg_ hSw (by simp); obtain ⟨d0, d1, d2, d3, d4, d5, d6⟩ := cfc7 b_; go_simp; (try with_reducible rfl)))
    (try simp only [Act.put, List.setIfInBounds_toArray, List.set_cons_zero, List.set_cons_succ])
    (refine take_on 18 (some 28) (v := ?_) rfl rfl (by kernel_rfl) (by kernel_rfl) (by kernel_rfl) (fun _ _ _ h => h) (by rfl) (by assumption) ?_ ?_; rotate_left; · (intro w hSw; (try dsimp only at hSw); have b_ := b1.chg_ hSw (by simp); obtain ⟨d0, d1, d2, d3, d4, d5, d6⟩ := cfc7 b_; go_simp; (try with_reducible rfl)))
    (try simp only [Act.put, List.setIfInBounds_toArray, List.set_cons_zero, List.set_cons_succ])
    refine wpAnyH_ready (rs := [17]) (by kernel_rfl) (by simp) ?_; refine AllReadyH.cons (o := _) rfl (fun K hK => ?_) AllReadyH.nil
    go_simp
    (go_at_call 15; refine (FC _ (hsl.chg hHeld)).mono ?_; rintro e u5 ⟨B5, m5, rfl, ho3, _, y5⟩; have hi3 := slk_rng ho3 HFR.out)
    refine hK.out _ _ (by (try dsimp only); exact hHeld.trans y5 (by simp)) (fun hHeld => ?_)
    clear hK K
    (try simp only [Act.put, List.setIfInBounds_toArray, List.set_cons_zero, List.set_cons_succ])
    refine wpAnyH_ready (rs := [19]) (by kernel_rfl) (by simp) ?_; refine AllReadyH.cons (o := _) rfl (fun K hK => ?_) AllReadyH.nil
    go_simp
    (go_at_call 16; refine (FD _ (hsl.chg hHeld)).mono ?_; rintro e u6 ⟨B6, m6, rfl, ho4, _, y6⟩; have hi4 := slk_rng ho4 HFR.out; replace hi3 := hi3.chg y6)
    refine hK.out _ _ (by (try dsimp only); exact hHeld.trans y6 (by simp)) (fun hHeld => ?_)
    clear hK K
    (try simp only [Act.put, List.setIfInBounds_toArray, List.set_cons_zero, List.set_cons_succ])
    refine wpAnyH_ready (rs := [20]) (by kernel_rfl) (by simp) ?_; refine AllReadyH.cons (o := _) rfl (fun K hK => ?_) AllReadyH.nil
    go_simp
    (go_at_call 12; refine (SameI_is _ _ _ I2 _ _ _ I2 true _ hi3 hi4 (by simp)).mono ?_; rintro e u7 ⟨rfl, y7⟩)
    refine hK.out _ _ (by (try dsimp only); exact hHeld.trans y7 (by simp)) (fun hHeld => ?_)
    clear hK K
    (try simp only [Act.put, List.setIfInBounds_toArray, List.set_cons_zero, List.set_cons_succ])
    (refine take_on 21 (some 31) (v := ?_) rfl rfl (by kernel_rfl) (by kernel_rfl) (by kernel_rfl) (fun _ _ _ h => h) (by rfl) (by assumption) ?_ ?_; rotate_left; · (intro w hSw; go_simp; (try with_reducible rfl)))
    (try simp only [Act.put, List.setIfInBounds_toArray, List.set_cons_zero, List.set_cons_succ])
    (refine take_on 22 (some 2) (v := ?_) rfl rfl (by kernel_rfl) (by kernel_rfl) (by kernel_rfl) (fun _ _ _ h => h) (by rfl) (by assumption) ?_ ?_; rotate_left; · (intro w hSw; go_simp; (try with_reducible rfl)))
    (try simp only [Act.put, List.setIfInBounds_toArray, List.set_cons_zero, List.set_cons_succ])
    refine wpAnyH_done (by kernel_rfl) ?_ _
    refine NoPanic.normal ?_
    go_wp2_with fail
    go_ret
    exact ⟨rfl, hc.trans hHeld (by simp)⟩

end Go.Proofs.Ytkggkdjhecagnaa
